/-
  No cell of these rows narrows 'for every input' (looked for: loops, veiled, ifaces, maps, wideKeys, modest, calm, conditions, laid).
  DERIVED. THE GIVEN ROWS OF THIS SEAT. 4 by the template 'for every input the law returns true; each argument reads behind the call as it read before'; 0 by the template 'total and deterministic' (their statements: YtjcbndnldmpmaaaTotals.lean).
  GIVEN WITH THE SEED: the statements are not yours to turn. If you find one false, say at which input.
  Laid BY PROGRAM, IN A SANDBOX (cutbox-rows.mjs): the forced cells as the released guide's own fill.sh prints them over the translation e437593c94ee6bf9… (all of the seat's roots in one cut). By AI agents, Wed Nov 11 2026. No macro, syntax, notation, axiom, sorry.
-/
import Derived.Test.YtjcbndnldmpmaaaChecked
import GoSem.Claim
import GoSem.ClaimJoined
import GoSem.ClaimMapViews
import Derived.JoinedTies
import Derived.KernelRfl
namespace Go.Proofs.Ytjcbndnldmpmaaa
/- THE CELL 'sum', in the pinned program and in every row, IS THE sha256 OF THE DUMP (.gsa) THAT YtjcbndnldmpmaaaProg.lean LOADS. Nothing in Lean hashes anything: it is a label: what it is worth is what the hold of that sum in a sandbox is worth. -/
noncomputable def Try.pinned : Pinned := { name := "ytjcbndnldmpmaaa", sum := "e437593c94ee6bf92f73c3c50a213cf579d67096bef3aae191c20772df67a56b", checked := Try.checked }
namespace Rows
def none {H : Type} : Left H := { results := [], args := [] }

/-- 'pursuivantlaw02.CycTable': WHATEVER THE INPUT: true; the input reads as it did. -/
def cycTableSpec : ChangeSpec := { name := "cycTable", fn := fun _ => fun
  | [d] => { results := [.lit (.bool true)], args := [d] }
  | _ => none }
def cycTableRow : OpenClaim := { program := "ytjcbndnldmpmaaa", sum := "e437593c94ee6bf92f73c3c50a213cf579d67096bef3aae191c20772df67a56b", func := "pursuivant/pursuivantlaw02.CycTable", spec := "cycTable", apart := false }
def CycTableSaid : Prop := cycTableRow.holds Try.pinned (OpenSpec.ofChange cycTableSpec)

/-- ITS FALSE NEIGHBOUR: 'it returns false'. Refute it at one input. -/
def cycTableWrong : ChangeSpec := { name := "cycTable", fn := fun _ => fun
  | [d] => { results := [.lit (.bool false)], args := [d] }
  | _ => none }
def CycTableWrongFalsely : Prop := cycTableRow.holds Try.pinned (OpenSpec.ofChange cycTableWrong)

/-- 'pursuivantlaw02.CycSum': WHATEVER THE INPUT: true; the input reads as it did. -/
def cycSumSpec : ChangeSpec := { name := "cycSum", fn := fun _ => fun
  | [d1, d2, d3, d4] => { results := [.lit (.bool true)], args := [d1, d2, d3, d4] }
  | _ => none }
def cycSumRow : OpenClaim := { program := "ytjcbndnldmpmaaa", sum := "e437593c94ee6bf92f73c3c50a213cf579d67096bef3aae191c20772df67a56b", func := "pursuivant/pursuivantlaw02.CycSum", spec := "cycSum", apart := false }
def CycSumSaid : Prop := cycSumRow.holds Try.pinned (OpenSpec.ofChange cycSumSpec)

/-- ITS FALSE NEIGHBOUR: 'it returns false'. Refute it at one input. -/
def cycSumWrong : ChangeSpec := { name := "cycSum", fn := fun _ => fun
  | [d1, d2, d3, d4] => { results := [.lit (.bool false)], args := [d1, d2, d3, d4] }
  | _ => none }
def CycSumWrongFalsely : Prop := cycSumRow.holds Try.pinned (OpenSpec.ofChange cycSumWrong)

/-- 'pursuivantlaw02.CycApart': WHATEVER THE INPUT: true; the input reads as it did. -/
def cycApartSpec : ChangeSpec := { name := "cycApart", fn := fun _ => fun
  | [d1, d2, d3] => { results := [.lit (.bool true)], args := [d1, d2, d3] }
  | _ => none }
def cycApartRow : OpenClaim := { program := "ytjcbndnldmpmaaa", sum := "e437593c94ee6bf92f73c3c50a213cf579d67096bef3aae191c20772df67a56b", func := "pursuivant/pursuivantlaw02.CycApart", spec := "cycApart", apart := false }
def CycApartSaid : Prop := cycApartRow.holds Try.pinned (OpenSpec.ofChange cycApartSpec)

/-- ITS FALSE NEIGHBOUR: 'it returns false'. Refute it at one input. -/
def cycApartWrong : ChangeSpec := { name := "cycApart", fn := fun _ => fun
  | [d1, d2, d3] => { results := [.lit (.bool false)], args := [d1, d2, d3] }
  | _ => none }
def CycApartWrongFalsely : Prop := cycApartRow.holds Try.pinned (OpenSpec.ofChange cycApartWrong)

/-- 'pursuivantlaw02.CycParts': WHATEVER THE INPUT: true; the input reads as it did. -/
def cycPartsSpec : ChangeSpec := { name := "cycParts", fn := fun _ => fun
  | [d1, d2, d3] => { results := [.lit (.bool true)], args := [d1, d2, d3] }
  | _ => none }
def cycPartsRow : OpenClaim := { program := "ytjcbndnldmpmaaa", sum := "e437593c94ee6bf92f73c3c50a213cf579d67096bef3aae191c20772df67a56b", func := "pursuivant/pursuivantlaw02.CycParts", spec := "cycParts", apart := false }
def CycPartsSaid : Prop := cycPartsRow.holds Try.pinned (OpenSpec.ofChange cycPartsSpec)

/-- ITS FALSE NEIGHBOUR: 'it returns false'. Refute it at one input. -/
def cycPartsWrong : ChangeSpec := { name := "cycParts", fn := fun _ => fun
  | [d1, d2, d3] => { results := [.lit (.bool false)], args := [d1, d2, d3] }
  | _ => none }
def CycPartsWrongFalsely : Prop := cycPartsRow.holds Try.pinned (OpenSpec.ofChange cycPartsWrong)

/- THE SECOND FORM. 'bulk': how many values and letters a reading holds, each counted each time it is reached (what is shared counts as often as it is met; a slice's spare places count too). A statement '..UptoSaid' is the law's where the arguments, and the package variables that the reading takes, are together of bulk at most 1048576: NARROWER than '..Said'. Prove '..Said' where nothing that the law and all that it calls make is longer than what came in: it says more and counts as full. Else prove '..UptoSaid'. A law counts once. -/
mutual
def uptoBulk {H : Type} : DataW H → Nat
  | .lit (.string bytes) => bytes.length + 1
  | .lit _ => 1
  | .nil => 1
  | .ptr d => uptoBulk d + 1
  | .slice elems spare => uptoBulkAll elems + uptoBulkAll spare + 1
  | .agg parts => uptoBulkAll parts + 1
  | .iface _ d => uptoBulk d + 1
  | .map entries => uptoBulkEntries entries + 1
  | .held _ => 1
def uptoBulkAll {H : Type} : List (DataW H) → Nat
  | [] => 0
  | d :: r => uptoBulk d + uptoBulkAll r
def uptoBulkEntries {H : Type} : List (Lit × DataW H) → Nat
  | [] => 0
  | x :: r => uptoBulkEntry x + uptoBulkEntries r
def uptoBulkEntry {H : Type} : Lit × DataW H → Nat
  | (.string bytes, d) => bytes.length + uptoBulk d + 1
  | (_, d) => uptoBulk d + 1
 end
def uptoSmall : (H : Type) → List (DataW H) → Bool := fun _ ds => decide (uptoBulkAll ds ≤ 1048576)
def OpenSpec.upto (s : _root_.Go.ChangeSpec) : _root_.Go.OpenSpec := { _root_.Go.OpenSpec.ofChange s with cond := some uptoSmall }

/-- 'pursuivantlaw02.CycTable', WHERE WHAT IT READS IS OF BULK AT MOST 1048576: true; the input reads as it did. -/
def cycTableUptoRow : OpenClaim := { program := "ytjcbndnldmpmaaa", sum := "e437593c94ee6bf92f73c3c50a213cf579d67096bef3aae191c20772df67a56b", func := "pursuivant/pursuivantlaw02.CycTable", spec := "cycTable", apart := false, narrowed := true }
def CycTableUptoSaid : Prop := cycTableUptoRow.holds Try.pinned (OpenSpec.upto cycTableSpec)

/-- 'pursuivantlaw02.CycSum', WHERE WHAT IT READS IS OF BULK AT MOST 1048576: true; the input reads as it did. -/
def cycSumUptoRow : OpenClaim := { program := "ytjcbndnldmpmaaa", sum := "e437593c94ee6bf92f73c3c50a213cf579d67096bef3aae191c20772df67a56b", func := "pursuivant/pursuivantlaw02.CycSum", spec := "cycSum", apart := false, narrowed := true }
def CycSumUptoSaid : Prop := cycSumUptoRow.holds Try.pinned (OpenSpec.upto cycSumSpec)

/-- 'pursuivantlaw02.CycApart', WHERE WHAT IT READS IS OF BULK AT MOST 1048576: true; the input reads as it did. -/
def cycApartUptoRow : OpenClaim := { program := "ytjcbndnldmpmaaa", sum := "e437593c94ee6bf92f73c3c50a213cf579d67096bef3aae191c20772df67a56b", func := "pursuivant/pursuivantlaw02.CycApart", spec := "cycApart", apart := false, narrowed := true }
def CycApartUptoSaid : Prop := cycApartUptoRow.holds Try.pinned (OpenSpec.upto cycApartSpec)

/-- 'pursuivantlaw02.CycParts', WHERE WHAT IT READS IS OF BULK AT MOST 1048576: true; the input reads as it did. -/
def cycPartsUptoRow : OpenClaim := { program := "ytjcbndnldmpmaaa", sum := "e437593c94ee6bf92f73c3c50a213cf579d67096bef3aae191c20772df67a56b", func := "pursuivant/pursuivantlaw02.CycParts", spec := "cycParts", apart := false, narrowed := true }
def CycPartsUptoSaid : Prop := cycPartsUptoRow.holds Try.pinned (OpenSpec.upto cycPartsSpec)

end Rows
end Go.Proofs.Ytjcbndnldmpmaaa
