/-
  No cell of these rows narrows 'for every input' (looked for: loops, veiled, ifaces, maps, wideKeys, modest, calm, conditions, laid).
  DERIVED. THE GIVEN ROWS OF THIS SEAT. 4 by the template 'for every input the law returns true; each argument reads behind the call as it read before'; 0 by the template 'total and deterministic' (their statements: YtmoecebcmioebaaTotals.lean).
  GIVEN WITH THE SEED: the statements are not yours to turn. If you find one false, say at which input.
  Laid BY PROGRAM, IN A SANDBOX (cutbox-rows.mjs): the forced cells as the released guide's own fill.sh prints them over the translation 173f4e0d72ef6357… (all of the seat's roots in one cut). By AI agents, Wed Nov 11 2026. No macro, syntax, notation, axiom, sorry.
-/
import Derived.Test.YtmoecebcmioebaaChecked
import GoSem.Claim
import GoSem.ClaimJoined
import GoSem.ClaimMapViews
import Derived.JoinedTies
import Derived.KernelRfl
namespace Go.Proofs.Ytmoecebcmioebaa
/- THE CELL 'sum', in the pinned program and in every row, IS THE sha256 OF THE DUMP (.gsa) THAT YtmoecebcmioebaaProg.lean LOADS. Nothing in Lean hashes anything: it is a label: what it is worth is what the hold of that sum in a sandbox is worth. -/
noncomputable def Try.pinned : Pinned := { name := "ytmoecebcmioebaa", sum := "173f4e0d72ef6357b99ed63f61bb627420fadc8f520c99e59aad007ed43155ec", checked := Try.checked }
namespace Rows
def none {H : Type} : Left H := { results := [], args := [] }

/-- 'pursuivantlaw01.LebPuts': WHATEVER THE INPUT: true; the input reads as it did. -/
def lebPutsSpec : ChangeSpec := { name := "lebPuts", fn := fun _ => fun
  | [d1, d2] => { results := [.lit (.bool true)], args := [d1, d2] }
  | _ => none }
def lebPutsRow : OpenClaim := { program := "ytmoecebcmioebaa", sum := "173f4e0d72ef6357b99ed63f61bb627420fadc8f520c99e59aad007ed43155ec", func := "pursuivant/pursuivantlaw01.LebPuts", spec := "lebPuts", apart := false }
def LebPutsSaid : Prop := lebPutsRow.holds Try.pinned (OpenSpec.ofChange lebPutsSpec)

/-- ITS FALSE NEIGHBOUR: 'it returns false'. Refute it at one input. -/
def lebPutsWrong : ChangeSpec := { name := "lebPuts", fn := fun _ => fun
  | [d1, d2] => { results := [.lit (.bool false)], args := [d1, d2] }
  | _ => none }
def LebPutsWrongFalsely : Prop := lebPutsRow.holds Try.pinned (OpenSpec.ofChange lebPutsWrong)

/-- 'pursuivantlaw01.LebTakes': WHATEVER THE INPUT: true; the input reads as it did. -/
def lebTakesSpec : ChangeSpec := { name := "lebTakes", fn := fun _ => fun
  | [d1, d2] => { results := [.lit (.bool true)], args := [d1, d2] }
  | _ => none }
def lebTakesRow : OpenClaim := { program := "ytmoecebcmioebaa", sum := "173f4e0d72ef6357b99ed63f61bb627420fadc8f520c99e59aad007ed43155ec", func := "pursuivant/pursuivantlaw01.LebTakes", spec := "lebTakes", apart := false }
def LebTakesSaid : Prop := lebTakesRow.holds Try.pinned (OpenSpec.ofChange lebTakesSpec)

/-- ITS FALSE NEIGHBOUR: 'it returns false'. Refute it at one input. -/
def lebTakesWrong : ChangeSpec := { name := "lebTakes", fn := fun _ => fun
  | [d1, d2] => { results := [.lit (.bool false)], args := [d1, d2] }
  | _ => none }
def LebTakesWrongFalsely : Prop := lebTakesRow.holds Try.pinned (OpenSpec.ofChange lebTakesWrong)

/-- 'pursuivantlaw01.LebRound': WHATEVER THE INPUT: true; the input reads as it did. -/
def lebRoundSpec : ChangeSpec := { name := "lebRound", fn := fun _ => fun
  | [d1, d2, d3] => { results := [.lit (.bool true)], args := [d1, d2, d3] }
  | _ => none }
def lebRoundRow : OpenClaim := { program := "ytmoecebcmioebaa", sum := "173f4e0d72ef6357b99ed63f61bb627420fadc8f520c99e59aad007ed43155ec", func := "pursuivant/pursuivantlaw01.LebRound", spec := "lebRound", apart := false }
def LebRoundSaid : Prop := lebRoundRow.holds Try.pinned (OpenSpec.ofChange lebRoundSpec)

/-- ITS FALSE NEIGHBOUR: 'it returns false'. Refute it at one input. -/
def lebRoundWrong : ChangeSpec := { name := "lebRound", fn := fun _ => fun
  | [d1, d2, d3] => { results := [.lit (.bool false)], args := [d1, d2, d3] }
  | _ => none }
def LebRoundWrongFalsely : Prop := lebRoundRow.holds Try.pinned (OpenSpec.ofChange lebRoundWrong)

/-- 'pursuivantlaw01.LebOrder': WHATEVER THE INPUT: true; the input reads as it did. -/
def lebOrderSpec : ChangeSpec := { name := "lebOrder", fn := fun _ => fun
  | [d1, d2] => { results := [.lit (.bool true)], args := [d1, d2] }
  | _ => none }
def lebOrderRow : OpenClaim := { program := "ytmoecebcmioebaa", sum := "173f4e0d72ef6357b99ed63f61bb627420fadc8f520c99e59aad007ed43155ec", func := "pursuivant/pursuivantlaw01.LebOrder", spec := "lebOrder", apart := false }
def LebOrderSaid : Prop := lebOrderRow.holds Try.pinned (OpenSpec.ofChange lebOrderSpec)

/-- ITS FALSE NEIGHBOUR: 'it returns false'. Refute it at one input. -/
def lebOrderWrong : ChangeSpec := { name := "lebOrder", fn := fun _ => fun
  | [d1, d2] => { results := [.lit (.bool false)], args := [d1, d2] }
  | _ => none }
def LebOrderWrongFalsely : Prop := lebOrderRow.holds Try.pinned (OpenSpec.ofChange lebOrderWrong)

/- THE SECOND FORM. 'bulk': how many values and letters a reading holds, each counted each time it is reached (what is shared counts as often as it is met; a slice's spare places count too). A statement '..UptoSaid' is the law's where the arguments, and the package variables that the reading takes, are together of bulk at most 1048576: NARROWER than '..Said'. Prove '..Said' where nothing that the law and all that it calls make is longer than what came in: it says more and counts as full. Else prove '..UptoSaid'. A law counts once. -/
mutual
def uptoBulk {H : Type} : DataW H → Nat
  | .lit (.string bytes) => bytes.length + 1
  | .lit _ => 1
  | .nil => 1
  | .ptr d => uptoBulk d + 1
  | .slice elems spare => uptoBulkAll elems + uptoBulkAll spare + 1
  | .agg parts => uptoBulkAll parts + 1
  | .iface _ d => uptoBulk d + 1
  | .map entries => uptoBulkEntries entries + 1
  | .held _ => 1
def uptoBulkAll {H : Type} : List (DataW H) → Nat
  | [] => 0
  | d :: r => uptoBulk d + uptoBulkAll r
def uptoBulkEntries {H : Type} : List (Lit × DataW H) → Nat
  | [] => 0
  | x :: r => uptoBulkEntry x + uptoBulkEntries r
def uptoBulkEntry {H : Type} : Lit × DataW H → Nat
  | (.string bytes, d) => bytes.length + uptoBulk d + 1
  | (_, d) => uptoBulk d + 1
 end
def uptoSmall : (H : Type) → List (DataW H) → Bool := fun _ ds => decide (uptoBulkAll ds ≤ 1048576)
def OpenSpec.upto (s : _root_.Go.ChangeSpec) : _root_.Go.OpenSpec := { _root_.Go.OpenSpec.ofChange s with cond := some uptoSmall }

/-- 'pursuivantlaw01.LebPuts', WHERE WHAT IT READS IS OF BULK AT MOST 1048576: true; the input reads as it did. -/
def lebPutsUptoRow : OpenClaim := { program := "ytmoecebcmioebaa", sum := "173f4e0d72ef6357b99ed63f61bb627420fadc8f520c99e59aad007ed43155ec", func := "pursuivant/pursuivantlaw01.LebPuts", spec := "lebPuts", apart := false, narrowed := true }
def LebPutsUptoSaid : Prop := lebPutsUptoRow.holds Try.pinned (OpenSpec.upto lebPutsSpec)

/-- 'pursuivantlaw01.LebTakes', WHERE WHAT IT READS IS OF BULK AT MOST 1048576: true; the input reads as it did. -/
def lebTakesUptoRow : OpenClaim := { program := "ytmoecebcmioebaa", sum := "173f4e0d72ef6357b99ed63f61bb627420fadc8f520c99e59aad007ed43155ec", func := "pursuivant/pursuivantlaw01.LebTakes", spec := "lebTakes", apart := false, narrowed := true }
def LebTakesUptoSaid : Prop := lebTakesUptoRow.holds Try.pinned (OpenSpec.upto lebTakesSpec)

/-- 'pursuivantlaw01.LebRound', WHERE WHAT IT READS IS OF BULK AT MOST 1048576: true; the input reads as it did. -/
def lebRoundUptoRow : OpenClaim := { program := "ytmoecebcmioebaa", sum := "173f4e0d72ef6357b99ed63f61bb627420fadc8f520c99e59aad007ed43155ec", func := "pursuivant/pursuivantlaw01.LebRound", spec := "lebRound", apart := false, narrowed := true }
def LebRoundUptoSaid : Prop := lebRoundUptoRow.holds Try.pinned (OpenSpec.upto lebRoundSpec)

/-- 'pursuivantlaw01.LebOrder', WHERE WHAT IT READS IS OF BULK AT MOST 1048576: true; the input reads as it did. -/
def lebOrderUptoRow : OpenClaim := { program := "ytmoecebcmioebaa", sum := "173f4e0d72ef6357b99ed63f61bb627420fadc8f520c99e59aad007ed43155ec", func := "pursuivant/pursuivantlaw01.LebOrder", spec := "lebOrder", apart := false, narrowed := true }
def LebOrderUptoSaid : Prop := lebOrderUptoRow.holds Try.pinned (OpenSpec.upto lebOrderSpec)

end Rows
end Go.Proofs.Ytmoecebcmioebaa
