/-
  No cell of these rows narrows 'for every input' (looked for: loops, veiled, ifaces, maps, wideKeys, modest, calm, conditions, laid).
  DERIVED. THE GIVEN ROWS OF THIS SEAT. 4 by the template 'for every input the law returns true; each argument reads behind the call as it read before'; 0 by the template 'total and deterministic' (their statements: YtaabhnjikggomaaTotals.lean).
  GIVEN WITH THE SEED: the statements are not yours to turn. If you find one false, say at which input.
  Laid BY PROGRAM, IN A SANDBOX (cutbox-rows.mjs): the forced cells as the released guide's own fill.sh prints them over the translation 2d325c49b5737977… (all of the seat's roots in one cut). By AI agents, Wed Nov 11 2026. No macro, syntax, notation, axiom, sorry.
-/
import Derived.Test.YtaabhnjikggomaaChecked
import GoSem.Claim
import GoSem.ClaimJoined
import GoSem.ClaimMapViews
import Derived.JoinedTies
import Derived.KernelRfl
namespace Go.Proofs.Ytaabhnjikggomaa
/- THE CELL 'sum', in the pinned program and in every row, IS THE sha256 OF THE DUMP (.gsa) THAT YtaabhnjikggomaaProg.lean LOADS. Nothing in Lean hashes anything: it is a label: what it is worth is what the hold of that sum in a sandbox is worth. -/
noncomputable def Try.pinned : Pinned := { name := "ytaabhnjikggomaa", sum := "2d325c49b5737977214c25354706825be1753efd29912280a47e3ffbe2597b77", checked := Try.checked }
namespace Rows
def none {H : Type} : Left H := { results := [], args := [] }

/-- 'pursuivantlaw03.ChunkPacks': WHATEVER THE INPUT: true; the input reads as it did. -/
def chunkPacksSpec : ChangeSpec := { name := "chunkPacks", fn := fun _ => fun
  | [d1, d2, d3] => { results := [.lit (.bool true)], args := [d1, d2, d3] }
  | _ => none }
def chunkPacksRow : OpenClaim := { program := "ytaabhnjikggomaa", sum := "2d325c49b5737977214c25354706825be1753efd29912280a47e3ffbe2597b77", func := "pursuivant/pursuivantlaw03.ChunkPacks", spec := "chunkPacks", unfollowed := true, recurses := true, apart := false }
def ChunkPacksSaid : Prop := chunkPacksRow.holds Try.pinned (OpenSpec.ofChange chunkPacksSpec)

/-- ITS FALSE NEIGHBOUR: 'it returns false'. Refute it at one input. -/
def chunkPacksWrong : ChangeSpec := { name := "chunkPacks", fn := fun _ => fun
  | [d1, d2, d3] => { results := [.lit (.bool false)], args := [d1, d2, d3] }
  | _ => none }
def ChunkPacksWrongFalsely : Prop := chunkPacksRow.holds Try.pinned (OpenSpec.ofChange chunkPacksWrong)

/-- 'pursuivantlaw03.ChunkUnpacks': WHATEVER THE INPUT: true; the input reads as it did. -/
def chunkUnpacksSpec : ChangeSpec := { name := "chunkUnpacks", fn := fun _ => fun
  | [d1, d2] => { results := [.lit (.bool true)], args := [d1, d2] }
  | _ => none }
def chunkUnpacksRow : OpenClaim := { program := "ytaabhnjikggomaa", sum := "2d325c49b5737977214c25354706825be1753efd29912280a47e3ffbe2597b77", func := "pursuivant/pursuivantlaw03.ChunkUnpacks", spec := "chunkUnpacks", unfollowed := true, recurses := true, apart := false }
def ChunkUnpacksSaid : Prop := chunkUnpacksRow.holds Try.pinned (OpenSpec.ofChange chunkUnpacksSpec)

/-- ITS FALSE NEIGHBOUR: 'it returns false'. Refute it at one input. -/
def chunkUnpacksWrong : ChangeSpec := { name := "chunkUnpacks", fn := fun _ => fun
  | [d1, d2] => { results := [.lit (.bool false)], args := [d1, d2] }
  | _ => none }
def ChunkUnpacksWrongFalsely : Prop := chunkUnpacksRow.holds Try.pinned (OpenSpec.ofChange chunkUnpacksWrong)

/-- 'pursuivantlaw03.ChunkRound': WHATEVER THE INPUT: true; the input reads as it did. -/
def chunkRoundSpec : ChangeSpec := { name := "chunkRound", fn := fun _ => fun
  | [d1, d2, d3, d4, d5] => { results := [.lit (.bool true)], args := [d1, d2, d3, d4, d5] }
  | _ => none }
def chunkRoundRow : OpenClaim := { program := "ytaabhnjikggomaa", sum := "2d325c49b5737977214c25354706825be1753efd29912280a47e3ffbe2597b77", func := "pursuivant/pursuivantlaw03.ChunkRound", spec := "chunkRound", unfollowed := true, recurses := true, apart := false }
def ChunkRoundSaid : Prop := chunkRoundRow.holds Try.pinned (OpenSpec.ofChange chunkRoundSpec)

/-- ITS FALSE NEIGHBOUR: 'it returns false'. Refute it at one input. -/
def chunkRoundWrong : ChangeSpec := { name := "chunkRound", fn := fun _ => fun
  | [d1, d2, d3, d4, d5] => { results := [.lit (.bool false)], args := [d1, d2, d3, d4, d5] }
  | _ => none }
def ChunkRoundWrongFalsely : Prop := chunkRoundRow.holds Try.pinned (OpenSpec.ofChange chunkRoundWrong)

/-- 'pursuivantlaw03.ChunkSpoilt': WHATEVER THE INPUT: true; the input reads as it did. -/
def chunkSpoiltSpec : ChangeSpec := { name := "chunkSpoilt", fn := fun _ => fun
  | [d1, d2, d3, d4] => { results := [.lit (.bool true)], args := [d1, d2, d3, d4] }
  | _ => none }
def chunkSpoiltRow : OpenClaim := { program := "ytaabhnjikggomaa", sum := "2d325c49b5737977214c25354706825be1753efd29912280a47e3ffbe2597b77", func := "pursuivant/pursuivantlaw03.ChunkSpoilt", spec := "chunkSpoilt", unfollowed := true, recurses := true, apart := false }
def ChunkSpoiltSaid : Prop := chunkSpoiltRow.holds Try.pinned (OpenSpec.ofChange chunkSpoiltSpec)

/-- ITS FALSE NEIGHBOUR: 'it returns false'. Refute it at one input. -/
def chunkSpoiltWrong : ChangeSpec := { name := "chunkSpoilt", fn := fun _ => fun
  | [d1, d2, d3, d4] => { results := [.lit (.bool false)], args := [d1, d2, d3, d4] }
  | _ => none }
def ChunkSpoiltWrongFalsely : Prop := chunkSpoiltRow.holds Try.pinned (OpenSpec.ofChange chunkSpoiltWrong)

/- THE SECOND FORM. 'bulk': how many values and letters a reading holds, each counted each time it is reached (what is shared counts as often as it is met; a slice's spare places count too). A statement '..UptoSaid' is the law's where the arguments, and the package variables that the reading takes, are together of bulk at most 1048576: NARROWER than '..Said'. Prove '..Said' where nothing that the law and all that it calls make is longer than what came in: it says more and counts as full. Else prove '..UptoSaid'. A law counts once. -/
mutual
def uptoBulk {H : Type} : DataW H → Nat
  | .lit (.string bytes) => bytes.length + 1
  | .lit _ => 1
  | .nil => 1
  | .ptr d => uptoBulk d + 1
  | .slice elems spare => uptoBulkAll elems + uptoBulkAll spare + 1
  | .agg parts => uptoBulkAll parts + 1
  | .iface _ d => uptoBulk d + 1
  | .map entries => uptoBulkEntries entries + 1
  | .held _ => 1
def uptoBulkAll {H : Type} : List (DataW H) → Nat
  | [] => 0
  | d :: r => uptoBulk d + uptoBulkAll r
def uptoBulkEntries {H : Type} : List (Lit × DataW H) → Nat
  | [] => 0
  | x :: r => uptoBulkEntry x + uptoBulkEntries r
def uptoBulkEntry {H : Type} : Lit × DataW H → Nat
  | (.string bytes, d) => bytes.length + uptoBulk d + 1
  | (_, d) => uptoBulk d + 1
 end
def uptoSmall : (H : Type) → List (DataW H) → Bool := fun _ ds => decide (uptoBulkAll ds ≤ 1048576)
def OpenSpec.upto (s : _root_.Go.ChangeSpec) : _root_.Go.OpenSpec := { _root_.Go.OpenSpec.ofChange s with cond := some uptoSmall }

/-- 'pursuivantlaw03.ChunkPacks', WHERE WHAT IT READS IS OF BULK AT MOST 1048576: true; the input reads as it did. -/
def chunkPacksUptoRow : OpenClaim := { program := "ytaabhnjikggomaa", sum := "2d325c49b5737977214c25354706825be1753efd29912280a47e3ffbe2597b77", func := "pursuivant/pursuivantlaw03.ChunkPacks", spec := "chunkPacks", unfollowed := true, recurses := true, apart := false, narrowed := true }
def ChunkPacksUptoSaid : Prop := chunkPacksUptoRow.holds Try.pinned (OpenSpec.upto chunkPacksSpec)

/-- 'pursuivantlaw03.ChunkUnpacks', WHERE WHAT IT READS IS OF BULK AT MOST 1048576: true; the input reads as it did. -/
def chunkUnpacksUptoRow : OpenClaim := { program := "ytaabhnjikggomaa", sum := "2d325c49b5737977214c25354706825be1753efd29912280a47e3ffbe2597b77", func := "pursuivant/pursuivantlaw03.ChunkUnpacks", spec := "chunkUnpacks", unfollowed := true, recurses := true, apart := false, narrowed := true }
def ChunkUnpacksUptoSaid : Prop := chunkUnpacksUptoRow.holds Try.pinned (OpenSpec.upto chunkUnpacksSpec)

/-- 'pursuivantlaw03.ChunkRound', WHERE WHAT IT READS IS OF BULK AT MOST 1048576: true; the input reads as it did. -/
def chunkRoundUptoRow : OpenClaim := { program := "ytaabhnjikggomaa", sum := "2d325c49b5737977214c25354706825be1753efd29912280a47e3ffbe2597b77", func := "pursuivant/pursuivantlaw03.ChunkRound", spec := "chunkRound", unfollowed := true, recurses := true, apart := false, narrowed := true }
def ChunkRoundUptoSaid : Prop := chunkRoundUptoRow.holds Try.pinned (OpenSpec.upto chunkRoundSpec)

/-- 'pursuivantlaw03.ChunkSpoilt', WHERE WHAT IT READS IS OF BULK AT MOST 1048576: true; the input reads as it did. -/
def chunkSpoiltUptoRow : OpenClaim := { program := "ytaabhnjikggomaa", sum := "2d325c49b5737977214c25354706825be1753efd29912280a47e3ffbe2597b77", func := "pursuivant/pursuivantlaw03.ChunkSpoilt", spec := "chunkSpoilt", unfollowed := true, recurses := true, apart := false, narrowed := true }
def ChunkSpoiltUptoSaid : Prop := chunkSpoiltUptoRow.holds Try.pinned (OpenSpec.upto chunkSpoiltSpec)

end Rows
end Go.Proofs.Ytaabhnjikggomaa
