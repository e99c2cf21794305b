/-
  No cell of these rows narrows 'for every input' (looked for: loops, veiled, ifaces, maps, wideKeys, modest, calm, conditions, laid).
  DERIVED. THE GIVEN ROWS OF THIS SEAT. 4 by the template 'for every input the law returns true; each argument reads behind the call as it read before'; 0 by the template 'total and deterministic' (their statements: YtodncamohimmmaaTotals.lean).
  GIVEN WITH THE SEED: the statements are not yours to turn. If you find one false, say at which input.
  Laid BY PROGRAM, IN A SANDBOX (cutbox-rows.mjs): the forced cells as the released guide's own fill.sh prints them over the translation 6ebe3441d0f21530… (all of the seat's roots in one cut). By AI agents, Wed Nov 11 2026. No macro, syntax, notation, axiom, sorry.
-/
import Derived.Test.YtodncamohimmmaaChecked
import GoSem.Claim
import GoSem.ClaimJoined
import GoSem.ClaimMapViews
import Derived.JoinedTies
import Derived.KernelRfl
namespace Go.Proofs.Ytodncamohimmmaa
/- THE CELL 'sum', in the pinned program and in every row, IS THE sha256 OF THE DUMP (.gsa) THAT YtodncamohimmmaaProg.lean LOADS. Nothing in Lean hashes anything: it is a label: what it is worth is what the hold of that sum in a sandbox is worth. -/
noncomputable def Try.pinned : Pinned := { name := "ytodncamohimmmaa", sum := "6ebe3441d0f21530d4649bd350049b2c7dd37b085e95ce31c40e7e7361e3873b", checked := Try.checked }
namespace Rows
def none {H : Type} : Left H := { results := [], args := [] }

/-- 'pursuivantlaw21.EventGoods': WHATEVER THE INPUT: true; the input reads as it did. -/
def eventGoodsSpec : ChangeSpec := { name := "eventGoods", fn := fun _ => fun
  | [d] => { results := [.lit (.bool true)], args := [d] }
  | _ => none }
def eventGoodsRow : OpenClaim := { program := "ytodncamohimmmaa", sum := "6ebe3441d0f21530d4649bd350049b2c7dd37b085e95ce31c40e7e7361e3873b", func := "pursuivant/pursuivantlaw21.EventGoods", spec := "eventGoods", unfollowed := true, recurses := true, plainKeys := false, apart := false }
def EventGoodsSaid : Prop := eventGoodsRow.holds Try.pinned (OpenSpec.ofChange eventGoodsSpec)

/-- ITS FALSE NEIGHBOUR: 'it returns false'. Refute it at one input. -/
def eventGoodsWrong : ChangeSpec := { name := "eventGoods", fn := fun _ => fun
  | [d] => { results := [.lit (.bool false)], args := [d] }
  | _ => none }
def EventGoodsWrongFalsely : Prop := eventGoodsRow.holds Try.pinned (OpenSpec.ofChange eventGoodsWrong)

/-- 'pursuivantlaw21.EventPuts': WHATEVER THE INPUT: true; the input reads as it did. -/
def eventPutsSpec : ChangeSpec := { name := "eventPuts", fn := fun _ => fun
  | [d] => { results := [.lit (.bool true)], args := [d] }
  | _ => none }
def eventPutsRow : OpenClaim := { program := "ytodncamohimmmaa", sum := "6ebe3441d0f21530d4649bd350049b2c7dd37b085e95ce31c40e7e7361e3873b", func := "pursuivant/pursuivantlaw21.EventPuts", spec := "eventPuts", unfollowed := true, recurses := true, plainKeys := false, apart := false }
def EventPutsSaid : Prop := eventPutsRow.holds Try.pinned (OpenSpec.ofChange eventPutsSpec)

/-- ITS FALSE NEIGHBOUR: 'it returns false'. Refute it at one input. -/
def eventPutsWrong : ChangeSpec := { name := "eventPuts", fn := fun _ => fun
  | [d] => { results := [.lit (.bool false)], args := [d] }
  | _ => none }
def EventPutsWrongFalsely : Prop := eventPutsRow.holds Try.pinned (OpenSpec.ofChange eventPutsWrong)

/-- 'pursuivantlaw21.EventTakes': WHATEVER THE INPUT: true; the input reads as it did. -/
def eventTakesSpec : ChangeSpec := { name := "eventTakes", fn := fun _ => fun
  | [d1, d2] => { results := [.lit (.bool true)], args := [d1, d2] }
  | _ => none }
def eventTakesRow : OpenClaim := { program := "ytodncamohimmmaa", sum := "6ebe3441d0f21530d4649bd350049b2c7dd37b085e95ce31c40e7e7361e3873b", func := "pursuivant/pursuivantlaw21.EventTakes", spec := "eventTakes", unfollowed := true, recurses := true, plainKeys := false, apart := false }
def EventTakesSaid : Prop := eventTakesRow.holds Try.pinned (OpenSpec.ofChange eventTakesSpec)

/-- ITS FALSE NEIGHBOUR: 'it returns false'. Refute it at one input. -/
def eventTakesWrong : ChangeSpec := { name := "eventTakes", fn := fun _ => fun
  | [d1, d2] => { results := [.lit (.bool false)], args := [d1, d2] }
  | _ => none }
def EventTakesWrongFalsely : Prop := eventTakesRow.holds Try.pinned (OpenSpec.ofChange eventTakesWrong)

/-- 'pursuivantlaw21.EventRound': WHATEVER THE INPUT: true; the input reads as it did. -/
def eventRoundSpec : ChangeSpec := { name := "eventRound", fn := fun _ => fun
  | [d1, d2] => { results := [.lit (.bool true)], args := [d1, d2] }
  | _ => none }
def eventRoundRow : OpenClaim := { program := "ytodncamohimmmaa", sum := "6ebe3441d0f21530d4649bd350049b2c7dd37b085e95ce31c40e7e7361e3873b", func := "pursuivant/pursuivantlaw21.EventRound", spec := "eventRound", unfollowed := true, recurses := true, plainKeys := false, apart := false }
def EventRoundSaid : Prop := eventRoundRow.holds Try.pinned (OpenSpec.ofChange eventRoundSpec)

/-- ITS FALSE NEIGHBOUR: 'it returns false'. Refute it at one input. -/
def eventRoundWrong : ChangeSpec := { name := "eventRound", fn := fun _ => fun
  | [d1, d2] => { results := [.lit (.bool false)], args := [d1, d2] }
  | _ => none }
def EventRoundWrongFalsely : Prop := eventRoundRow.holds Try.pinned (OpenSpec.ofChange eventRoundWrong)

/- THE SECOND FORM. 'bulk': how many values and letters a reading holds, each counted each time it is reached (what is shared counts as often as it is met; a slice's spare places count too). A statement '..UptoSaid' is the law's where the arguments, and the package variables that the reading takes, are together of bulk at most 1048576: NARROWER than '..Said'. Prove '..Said' where nothing that the law and all that it calls make is longer than what came in: it says more and counts as full. Else prove '..UptoSaid'. A law counts once. -/
mutual
def uptoBulk {H : Type} : DataW H → Nat
  | .lit (.string bytes) => bytes.length + 1
  | .lit _ => 1
  | .nil => 1
  | .ptr d => uptoBulk d + 1
  | .slice elems spare => uptoBulkAll elems + uptoBulkAll spare + 1
  | .agg parts => uptoBulkAll parts + 1
  | .iface _ d => uptoBulk d + 1
  | .map entries => uptoBulkEntries entries + 1
  | .held _ => 1
def uptoBulkAll {H : Type} : List (DataW H) → Nat
  | [] => 0
  | d :: r => uptoBulk d + uptoBulkAll r
def uptoBulkEntries {H : Type} : List (Lit × DataW H) → Nat
  | [] => 0
  | x :: r => uptoBulkEntry x + uptoBulkEntries r
def uptoBulkEntry {H : Type} : Lit × DataW H → Nat
  | (.string bytes, d) => bytes.length + uptoBulk d + 1
  | (_, d) => uptoBulk d + 1
 end
def uptoSmall : (H : Type) → List (DataW H) → Bool := fun _ ds => decide (uptoBulkAll ds ≤ 1048576)
def OpenSpec.upto (s : _root_.Go.ChangeSpec) : _root_.Go.OpenSpec := { _root_.Go.OpenSpec.ofChange s with cond := some uptoSmall }

/-- 'pursuivantlaw21.EventGoods', WHERE WHAT IT READS IS OF BULK AT MOST 1048576: true; the input reads as it did. -/
def eventGoodsUptoRow : OpenClaim := { program := "ytodncamohimmmaa", sum := "6ebe3441d0f21530d4649bd350049b2c7dd37b085e95ce31c40e7e7361e3873b", func := "pursuivant/pursuivantlaw21.EventGoods", spec := "eventGoods", unfollowed := true, recurses := true, plainKeys := false, apart := false, narrowed := true }
def EventGoodsUptoSaid : Prop := eventGoodsUptoRow.holds Try.pinned (OpenSpec.upto eventGoodsSpec)

/-- 'pursuivantlaw21.EventPuts', WHERE WHAT IT READS IS OF BULK AT MOST 1048576: true; the input reads as it did. -/
def eventPutsUptoRow : OpenClaim := { program := "ytodncamohimmmaa", sum := "6ebe3441d0f21530d4649bd350049b2c7dd37b085e95ce31c40e7e7361e3873b", func := "pursuivant/pursuivantlaw21.EventPuts", spec := "eventPuts", unfollowed := true, recurses := true, plainKeys := false, apart := false, narrowed := true }
def EventPutsUptoSaid : Prop := eventPutsUptoRow.holds Try.pinned (OpenSpec.upto eventPutsSpec)

/-- 'pursuivantlaw21.EventTakes', WHERE WHAT IT READS IS OF BULK AT MOST 1048576: true; the input reads as it did. -/
def eventTakesUptoRow : OpenClaim := { program := "ytodncamohimmmaa", sum := "6ebe3441d0f21530d4649bd350049b2c7dd37b085e95ce31c40e7e7361e3873b", func := "pursuivant/pursuivantlaw21.EventTakes", spec := "eventTakes", unfollowed := true, recurses := true, plainKeys := false, apart := false, narrowed := true }
def EventTakesUptoSaid : Prop := eventTakesUptoRow.holds Try.pinned (OpenSpec.upto eventTakesSpec)

/-- 'pursuivantlaw21.EventRound', WHERE WHAT IT READS IS OF BULK AT MOST 1048576: true; the input reads as it did. -/
def eventRoundUptoRow : OpenClaim := { program := "ytodncamohimmmaa", sum := "6ebe3441d0f21530d4649bd350049b2c7dd37b085e95ce31c40e7e7361e3873b", func := "pursuivant/pursuivantlaw21.EventRound", spec := "eventRound", unfollowed := true, recurses := true, plainKeys := false, apart := false, narrowed := true }
def EventRoundUptoSaid : Prop := eventRoundUptoRow.holds Try.pinned (OpenSpec.upto eventRoundSpec)

end Rows
end Go.Proofs.Ytodncamohimmmaa
