/-
  DERIVED. GIVEN WITH THE SEED: THE CARDS: each row of YtklbikafkdjgpaaDoorRows.lean that lists a variable, with what it lists TIED to the program's text (the seventh form; the later family's looks); each row that meets fmt, with fmt's text TOLD by the authors' own Lean function (tested against real Go, not proved from fmt's source: count such statements apart). THE CARD IS WHAT COUNTS. Prove the row's statement (the work); the ties are given (YtklbikafkdjgpaaDoorTie.lean); close each card by the builder's one call (the guide's Derived/Test/ToyasCard.lean, 'card_holds'). Laid BY PROGRAM, IN A SANDBOX (cutbox-door.mjs). By AI agents, Wed Nov 11 2026. No macro, syntax, notation, axiom, sorry.
-/
import Derived.Test.YtklbikafkdjgpaaDoorRows
import GoSem.ClaimSeven
namespace Go.Proofs.YtklbikafkdjgpaaDoor
namespace Rows

/-- THE TIED CARD OF 'pursuivantlaw09.HeadGoods'. -/
def headGoodsCard : Claim7 := { stood := { row := headGoodsRow, standIns := [], harness := (true, "6c4d7eb6a57779d97739ee80d5f900bee4e28951b4c6fb53603167f76196fbd3"), looks := false }, kinds := [], alts := [], laidByText := true, laidKinds := [.data, .pinned], laidTests := true, laidLooks := .later }
def HeadGoodsCardSaid : Prop := Claim7.holds Tryd.pinned (.plain (OpenSpec.ofChange headGoodsSpec)) headGoodsCard

/-- THE TIED CARD OF 'pursuivantlaw09.HeadChanges'. -/
def headChangesCard : Claim7 := { stood := { row := headChangesRow, standIns := [], harness := (true, "6c4d7eb6a57779d97739ee80d5f900bee4e28951b4c6fb53603167f76196fbd3"), looks := false }, kinds := [], alts := [], laidByText := true, laidKinds := [.data, .pinned], laidTests := true, laidLooks := .later }
def HeadChangesCardSaid : Prop := Claim7.holds Tryd.pinned (.plain (OpenSpec.ofChange headChangesSpec)) headChangesCard

/-- THE TIED CARD OF 'pursuivantlaw09.HeadSets'. -/
def headSetsCard : Claim7 := { stood := { row := headSetsRow, standIns := [], harness := (true, "6c4d7eb6a57779d97739ee80d5f900bee4e28951b4c6fb53603167f76196fbd3"), looks := false }, kinds := [], alts := [], laidByText := true, laidKinds := [.data, .pinned], laidTests := true, laidLooks := .later }
def HeadSetsCardSaid : Prop := Claim7.holds Tryd.pinned (.plain (OpenSpec.ofChange headSetsSpec)) headSetsCard

/-- THE SECOND FORM's CARD OF 'pursuivantlaw09.HeadGoods'. -/
def headGoodsUptoCard : Claim7 := { stood := { row := headGoodsUptoRow, standIns := [], harness := (true, "6c4d7eb6a57779d97739ee80d5f900bee4e28951b4c6fb53603167f76196fbd3"), looks := false }, kinds := [], alts := [], laidByText := true, laidKinds := [.data, .pinned], laidTests := true, laidLooks := .later }
def HeadGoodsUptoCardSaid : Prop := Claim7.holds Tryd.pinned (.plain (OpenSpec.upto headGoodsSpec)) headGoodsUptoCard

/-- THE SECOND FORM's CARD OF 'pursuivantlaw09.HeadChanges'. -/
def headChangesUptoCard : Claim7 := { stood := { row := headChangesUptoRow, standIns := [], harness := (true, "6c4d7eb6a57779d97739ee80d5f900bee4e28951b4c6fb53603167f76196fbd3"), looks := false }, kinds := [], alts := [], laidByText := true, laidKinds := [.data, .pinned], laidTests := true, laidLooks := .later }
def HeadChangesUptoCardSaid : Prop := Claim7.holds Tryd.pinned (.plain (OpenSpec.upto headChangesSpec)) headChangesUptoCard

/-- THE SECOND FORM's CARD OF 'pursuivantlaw09.HeadSets'. -/
def headSetsUptoCard : Claim7 := { stood := { row := headSetsUptoRow, standIns := [], harness := (true, "6c4d7eb6a57779d97739ee80d5f900bee4e28951b4c6fb53603167f76196fbd3"), looks := false }, kinds := [], alts := [], laidByText := true, laidKinds := [.data, .pinned], laidTests := true, laidLooks := .later }
def HeadSetsUptoCardSaid : Prop := Claim7.holds Tryd.pinned (.plain (OpenSpec.upto headSetsSpec)) headSetsUptoCard
end Rows
end Go.Proofs.YtklbikafkdjgpaaDoor
