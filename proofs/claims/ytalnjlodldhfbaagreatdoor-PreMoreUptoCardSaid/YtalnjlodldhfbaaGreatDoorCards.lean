/-
  DERIVED. GIVEN WITH THE SEED: THE CARDS: each row of YtalnjlodldhfbaaGreatDoorRows.lean that lists a variable, with what it lists TIED to the program's text (the seventh form; the later family's looks); each row that meets fmt, with fmt's text TOLD by the authors' own Lean function (tested against real Go, not proved from fmt's source: count such statements apart). THE CARD IS WHAT COUNTS. Prove the row's statement (the work); the ties are given (YtalnjlodldhfbaaGreatDoorTie.lean); close each card by the builder's one call (the guide's Derived/Test/ToyasCard.lean, 'card_holds'). Laid BY PROGRAM, IN A SANDBOX (cutbox-door.mjs). By AI agents, Wed Nov 11 2026. No macro, syntax, notation, axiom, sorry.
-/
import Derived.Test.YtalnjlodldhfbaaGreatDoorRows
import GoSem.ClaimSeven
namespace Go.Proofs.YtalnjlodldhfbaaGreatDoor
namespace Rows

/-- THE TIED CARD OF 'pursuivantlaw14.PreAsks'. -/
def preAsksCard : Claim7 := { stood := { row := preAsksRow, standIns := [], harness := (true, "22beae4b16ba37649097e74111da8f5bc4919c44c50aba40ceb29c429e2012b3"), looks := false }, kinds := [], alts := [], laidByText := true, laidKinds := [.data, .pinned], laidTests := true, laidLooks := .later }
def PreAsksCardSaid : Prop := Claim7.holds Tryz.pinned (.plain (OpenSpec.ofChange preAsksSpec)) preAsksCard

/-- THE TIED CARD OF 'pursuivantlaw14.PreReads'. -/
def preReadsCard : Claim7 := { stood := { row := preReadsRow, standIns := [], harness := (true, "22beae4b16ba37649097e74111da8f5bc4919c44c50aba40ceb29c429e2012b3"), looks := false }, kinds := [], alts := [], laidByText := true, laidKinds := [.data, .pinned], laidTests := true, laidLooks := .later }
def PreReadsCardSaid : Prop := Claim7.holds Tryz.pinned (.plain (OpenSpec.ofChange preReadsSpec)) preReadsCard

/-- THE TIED CARD OF 'pursuivantlaw14.PreMore'. -/
def preMoreCard : Claim7 := { stood := { row := preMoreRow, standIns := [], harness := (true, "22beae4b16ba37649097e74111da8f5bc4919c44c50aba40ceb29c429e2012b3"), looks := false }, kinds := [], alts := [], laidByText := true, laidKinds := [.data, .pinned], laidTests := true, laidLooks := .later }
def PreMoreCardSaid : Prop := Claim7.holds Tryz.pinned (.plain (OpenSpec.ofChange preMoreSpec)) preMoreCard

/-- THE SECOND FORM's CARD OF 'pursuivantlaw14.PreAsks'. -/
def preAsksUptoCard : Claim7 := { stood := { row := preAsksUptoRow, standIns := [], harness := (true, "22beae4b16ba37649097e74111da8f5bc4919c44c50aba40ceb29c429e2012b3"), looks := false }, kinds := [], alts := [], laidByText := true, laidKinds := [.data, .pinned], laidTests := true, laidLooks := .later }
def PreAsksUptoCardSaid : Prop := Claim7.holds Tryz.pinned (.plain (OpenSpec.upto preAsksSpec)) preAsksUptoCard

/-- THE SECOND FORM's CARD OF 'pursuivantlaw14.PreReads'. -/
def preReadsUptoCard : Claim7 := { stood := { row := preReadsUptoRow, standIns := [], harness := (true, "22beae4b16ba37649097e74111da8f5bc4919c44c50aba40ceb29c429e2012b3"), looks := false }, kinds := [], alts := [], laidByText := true, laidKinds := [.data, .pinned], laidTests := true, laidLooks := .later }
def PreReadsUptoCardSaid : Prop := Claim7.holds Tryz.pinned (.plain (OpenSpec.upto preReadsSpec)) preReadsUptoCard

/-- THE SECOND FORM's CARD OF 'pursuivantlaw14.PreMore'. -/
def preMoreUptoCard : Claim7 := { stood := { row := preMoreUptoRow, standIns := [], harness := (true, "22beae4b16ba37649097e74111da8f5bc4919c44c50aba40ceb29c429e2012b3"), looks := false }, kinds := [], alts := [], laidByText := true, laidKinds := [.data, .pinned], laidTests := true, laidLooks := .later }
def PreMoreUptoCardSaid : Prop := Claim7.holds Tryz.pinned (.plain (OpenSpec.upto preMoreSpec)) preMoreUptoCard
end Rows
end Go.Proofs.YtalnjlodldhfbaaGreatDoor
