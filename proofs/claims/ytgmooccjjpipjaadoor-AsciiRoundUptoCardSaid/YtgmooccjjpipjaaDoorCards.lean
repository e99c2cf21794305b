/-
  DERIVED. GIVEN WITH THE SEED: THE CARDS: each row of YtgmooccjjpipjaaDoorRows.lean that lists a variable, with what it lists TIED to the program's text (the seventh form; the later family's looks); each row that meets fmt, with fmt's text TOLD by the authors' own Lean function (tested against real Go, not proved from fmt's source: count such statements apart). THE CARD IS WHAT COUNTS. Prove the row's statement (the work); the ties are given (YtgmooccjjpipjaaDoorTie.lean); close each card by the builder's one call (the guide's Derived/Test/ToyasCard.lean, 'card_holds'). Laid BY PROGRAM, IN A SANDBOX (cutbox-door.mjs). By AI agents, Wed Nov 11 2026. No macro, syntax, notation, axiom, sorry.
-/
import Derived.Test.YtgmooccjjpipjaaDoorRows
import GoSem.ClaimSeven
namespace Go.Proofs.YtgmooccjjpipjaaDoor
namespace Rows

/-- THE TIED CARD OF 'pursuivantlaw04.AsciiTurns'. -/
def asciiTurnsCard : Claim7 := { stood := { row := asciiTurnsRow, standIns := [], harness := (true, "71f9bd25ade1a5dde9b356a9269a91167b6d286aa4f16bbe6ee361fe10b97526"), looks := false }, kinds := [], alts := [], laidByText := true, laidKinds := [.data, .pinned], laidTests := true, laidLooks := .later }
def AsciiTurnsCardSaid : Prop := Claim7.holds Tryd.pinned (.plain (OpenSpec.ofChange asciiTurnsSpec)) asciiTurnsCard

/-- THE TIED CARD OF 'pursuivantlaw04.AsciiLists'. -/
def asciiListsCard : Claim7 := { stood := { row := asciiListsRow, standIns := [], harness := (true, "71f9bd25ade1a5dde9b356a9269a91167b6d286aa4f16bbe6ee361fe10b97526"), looks := false }, kinds := [], alts := [], laidByText := true, laidKinds := [.data, .pinned], laidTests := true, laidLooks := .later }
def AsciiListsCardSaid : Prop := Claim7.holds Tryd.pinned (.plain (OpenSpec.ofChange asciiListsSpec)) asciiListsCard

/-- THE TIED CARD OF 'pursuivantlaw04.AsciiNumbers'. -/
def asciiNumbersCard : Claim7 := { stood := { row := asciiNumbersRow, standIns := [], harness := (true, "71f9bd25ade1a5dde9b356a9269a91167b6d286aa4f16bbe6ee361fe10b97526"), looks := false }, kinds := [], alts := [], laidByText := true, laidKinds := [.data, .pinned], laidTests := true, laidLooks := .later }
def AsciiNumbersCardSaid : Prop := Claim7.holds Tryd.pinned (.plain (OpenSpec.ofChange asciiNumbersSpec)) asciiNumbersCard

/-- THE TIED CARD OF 'pursuivantlaw04.AsciiRound'. -/
def asciiRoundCard : Claim7 := { stood := { row := asciiRoundRow, standIns := [], harness := (true, "71f9bd25ade1a5dde9b356a9269a91167b6d286aa4f16bbe6ee361fe10b97526"), looks := false }, kinds := [], alts := [], laidByText := true, laidKinds := [.data, .pinned], laidTests := true, laidLooks := .later }
def AsciiRoundCardSaid : Prop := Claim7.holds Tryd.pinned (.plain (OpenSpec.ofChange asciiRoundSpec)) asciiRoundCard

/-- THE SECOND FORM's CARD OF 'pursuivantlaw04.AsciiTurns'. -/
def asciiTurnsUptoCard : Claim7 := { stood := { row := asciiTurnsUptoRow, standIns := [], harness := (true, "71f9bd25ade1a5dde9b356a9269a91167b6d286aa4f16bbe6ee361fe10b97526"), looks := false }, kinds := [], alts := [], laidByText := true, laidKinds := [.data, .pinned], laidTests := true, laidLooks := .later }
def AsciiTurnsUptoCardSaid : Prop := Claim7.holds Tryd.pinned (.plain (OpenSpec.upto asciiTurnsSpec)) asciiTurnsUptoCard

/-- THE SECOND FORM's CARD OF 'pursuivantlaw04.AsciiLists'. -/
def asciiListsUptoCard : Claim7 := { stood := { row := asciiListsUptoRow, standIns := [], harness := (true, "71f9bd25ade1a5dde9b356a9269a91167b6d286aa4f16bbe6ee361fe10b97526"), looks := false }, kinds := [], alts := [], laidByText := true, laidKinds := [.data, .pinned], laidTests := true, laidLooks := .later }
def AsciiListsUptoCardSaid : Prop := Claim7.holds Tryd.pinned (.plain (OpenSpec.upto asciiListsSpec)) asciiListsUptoCard

/-- THE SECOND FORM's CARD OF 'pursuivantlaw04.AsciiNumbers'. -/
def asciiNumbersUptoCard : Claim7 := { stood := { row := asciiNumbersUptoRow, standIns := [], harness := (true, "71f9bd25ade1a5dde9b356a9269a91167b6d286aa4f16bbe6ee361fe10b97526"), looks := false }, kinds := [], alts := [], laidByText := true, laidKinds := [.data, .pinned], laidTests := true, laidLooks := .later }
def AsciiNumbersUptoCardSaid : Prop := Claim7.holds Tryd.pinned (.plain (OpenSpec.upto asciiNumbersSpec)) asciiNumbersUptoCard

/-- THE SECOND FORM's CARD OF 'pursuivantlaw04.AsciiRound'. -/
def asciiRoundUptoCard : Claim7 := { stood := { row := asciiRoundUptoRow, standIns := [], harness := (true, "71f9bd25ade1a5dde9b356a9269a91167b6d286aa4f16bbe6ee361fe10b97526"), looks := false }, kinds := [], alts := [], laidByText := true, laidKinds := [.data, .pinned], laidTests := true, laidLooks := .later }
def AsciiRoundUptoCardSaid : Prop := Claim7.holds Tryd.pinned (.plain (OpenSpec.upto asciiRoundSpec)) asciiRoundUptoCard
end Rows
end Go.Proofs.YtgmooccjjpipjaaDoor
