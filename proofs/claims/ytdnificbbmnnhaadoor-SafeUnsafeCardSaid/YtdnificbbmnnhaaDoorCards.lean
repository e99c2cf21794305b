/-
  DERIVED. GIVEN WITH THE SEED: THE CARDS: each row of YtdnificbbmnnhaaDoorRows.lean that lists a variable, with what it lists TIED to the program's text (the seventh form; the later family's looks); each row that meets fmt, with fmt's text TOLD by the authors' own Lean function (tested against real Go, not proved from fmt's source: count such statements apart). THE CARD IS WHAT COUNTS. Prove the row's statement (the work); the ties are given (YtdnificbbmnnhaaDoorTie.lean); close each card by the builder's one call (the guide's Derived/Test/ToyasCard.lean, 'card_holds'). Laid BY PROGRAM, IN A SANDBOX (cutbox-door.mjs). By AI agents, Wed Nov 11 2026. No macro, syntax, notation, axiom, sorry.
-/
import Derived.Test.YtdnificbbmnnhaaDoorRows
import GoSem.ClaimSeven
namespace Go.Proofs.YtdnificbbmnnhaaDoor
namespace Rows

/-- THE TIED CARD OF 'pursuivantlaw10.SafeMethods'. -/
def safeMethodsCard : Claim7 := { stood := { row := safeMethodsRow, standIns := [], harness := (true, "4191c7049fbe5888229439b6e30a5cec9d4ead9eaa3dba6465a2c371a3ed7b57"), looks := false }, kinds := [], alts := [], laidByText := true, laidKinds := [.data, .pinned], laidTests := true, laidLooks := .later }
def SafeMethodsCardSaid : Prop := Claim7.holds Tryd.pinned (.plain (OpenSpec.ofChange safeMethodsSpec)) safeMethodsCard

/-- THE TIED CARD OF 'pursuivantlaw10.SafeHeaders'. -/
def safeHeadersCard : Claim7 := { stood := { row := safeHeadersRow, standIns := [], harness := (true, "4191c7049fbe5888229439b6e30a5cec9d4ead9eaa3dba6465a2c371a3ed7b57"), looks := false }, kinds := [], alts := [], laidByText := true, laidKinds := [.data, .pinned], laidTests := true, laidLooks := .later }
def SafeHeadersCardSaid : Prop := Claim7.holds Tryd.pinned (.plain (OpenSpec.ofChange safeHeadersSpec)) safeHeadersCard

/-- THE TIED CARD OF 'pursuivantlaw10.SafeUnsafe'. -/
def safeUnsafeCard : Claim7 := { stood := { row := safeUnsafeRow, standIns := [], harness := (true, "4191c7049fbe5888229439b6e30a5cec9d4ead9eaa3dba6465a2c371a3ed7b57"), looks := false }, kinds := [], alts := [], laidByText := true, laidKinds := [.data, .pinned], laidTests := true, laidLooks := .later }
def SafeUnsafeCardSaid : Prop := Claim7.holds Tryd.pinned (.plain (OpenSpec.ofChange safeUnsafeSpec)) safeUnsafeCard

/-- THE SECOND FORM's CARD OF 'pursuivantlaw10.SafeMethods'. -/
def safeMethodsUptoCard : Claim7 := { stood := { row := safeMethodsUptoRow, standIns := [], harness := (true, "4191c7049fbe5888229439b6e30a5cec9d4ead9eaa3dba6465a2c371a3ed7b57"), looks := false }, kinds := [], alts := [], laidByText := true, laidKinds := [.data, .pinned], laidTests := true, laidLooks := .later }
def SafeMethodsUptoCardSaid : Prop := Claim7.holds Tryd.pinned (.plain (OpenSpec.upto safeMethodsSpec)) safeMethodsUptoCard

/-- THE SECOND FORM's CARD OF 'pursuivantlaw10.SafeHeaders'. -/
def safeHeadersUptoCard : Claim7 := { stood := { row := safeHeadersUptoRow, standIns := [], harness := (true, "4191c7049fbe5888229439b6e30a5cec9d4ead9eaa3dba6465a2c371a3ed7b57"), looks := false }, kinds := [], alts := [], laidByText := true, laidKinds := [.data, .pinned], laidTests := true, laidLooks := .later }
def SafeHeadersUptoCardSaid : Prop := Claim7.holds Tryd.pinned (.plain (OpenSpec.upto safeHeadersSpec)) safeHeadersUptoCard

/-- THE SECOND FORM's CARD OF 'pursuivantlaw10.SafeUnsafe'. -/
def safeUnsafeUptoCard : Claim7 := { stood := { row := safeUnsafeUptoRow, standIns := [], harness := (true, "4191c7049fbe5888229439b6e30a5cec9d4ead9eaa3dba6465a2c371a3ed7b57"), looks := false }, kinds := [], alts := [], laidByText := true, laidKinds := [.data, .pinned], laidTests := true, laidLooks := .later }
def SafeUnsafeUptoCardSaid : Prop := Claim7.holds Tryd.pinned (.plain (OpenSpec.upto safeUnsafeSpec)) safeUnsafeUptoCard
end Rows
end Go.Proofs.YtdnificbbmnnhaaDoor
