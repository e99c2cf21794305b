/-
  The walk of the statement CycParts: for any three slices of bytes it returns true, and nothing that was there is changed.
-/
import Derived.Test.YtjcbndnldmpmaaaCycParts
import Derived.Test.YtjcbndnldmpmaaaCycCode
namespace Go.Proofs.Ytjcbndnldmpmaaa
open Go.RowKit

theorem cycParts_law (A : Option Addr) (na ca : Nat) (la : List Int) (B : Option Addr) (nb cb : Nat) (lb : List Int) (C : Option Addr) (nc cc : Nat) (lc : List Int) (w : World) (hA : Holds w A na ca la) (hB : Holds w B nb cb lb) (hC : Holds w C nc cc lc) :
    Calls Try.prog 6 #[.slice A na ca, .slice B nb cb, .slice C nc cc] w (Yes w) :=
  cycParts_said table_said sum_said put_said A na ca la B nb cb lb C nc cc lc w hA hB hC
end Go.Proofs.Ytjcbndnldmpmaaa
