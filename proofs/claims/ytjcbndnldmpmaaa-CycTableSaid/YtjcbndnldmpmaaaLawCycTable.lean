/-
  The walk of the statement CycTable: for any byte it returns true, and nothing that was there is changed.
-/
import Derived.Test.YtjcbndnldmpmaaaCycLaws
import Derived.Test.YtjcbndnldmpmaaaCycCode
namespace Go.Proofs.Ytjcbndnldmpmaaa
open Go.RowKit

theorem cycTable_law (c : Nat) (w : World) (hc : c < 256) :
    Calls Try.prog 3 #[.int .u8 c] w (Yes w) :=
  cycTable_said table_said sum_said put_said c w hc
end Go.Proofs.Ytjcbndnldmpmaaa
