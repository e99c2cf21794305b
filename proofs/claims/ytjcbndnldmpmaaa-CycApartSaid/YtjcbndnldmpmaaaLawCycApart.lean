/-
  The walk of the statement CycApart: for any slice of bytes, place and change it returns true, and nothing that was there is changed.
-/
import Derived.Test.YtjcbndnldmpmaaaCycApart
import Derived.Test.YtjcbndnldmpmaaaCycCode
namespace Go.Proofs.Ytjcbndnldmpmaaa
open Go.RowKit

theorem cycApart_law (A : Option Addr) (na ca : Nat) (la : List Int) (q b : Nat) (w : World) (hA : Holds w A na ca la) (hq : q < 65536) (hb : b < 4294967296) :
    Calls Try.prog 5 #[.slice A na ca, .int .u16 q, .int .u32 b] w (Yes w) :=
  cycApart_said table_said sum_said put_said A na ca la q b w hA hq hb
end Go.Proofs.Ytjcbndnldmpmaaa
