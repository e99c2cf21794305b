/-
  The walk of the statement CycSum: for any two slices of bytes and any two numbers of 32 bits it returns true, and nothing that was there is changed.
-/
import Derived.Test.YtjcbndnldmpmaaaCycSum
import Derived.Test.YtjcbndnldmpmaaaCycCode
namespace Go.Proofs.Ytjcbndnldmpmaaa
open Go.RowKit

theorem cycSum_law (A : Option Addr) (na ca : Nat) (la : List Int) (B : Option Addr) (nb cb : Nat) (lb : List Int) (q n : Nat) (w : World) (hA : Holds w A na ca la) (hB : Holds w B nb cb lb) (hq : q < 4294967296) (hn : n < 4294967296) :
    Calls Try.prog 4 #[.slice A na ca, .slice B nb cb, .int .u32 q, .int .u32 n] w (Yes w) :=
  cycSum_said table_said sum_said put_said A na ca la B nb cb lb q n w hA hB hq hn
end Go.Proofs.Ytjcbndnldmpmaaa
