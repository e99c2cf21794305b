/-
  The walk of the statement LebTakes: for any bytes and any offset it returns true, and nothing that was there is changed.
-/
import Derived.Test.YtmoecebcmioebaaRefHit
namespace Go.Proofs.Ytmoecebcmioebaa
open Go.RowKit Leb

/-- The part of the bytes that the statements look at. -/
theorem Holds.short {w : World} {A : Option Addr} {n c : Nat} {l : List Int} (h : Holds w A n c l) : Holds w A (min n 200) c (l.take (min n 200)) := h.front (Nat.min_le_left _ _)

set_option maxRecDepth 100000 in
set_option maxHeartbeats 400000 in
theorem lebTakes_law (A : Option Addr) (n c : Nat) (l : List Int) (p : Int) (w : World) (hA : Holds w A n c l) (_hp : (Lit.int .i64 p).wf = true) :
    Calls Try.prog 4 #[.slice A n c, .int .i64 p] w (Yes w) := by
  have hS := Lib.hid hA.short
  go_enter Try.func4, Try.ntmps4
  go_wp2_with fail
  refine (short_any A n c l w hA).mono ?_
  rintro e w' ⟨rfl, rfl⟩
  go_wp2_with fail
  refine (take_any _ _ _ _ _ _ hS.out).mono ?_
  rintro e w' ⟨rfl, rfl⟩
  go_wp2_with fail
  refine (short_any A n c l w hA).mono ?_
  rintro e w' ⟨rfl, rfl⟩
  go_wp2_with fail
  refine (refTake_any _ _ _ _ _ _ hS.out).mono ?_
  rintro e w1 ⟨rfl, hb1⟩
  go_wp2_with fail
  refine (awake_any _).mono ?_
  rintro e w2 ⟨rfl, hb2⟩
  go_wp2
  go_ret
  exact ⟨rfl, hb1.trans (hb2.mono hb1.size)⟩
end Go.Proofs.Ytmoecebcmioebaa
