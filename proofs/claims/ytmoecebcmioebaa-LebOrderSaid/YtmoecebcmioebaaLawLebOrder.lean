/-
  The walk of the statement LebOrder: for any two numbers of 64 bits it returns true, and nothing that was there is changed.
-/
import Derived.Test.YtmoecebcmioebaaAwake
namespace Go.Proofs.Ytmoecebcmioebaa
open Go.RowKit Leb

set_option maxRecDepth 100000 in
set_option maxHeartbeats 400000 in
theorem lebOrder_law (n m : Nat) (w : World) (hn : U64 n) (hm : U64 m) : Calls Try.prog 6 #[.int .u64 n, .int .u64 m] w (Yes w) := by
  have s1 := size_pos n
  have s2 := size_le10 hn
  have s3 : m ≤ n → size m ≤ size n := size_mono m n
  by_cases h : n < m
  · clear s3
    have hd : decide ((n : Int) < (m : Int)) = true := by simp; omega
    go_enter Try.func6, Try.ntmps6
    go_wp2_with fail
    refine (awake_any w).mono ?_
    rintro e w1 ⟨rfl, hb⟩
    go_wp2_with (go_at_call 11; refine (size_any n _ hn).mono ?_; rintro e w' ⟨rfl, rfl⟩)
    go_ret
    exact ⟨ret_bool (by simp; omega), hb⟩
  · have s4 := s3 (by omega)
    clear s3
    go_enter Try.func6, Try.ntmps6
    go_wp2_with fail
    refine (awake_any w).mono ?_
    rintro e w1 ⟨rfl, hb⟩
    go_wp2_with fail
    refine (size_any n _ hn).mono ?_
    rintro e w' ⟨rfl, rfl⟩
    go_wp2_with fail
    refine (size_any m _ hm).mono ?_
    rintro e w' ⟨rfl, rfl⟩
    go_wp2_with (go_at_call 11; refine (size_any n _ hn).mono ?_; rintro e w' ⟨rfl, rfl⟩)
    go_ret
    exact ⟨ret_bool (by simp; omega), hb⟩
end Go.Proofs.Ytmoecebcmioebaa
