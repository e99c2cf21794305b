/-
  What leb.Size returns for every number of 64 bits: the length of its encoding; memory is as it was.
-/
import Derived.Test.YtkjnpdnihfohoaaChecked
import Derived.Test.YtkjnpdnihfohoaaLow
import Derived.WalkLawsBesides
namespace Go.Proofs.Ytkjnpdnihfohoaa
open Go.RowKit Leb

set_option maxRecDepth 100000 in
set_option maxHeartbeats 400000 in
theorem size_any (n : Nat) (w : World) (hn : U64 n) :
    Calls Try.prog 28 #[.int .u64 n] w fun e w' => e = .returned (.int .i64 (size n)) ∧ w = w' := by
  go_enter Try.func28, Try.ntmps28
  go_wp2
  go_loop [0, 3] (fun x s => ∃ m k : Nat, U64 m ∧ x = .int .u64 m ∧ s = .int .i64 k ∧ 1 ≤ k ∧ k + size m = 1 + size n) (fun x _ => (intOf x).toNat)
  case atStart => exact ⟨n, 1, hn, rfl, rfl, by omega, by omega⟩
  case round =>
    obtain ⟨m, k, hm, rfl, rfl, hk1, hk⟩ := hrel
    have hs10 := size_le10 hn
    have hsm := size_pos m
    by_cases hlt : m < 128
    · have hs := size_small hlt
      have hk2 : k = size n := by omega
      clear hk hs
      have H := Lib.hid hk2
      clear hk2
      go_wp2
      go_ret
      exact ⟨ret_int (by rw [H.out]), rfl⟩
    · have hs := size_big (n := m) (by omega)
      have H := Lib.hid hs
      have H2 := Lib.hid hk
      have hk9 : k ≤ 10 := by omega
      clear hs hk
      go_wp2
      go_round
      case rel => exact ⟨m / 128, k + 1, hm.div _, by go_num, by go_num, by omega, by have := H.out; have := H2.out; omega⟩
      case measure => simp [intOf]; omega
end Go.Proofs.Ytkjnpdnihfohoaa
