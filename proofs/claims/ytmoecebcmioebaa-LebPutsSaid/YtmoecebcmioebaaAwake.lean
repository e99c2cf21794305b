/-
  The fixed fact at the head of each statement of layer 1 holds, whatever memory it is asked in; nothing that was there is changed.
-/
import Derived.Test.YtmoecebcmioebaaTakeAll
namespace Go.Proofs.Ytmoecebcmioebaa
open Go.RowKit Leb

theorem enc300 : enc 300 = [172, 2] := by rw [enc_big (by omega), enc_small (by omega)]; rfl
theorem u300 : U64 300 := by unfold U64; omega
theorem size300 : size 300 = 2 := by simp [size, enc300]
theorem bytes1 (x : Int) (h : 0 ≤ x ∧ x < 256) : Bytes [x] := by intro y hy; simp at hy; omega
theorem bytes2 (x z : Int) (h : 0 ≤ x ∧ x < 256) (h' : 0 ≤ z ∧ z < 256) : Bytes [x, z] := by intro y hy; simp at hy; omega
theorem bytes3 (x z u : Int) (h : 0 ≤ x ∧ x < 256) (h' : 0 ≤ z ∧ z < 256) (h'' : 0 ≤ u ∧ u < 256) : Bytes [x, z, u] := by intro y hy; simp at hy; omega

/-- It returns true, and nothing that was there is changed. -/
def Yes (w : World) (e : Ending) (w' : World) : Prop := e = .returned (.bool true) ∧ Below w.heap.size w w'

theorem took_form (W : World) (g : Nat) (hg : g = W.heap.size) : Calls Try.prog 12 #[.slice (some ⟨g, 0, Option.none⟩) 2 2, .int .i64 0] (W.alloc (.cells #[.int .u8 128, .int .u8 0] 5))
    fun e w' => e = .returned (.tuple #[.int .u64 0, .int .i64 0, .int .i64 4]) ∧ W.alloc (.cells #[.int .u8 128, .int .u8 0] 5) = w' :=
  by subst hg; exact take_is (l := [128, 0]) (a := 0) (b := 0) (d := 4) (holds_new W 5 _ [128, 0] rfl (bytes2 _ _ (by omega) (by omega)) (by simp [maxLen])) (by decide)
theorem took_short (W : World) (g : Nat) (hg : g = W.heap.size) : Calls Try.prog 12 #[.slice (some ⟨g, 0, Option.none⟩) 1 1, .int .i64 0] (W.alloc (.cells #[.int .u8 128] 5))
    fun e w' => e = .returned (.tuple #[.int .u64 0, .int .i64 0, .int .i64 7]) ∧ W.alloc (.cells #[.int .u8 128] 5) = w' :=
  by subst hg; exact take_is (l := [128]) (a := 0) (b := 0) (d := 7) (holds_new W 5 _ [128] rfl (bytes1 _ (by omega)) (by simp [maxLen])) (by decide)
theorem took_arg (W : World) : Calls Try.prog 12 #[.slice Option.none 0 0, .int .i64 1] W fun e w' => e = .returned (.tuple #[.int .u64 0, .int .i64 0, .int .i64 1]) ∧ W = w' :=
  take_is (l := []) (a := 0) (b := 0) (d := 1) (holds_nil _) (by decide)
theorem took_300 {W : World} {A : Option Addr} {c : Nat} (h : Holds W A 3 c [9, 172, 2]) : Calls Try.prog 12 #[.slice A 3 c, .int .i64 1] W fun e w' => e = .returned (.tuple #[.int .u64 300, .int .i64 3, .int .i64 0]) ∧ W = w' :=
  take_is (a := 300) (b := 3) (d := 0) h (by decide)
theorem gave_300 (W : World) : Calls Try.prog 8 #[.slice (some ⟨W.heap.size, 0, Option.none⟩) 1 1, .int .u64 300] (W.alloc (.cells #[.int .u8 9] 5))
    fun e w' => ∃ A c, e = .returned (.slice A 3 c) ∧ Holds w' A 3 c [9, 172, 2] ∧ Below W.heap.size W w' := by
  refine (put_any _ 1 1 [9] 300 _ u300 (holds_new W 5 #[.int .u8 9] [9] rfl (bytes1 9 (by omega)) (by simp [maxLen])) (by omega)).mono ?_
  rintro e w1 ⟨v, rfl, hown, hb1⟩
  rw [enc300] at hown
  obtain ⟨A, c, rfl, hA⟩ := hown.holds
  exact ⟨A, c, rfl, hA, ((Below.refl _ _).alloc (Nat.le_refl _) _).trans (hb1.mono (by simp))⟩

set_option maxRecDepth 100000 in
set_option maxHeartbeats 400000 in
theorem awake_any (w : World) : Calls Try.prog 7 #[] w (Yes w) := by
  go_enter Try.func7, Try.ntmps7
  go_wp2_with fail
  with_reducible refine (gave_300 w).mono ?_
  rintro e w1 ⟨A, c, rfl, hA, hb⟩
  go_wp2_with fail
  with_reducible refine (took_300 hA).mono ?_
  rintro e w' ⟨rfl, rfl⟩
  go_wp2_with fail
  with_reducible refine (took_form _ _ (by simp)).mono ?_
  rintro e w' ⟨rfl, rfl⟩
  go_wp2_with fail
  with_reducible refine (took_short _ _ (by simp)).mono ?_
  rintro e w' ⟨rfl, rfl⟩
  go_wp2_with fail
  with_reducible refine (took_arg _).mono ?_
  rintro e w' ⟨rfl, rfl⟩
  have c1 := run_text (P := Try.prog) 22 9 5 Try.underlying22 Try.underlying5 Try.underlying9 ((hA.alloc (.cells #[.int .u8 128, .int .u8 0] 5)).alloc (.cells #[.int .u8 128] 5))
  have c2 := text_new (P := Try.prog) 22 9 5 Try.underlying22 Try.underlying5 Try.underlying9 ((w1.alloc (.cells #[.int .u8 128, .int .u8 0] 5)).alloc (.cells #[.int .u8 128] 5)) (w1.heap.size + 1 + 1) (by simp)
    #[.int .u8 9, .int .u8 172, .int .u8 2] [9, 172, 2] 3 3 rfl (bytes3 _ _ _ (by omega) (by omega) (by omega)) rfl rfl (by omega)
  go_wp2_with (go_at_call 11; refine (size_any 300 _ u300).mono ?_; rintro e w' ⟨rfl, rfl⟩; rw [size300])
  go_ret
  exact ⟨rfl, ((hb.alloc hb.size _).alloc (by simp; have := hb.size; omega) _).alloc (by simp; have := hb.size; omega) _⟩
end Go.Proofs.Ytmoecebcmioebaa
