/-
  What leb.Put and the reference's Bytes return: the bytes that came in (for Put), and behind them the encoding of the number, in memory of the call's own; nothing that was there is changed. Conditions: the number has 64 bits, and at most 2^47 - 10 bytes came in.
-/
import Derived.Test.YtkjnpdnihfohoaaSize
import Derived.Test.YtkjnpdnihfohoaaLow
import Derived.Lib.Varint
namespace Go.Proofs.Ytkjnpdnihfohoaa
open Go.RowKit Leb

/-- The loop's relation: ys is written, m is left. -/
def PutRel (w : World) (l : List Int) (x v : Value) (wr : World) : Prop := ∃ (m : Nat) (ys : List Int), U64 m ∧ x = .int .u64 m ∧ Owns wr w.heap.size 5 v ys ∧ ys ++ enc m = l ∧ Below w.heap.size w wr

set_option maxRecDepth 100000 in
set_option maxHeartbeats 400000 in
theorem bytes_any (n : Nat) (w : World) (hn : U64 n) :
    Calls Try.prog 20 #[.int .u64 n] w (Gives w 5 (enc n)) := by
  obtain ⟨i0, hi, hz0, hz1, hz2⟩ := info_parts Try.info8
  have hsz := Lib.hid (show (enc n).length ≤ 10 from size_le10 hn)
  have h0 := Lib.hid (owns_lit w w.heap.size 5 #[] [] rfl Bytes.nil (by simp) (Nat.le_refl _))
  go_enter Try.func20, Try.ntmps20
  go_wp2
  go_loopw [0, 3] (fun x v wr => PutRel w (enc n) x v wr) (fun x _ _ => (intOf x).toNat)
  case atStart => exact ⟨n, [], hn, rfl, h0.out, rfl, (Below.refl _ _).alloc (Nat.le_refl _) _⟩
  case round =>
    obtain ⟨m, ys, hm, rfl, hown, hl, hb⟩ := hrel
    have HL := Lib.hid hl
    clear hl
    have hyl : ys.length ≤ 10 := by have h1 := congrArg List.length HL.out; have h2 := hsz.out; rw [List.length_append] at h1; omega
    have hB := hb.size
    by_cases hlt : m < 128
    · have H2 := Lib.hid (holds_new wr 5 #[.int .u8 (m : Int)] [(m : Int)] rfl (by intro x hx; simp at hx; omega) (by simp [maxLen]))
      go_wp2_with (at_builtin; refine wpList_append_bytes rfl (.tmp 16) (.tmp 19) 22 rfl w.heap.size 5 i0 Try.underlying22 hi hz0 hz1 hz2 _ ys rfl (hown.alloc _) _ 1 1 [(m : Int)] rfl H2.out (by omega) (by simp; omega) ?_; intro v1 w1 hown1 hg1 hat1)
      go_ret
      refine ⟨_, rfl, ?_, below_own (hb.alloc hB _) (hown.alloc _) hg1 (by simp; omega)⟩
      have e := HL.out
      rw [enc_small hlt] at e
      rw [← e]
      exact hown1
    · have H2 := Lib.hid (holds_new wr 5 #[.int .u8 ((m : Int) % 128 + 128)] [(m : Int) % 128 + 128] rfl (by intro x hx; simp at hx; omega) (by simp [maxLen]))
      go_wp2_with (at_builtin; refine wpList_append_bytes rfl (.tmp 7) (.tmp 12) 22 rfl w.heap.size 5 i0 Try.underlying22 hi hz0 hz1 hz2 _ ys rfl (hown.alloc _) _ 1 1 [(m : Int) % 128 + 128] rfl H2.out (by omega) (by simp; omega) ?_; intro v1 w1 hown1 hg1 hat1)
      go_roundw
      case rel =>
        refine ⟨m / 128, _, hm.div _, by rw [wrap_div hm], hown1, ?_, below_own (hb.alloc hB _) (hown.alloc _) hg1 (by simp; omega)⟩
        have e := HL.out
        rw [enc_big (by omega)] at e
        rw [← e]
        simp
      case measure => simp only [intOf, wrap_div hm]; simp; omega

set_option maxRecDepth 100000 in
set_option maxHeartbeats 400000 in
theorem put_any (A : Option Addr) (k c : Nat) (l : List Int) (n : Nat) (w : World) (hn : U64 n) (hA : Holds w A k c l) (hk : k + 10 ≤ 140737488355328) :
    Calls Try.prog 16 #[.slice A k c, .int .u64 n] w (Gives w 5 (l ++ enc n)) := by
  obtain ⟨i0, hi, hz0, hz1, hz2⟩ := info_parts Try.info8
  have hsz : size n ≤ 10 := size_le10 hn
  have hsp := size_pos n
  go_enter Try.func16, Try.ntmps16
  go_wp2_with (first
    | (go_at_call 28; refine (size_any n _ hn).mono ?_; rintro e w' ⟨rfl, rfl⟩)
    | (at_make; refine wpList_make_own _ rfl _ _ 22 rfl w.heap.size 5 i0 _ 1 Try.underlying22 hi hz0 hz1 .i64 .i64 _ (k + size n) rfl rfl (by omega) (by rw [hz2]; omega) (by simp only [maxLen]; omega) (Nat.le_refl _) ?_; intro w1 hown1 hg1)
    | (at_builtin; refine wpList_append_bytes rfl (.tmp 12) (.tmp 13) 22 rfl w.heap.size 5 i0 Try.underlying22 hi hz0 hz1 hz2 _ [] rfl ⟨Bytes.nil, hown1⟩ A k c l rfl (hA.later (below_make hg1)) (by simp; omega) (below_make hg1).size ?_; intro v2 w2 hown2 hg2 hat2))
  have hlen : (l ++ enc n).length = k + size n := by rw [List.length_append, hA.len]; rfl
  have Hlen := Lib.hid hlen
  have hb2 : Below w.heap.size w w2 := below_own (below_make hg1) ⟨Bytes.nil, hown1⟩ hg2 (below_make hg1).size
  clear hlen hown1 hg1 hg2 hat2
  go_loopw [1, 5] (fun x v wr => PutRel w (l ++ enc n) x v wr) (fun x _ _ => (intOf x).toNat)
  case atStart => exact ⟨n, _, hn, rfl, hown2, rfl, hb2⟩
  case round =>
    obtain ⟨m, ys, hm, rfl, hown, hl, hb⟩ := hrel
    have HL := Lib.hid hl
    clear hl hown2 hb2
    have hyl : ys.length + 1 ≤ k + 10 := by have h1 := congrArg List.length HL.out; have h2 := Hlen.out; have h3 : 1 ≤ (enc m).length := size_pos m; rw [List.length_append] at h1; omega
    have hB := hb.size
    by_cases hlt : m < 128
    · have H2 := Lib.hid (holds_new wr 5 #[.int .u8 (m : Int)] [(m : Int)] rfl (by intro x hx; simp at hx; omega) (by simp [maxLen]))
      go_wp2_with (at_builtin; refine wpList_append_bytes rfl (.tmp 25) (.tmp 28) 22 rfl w.heap.size 5 i0 Try.underlying22 hi hz0 hz1 hz2 _ ys rfl (hown.alloc _) _ 1 1 [(m : Int)] rfl H2.out (by omega) (by simp; omega) ?_; intro v1 w1 hown1 hg1 hat1)
      go_ret
      refine ⟨_, rfl, ?_, below_own (hb.alloc hB _) (hown.alloc _) hg1 (by simp; omega)⟩
      have e := HL.out
      rw [enc_small hlt] at e
      rw [← e]
      exact hown1
    · have H2 := Lib.hid (holds_new wr 5 #[.int .u8 ((m : Int) % 128 + 128)] [(m : Int) % 128 + 128] rfl (by intro x hx; simp at hx; omega) (by simp [maxLen]))
      have hor : bits .or .u8 ((m : Int) % 256) 128 = (m : Int) % 128 + 128 := by rw [Go.Lib.u8_or128_any _ (by omega) (by omega)]; omega
      go_wp2_with (at_builtin; refine wpList_append_bytes rfl (.tmp 17) (.tmp 21) 22 rfl w.heap.size 5 i0 Try.underlying22 hi hz0 hz1 hz2 _ ys rfl (hown.alloc _) _ 1 1 [(m : Int) % 128 + 128] rfl H2.out (by omega) (by simp; omega) ?_; intro v1 w1 hown1 hg1 hat1)
      go_roundw
      case rel =>
        refine ⟨m / 128, _, hm.div _, by go_num, hown1, ?_, below_own (hb.alloc hB _) (hown.alloc _) hg1 (by simp; omega)⟩
        have e := HL.out
        rw [enc_big (by omega)] at e
        rw [← e]
        simp
      case measure => simp [intOf]; omega
end Go.Proofs.Ytkjnpdnihfohoaa
