/-
  The fixed fact of layer 13. No condition.
-/
import Derived.Test.YtdmmkjioaiefdaaCorsCheck
namespace Go.Proofs.Ytdmmkjioaiefdaa
open Go.RowKit Go.Lib Go.Shelf

def LStar : List Hd := [(⟨#[65, 99, 99, 101, 115, 115, 45, 67, 111, 110, 116, 114, 111, 108, 45, 65, 108, 108, 111, 119, 45, 79, 114, 105, 103, 105, 110]⟩, ⟨#[42]⟩)]
def LOwn : List Hd := [(nameO, ⟨#[104, 116, 116, 112, 58, 47, 47, 97]⟩), (⟨#[65, 99, 99, 101, 115, 115, 45, 67, 111, 110, 116, 114, 111, 108, 45, 65, 108, 108, 111, 119, 45, 67, 114, 101, 100, 101, 110, 116, 105, 97, 108, 115]⟩, ⟨#[116, 114, 117, 101]⟩)]
theorem shortStar : Short maxLen LStar := short_of (by decide) (by simp [maxLen])
theorem shortOwn : Short maxLen LOwn := short_of (by decide) (by simp [maxLen])
theorem seen13_a : seen LStar ⟨#[104, 116, 116, 112, 58, 47, 47, 97]⟩ 2 = true := by unfold seen seenOf; simp only [ByteArray.toList_eq]; decide +kernel
theorem fact13_a (A : Option Addr) (c : Nat) (w : World) (h : Hds w A 1 c LStar) : Calls Try.prog 6 #[.slice A 1 c, .string ⟨#[104, 116, 116, 112, 58, 47, 47, 97]⟩, .int .i64 2] w fun e w' => e = .returned (.bool true) ∧ Below w.heap.size w w' := by
  have h1 := check_any A 1 c LStar ⟨#[104, 116, 116, 112, 58, 47, 47, 97]⟩ 2 w h (by omega) shortStar (by decide)
  rw [seen13_a] at h1
  exact h1
theorem seen13_b : seen LStar ⟨#[104, 116, 116, 112, 58, 47, 47, 97]⟩ 3 = false := by unfold seen seenOf; simp only [ByteArray.toList_eq]; decide +kernel
theorem fact13_b (A : Option Addr) (c : Nat) (w : World) (h : Hds w A 1 c LStar) : Calls Try.prog 6 #[.slice A 1 c, .string ⟨#[104, 116, 116, 112, 58, 47, 47, 97]⟩, .int .i64 3] w fun e w' => e = .returned (.bool false) ∧ Below w.heap.size w w' := by
  have h1 := check_any A 1 c LStar ⟨#[104, 116, 116, 112, 58, 47, 47, 97]⟩ 3 w h (by omega) shortStar (by decide)
  rw [seen13_b] at h1
  exact h1
theorem seen13_c : seen LOwn ⟨#[104, 116, 116, 112, 58, 47, 47, 97]⟩ 3 = true := by unfold seen seenOf; simp only [ByteArray.toList_eq]; decide +kernel
theorem fact13_c (A : Option Addr) (c : Nat) (w : World) (h : Hds w A 2 c LOwn) : Calls Try.prog 6 #[.slice A 2 c, .string ⟨#[104, 116, 116, 112, 58, 47, 47, 97]⟩, .int .i64 3] w fun e w' => e = .returned (.bool true) ∧ Below w.heap.size w w' := by
  have h1 := check_any A 2 c LOwn ⟨#[104, 116, 116, 112, 58, 47, 47, 97]⟩ 3 w h (by omega) shortOwn (by decide)
  rw [seen13_c] at h1
  exact h1
theorem seen13_d : seen LOwn ⟨#[104, 116, 116, 112, 58, 47, 47, 98]⟩ 1 = false := by unfold seen seenOf; simp only [ByteArray.toList_eq]; decide +kernel
theorem fact13_d (A : Option Addr) (c : Nat) (w : World) (h : Hds w A 2 c LOwn) : Calls Try.prog 6 #[.slice A 2 c, .string ⟨#[104, 116, 116, 112, 58, 47, 47, 98]⟩, .int .i64 1] w fun e w' => e = .returned (.bool false) ∧ Below w.heap.size w w' := by
  have h1 := check_any A 2 c LOwn ⟨#[104, 116, 116, 112, 58, 47, 47, 98]⟩ 1 w h (by omega) shortOwn (by decide)
  rw [seen13_d] at h1
  exact h1
theorem seen13_e : seen [] ⟨#[]⟩ 1 = false := by unfold seen seenOf; simp only [ByteArray.toList_eq]; decide +kernel
theorem fact13_e (w : World) : Calls Try.prog 6 #[.slice Option.none 0 0, .string ⟨#[]⟩, .int .i64 1] w fun e w' => e = .returned (.bool false) ∧ Below w.heap.size w w' := by
  have h1 := check_any Option.none 0 0 [] ⟨#[]⟩ 1 w (hds_empty w _ _ (Nat.zero_le _) (fun _ => rfl)) (by omega) (fun x hx => by cases hx) (by decide)
  rw [seen13_e] at h1
  exact h1

set_option maxHeartbeats 4000000 in
set_option maxRecDepth 100000 in
theorem awake13_any (w : World) : Calls Try.prog 5 #[] w (Yes w) := by
  obtain ⟨w0, hw0⟩ : ∃ w0, w0 = w.alloc (.cells (hcells LStar).toArray 27) := ⟨_, rfl⟩
  have hz0 : w0.heap.size = w.heap.size + 1 := by rw [hw0]; simp
  have hS0 := hds_new w _ LStar rfl (tiny (by decide))
  rw [← hw0] at hS0
  have hb0 := show Below w.heap.size w w0 by rw [hw0]; exact below_box w _
  obtain ⟨w1, hw1⟩ : ∃ w1, w1 = w0.alloc (.cells (hcells LOwn).toArray 27) := ⟨_, rfl⟩
  have hO1 := hds_new w0 _ LOwn rfl (tiny (by decide))
  rw [← hw1, hz0] at hO1
  have hb1 := show Below w0.heap.size w0 w1 by rw [hw1]; exact below_box w0 _
  have hS1 := Lib.hid (hS0.later hb1)
  have hO1' := Lib.hid hO1
  have hB1 := Lib.hid (below_then hb0 hb1)
  have hw0' : Hid (w.alloc (.cells #[.string ⟨#[65, 99, 99, 101, 115, 115, 45, 67, 111, 110, 116, 114, 111, 108, 45, 65, 108, 108, 111, 119, 45, 79, 114, 105, 103, 105, 110]⟩, .string ⟨#[42]⟩] 27) = w0) := Lib.hid hw0.symm
  have hw1' : Hid (w0.alloc (.cells #[.string ⟨#[97, 99, 99, 101, 115, 115, 45, 99, 111, 110, 116, 114, 111, 108, 45, 97, 108, 108, 111, 119, 45, 111, 114, 105, 103, 105, 110]⟩, .string ⟨#[104, 116, 116, 112, 58, 47, 47, 97]⟩, .string ⟨#[65, 99, 99, 101, 115, 115, 45, 67, 111, 110, 116, 114, 111, 108, 45, 65, 108, 108, 111, 119, 45, 67, 114, 101, 100, 101, 110, 116, 105, 97, 108, 115]⟩, .string ⟨#[116, 114, 117, 101]⟩] 27) = w1) := Lib.hid hw1.symm
  clear hw0 hw1 hz0 hS0 hO1 hb0 hb1
  go_enter Try.func5, Try.ntmps5
  go_wp2_with fail
  rw [hw0'.out, hw1'.out]
  go_wp2_with (first
    | (go_at_call 6; (with_reducible refine (fact13_a _ _ _ hS1.out).mono ?_); rintro e w2 ⟨rfl, hb2⟩; have B2 := Lib.hid (below_then hB1.out hb2); have S2 := Lib.hid (hS1.out.later hb2); have O2 := Lib.hid (hO1'.out.later hb2))
    | (go_at_call 6; (with_reducible refine (fact13_b _ _ _ S2.out).mono ?_); rintro e w3 ⟨rfl, hb3⟩; have B3 := Lib.hid (below_then B2.out hb3); have O3 := Lib.hid (O2.out.later hb3))
    | (go_at_call 6; (with_reducible refine (fact13_c _ _ _ O3.out).mono ?_); rintro e w4 ⟨rfl, hb4⟩; have B4 := Lib.hid (below_then B3.out hb4); have O4 := Lib.hid (O3.out.later hb4))
    | (go_at_call 6; (with_reducible refine (fact13_d _ _ _ O4.out).mono ?_); rintro e w5 ⟨rfl, hb5⟩; have B5 := Lib.hid (below_then B4.out hb5))
    | (go_at_call 6; (with_reducible refine (fact13_e _).mono ?_); rintro e w6 ⟨rfl, hb6⟩; have B6 := Lib.hid (below_then B5.out hb6)))
  go_ret
  exact ⟨rfl, B6.out⟩
end Go.Proofs.Ytdmmkjioaiefdaa
