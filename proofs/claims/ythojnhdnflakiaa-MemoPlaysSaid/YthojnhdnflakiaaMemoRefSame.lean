/-
  The reference's same and Same of layer 15. Conditions: those that each theorem states.
-/
import Derived.Test.YthojnhdnflakiaaMemoMem
import Derived.BigQuiet
namespace Go.Proofs.Ythojnhdnflakiaa
open Go.RowKit Go.Lib Go.Shelf

set_option maxHeartbeats 8000000 in
set_option maxRecDepth 100000 in
theorem refKey_any (a b : Ent) (w : World) : Calls Try.prog 27 #[evalue a, evalue b] w fun e w' => e = .returned (.bool (sameKey a b)) ∧ Below w.heap.size w w' := by
  obtain ⟨a1, a2, a3, a4, a5, a6⟩ := a
  obtain ⟨b1, b2, b3, b4, b5, b6⟩ := b
  have hd : sameKey ⟨a1, a2, a3, a4, a5, a6⟩ ⟨b1, b2, b3, b4, b5, b6⟩ = ((a1.toList == b1.toList) && ((a2.toList == b2.toList) && ((a3 == b3) && ((a4.toList == b4.toList) && (a5.toList == b5.toList))))) := rfl
  rw [hd]
  clear hd
  unfold evalue
  simp only
  rcases Bool.eq_false_or_eq_true (a1.toList == b1.toList) with q1 | q1
  rotate_left
  · go_enter Try.func27, Try.ntmps27
    go_wp2
    go_ret
    exact ⟨ret_bool (by simp [q1]), below_then (below_box _ _) (below_box _ _)⟩
  rcases Bool.eq_false_or_eq_true (a2.toList == b2.toList) with q2 | q2
  rotate_left
  · go_enter Try.func27, Try.ntmps27
    go_wp2
    go_ret
    exact ⟨ret_bool (by simp [q1, q2]), below_then (below_box _ _) (below_box _ _)⟩
  rcases Bool.eq_false_or_eq_true (a3 == b3) with q3 | q3
  rotate_left
  · go_enter Try.func27, Try.ntmps27
    go_wp2
    go_ret
    exact ⟨ret_bool (by simp [q1, q2, q3]), below_then (below_box _ _) (below_box _ _)⟩
  rcases Bool.eq_false_or_eq_true (a4.toList == b4.toList) with q4 | q4
  rotate_left
  · go_enter Try.func27, Try.ntmps27
    go_wp2
    go_ret
    exact ⟨ret_bool (by simp [q1, q2, q3, q4]), below_then (below_box _ _) (below_box _ _)⟩
  · go_enter Try.func27, Try.ntmps27
    go_wp2
    go_ret
    exact ⟨ret_bool (by simp [q1, q2, q3, q4]), below_then (below_box _ _) (below_box _ _)⟩

set_option maxHeartbeats 8000000 in
set_option maxRecDepth 100000 in
/-- Two lists that read as one are the same. (The laws ask it of equal lists alone.) -/
theorem same15_any (A B : Option Addr) (n m c d : Nat) (a : List Ent) (w : World) (ha : Eds w A n c a) (hb : Eds w B m d a) :
    Calls Try.prog 15 #[.slice A n c, .slice B m d] w fun e w' => e = .returned (.bool true) ∧ Below w.heap.size w w' := by
  have hnm : n = m := by rw [← ha.len, ← hb.len]
  subst hnm
  have hn : n ≤ 9223372036854775807 := by have h1 := ha.cap; have h2 := ha.room; unfold maxLen at h2; omega
  have hl := Lib.hid ha.len
  have ha' := Lib.hid ha
  have hb' := Lib.hid hb
  clear ha hb
  go_enter Try.func15, Try.ntmps15
  go_wp2
  go_loopw [5] (fun i wr => ∃ k : Nat, k ≤ n ∧ i = .int .i64 k ∧ Below w.heap.size w wr) (fun i _ => n - (RowKit.intOf i).toNat)
  case atStart => exact ⟨0, Nat.zero_le _, rfl, Below.refl _ _⟩
  case round =>
    obtain ⟨k, hk, rfl, hbe⟩ := hrel
    by_cases hkn : k < n
    · obtain ⟨x, hx⟩ : ∃ x, x = a[k]'(by rw [hl.out]; exact hkn) := ⟨_, rfl⟩
      obtain ⟨ga, oa, rfl, h1, h2, h3, h4, h5, h6⟩ := (ha'.out.later hbe).six hkn hx
      obtain ⟨gb, ob, rfl, j1, j2, j3, j4, j5, j6⟩ := (hb'.out.later hbe).six hkn hx
      clear hx
      obtain ⟨x1, x2, x3, x4, x5, x6⟩ := x
      simp only at h1 h2 h3 h4 h5 h6 j1 j2 j3 j4 j5 j6
      go_wp2
      go_region
      all_goals go_wp2
      all_goals
        go_roundw
        case rel =>
          refine ⟨k + 1, by omega, by go_num, ?_⟩
          first | exact hbe.drew | exact below_drawn hbe _
        case measure => simp [RowKit.intOf]; omega
    · go_wp2
      go_ret
      exact ⟨rfl, hbe⟩
end Go.Proofs.Ythojnhdnflakiaa
