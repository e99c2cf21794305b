/-
  cors.Check as the program has it. Conditions: those that each theorem states.
-/
import Derived.Test.YtalnjlodldhfbaaGreatDoorLow
import Derived.Test.YtalnjlodldhfbaaGreatDoorHeadGet
namespace Go.Proofs.YtalnjlodldhfbaaGreatDoor
open Go.RowKit Go.Lib Go.Shelf

set_option maxHeartbeats 4000000 in
set_option maxRecDepth 100000 in
theorem check_any (A : Option Addr) (n c : Nat) (l : List Hd) (s : ByteArray) (k : Int) (w : World) (h : Hds w A n c l) (hn : n ≤ 1000) (hB : Short maxLen l) (hby : bytesIn l ≤ 40000000000000) :
    Calls Tryz.prog 24 #[.slice A n c, .string s, .int .i64 k] w fun e w' => e = .returned (.bool (seen l s k)) ∧ Below w.heap.size w w' := by
  have hj1 := joined_len nameO l
  have hj2 := joined_len nameC l
  have h1 := Lib.hid (get_any A n c l nameO w h hn hB (tiny (by decide)) (by omega))
  have h2 := Lib.hid (fun W (hb : Below w.heap.size w W) => get_any A n c l nameC W (h.later hb) hn hB (tiny (by decide)) (by omega))
  clear hj1 hj2 h
  unfold seen
  generalize mk (joined (vals nameO l)) = a at h1 ⊢
  generalize decide (0 < (vals nameO l).length) = b at h1 ⊢
  generalize mk (joined (vals nameC l)) = t at h2 ⊢
  generalize decide (0 < (vals nameC l).length) = d at h2
  cases b with
  | false =>
      go_enter Tryz.func24, Tryz.ntmps24
      go_wp2_with (first
      | (go_at_call 47; (with_reducible refine (h1.out).mono ?_); rintro e w1 ⟨rfl, hb1⟩)
      | (go_at_call 47; (with_reducible refine (h2.out w1 hb1).mono ?_); rintro e w2 ⟨rfl, hb2⟩))
      go_ret
      exact ⟨ret_bool (by simp [seenOf]), hb1⟩
  | true =>
    by_cases h3 : k = 3
    · subst h3
      rcases Bool.eq_false_or_eq_true (a.toList == [42]) with p | p <;> rcases Bool.eq_false_or_eq_true (a.toList == s.toList) with q | q
      all_goals
        go_enter Tryz.func24, Tryz.ntmps24
        go_wp2_with (first
      | (go_at_call 47; (with_reducible refine (h1.out).mono ?_); rintro e w1 ⟨rfl, hb1⟩)
      | (go_at_call 47; (with_reducible refine (h2.out w1 hb1).mono ?_); rintro e w2 ⟨rfl, hb2⟩))
        go_ret
        first
          | exact ⟨ret_bool (by simp [seenOf, p, q]), below_then hb1 hb2⟩
          | exact ⟨ret_bool (by simp [seenOf, p, q]), hb1⟩
    · rcases Bool.eq_false_or_eq_true (a.toList == [42]) with p | p <;> rcases Bool.eq_false_or_eq_true (a.toList == s.toList) with q | q
      all_goals
        go_enter Tryz.func24, Tryz.ntmps24
        go_wp2_with (first
      | (go_at_call 47; (with_reducible refine (h1.out).mono ?_); rintro e w1 ⟨rfl, hb1⟩)
      | (go_at_call 47; (with_reducible refine (h2.out w1 hb1).mono ?_); rintro e w2 ⟨rfl, hb2⟩))
        go_ret
        exact ⟨ret_bool (by simp [seenOf, p, q, h3]), hb1⟩
end Go.Proofs.YtalnjlodldhfbaaGreatDoor
