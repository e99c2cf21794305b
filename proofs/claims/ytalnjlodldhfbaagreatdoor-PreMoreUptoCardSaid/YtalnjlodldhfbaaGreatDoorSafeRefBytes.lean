/-
  Which bytes stand in the values of safelisted headers, as the reference has them. Conditions: those that each theorem states.
-/
import Derived.Test.YtalnjlodldhfbaaGreatDoorSafeBytes
namespace Go.Proofs.YtalnjlodldhfbaaGreatDoor
open Go.RowKit Go.Lib Go.Shelf

set_option maxHeartbeats 4000000 in
set_option maxRecDepth 100000 in
theorem refUnsafe_any (c : Nat) (hc : c < 256) (w : World) : Calls Tryz.prog 42 #[.int .u8 c] w fun e w' => e = .returned (.bool (!acc c)) ∧ w' = w := by
  rcases (show c = 9 ∨ c = 34 ∨ c = 40 ∨ c = 41 ∨ c = 58 ∨ c = 60 ∨ c = 62 ∨ c = 63 ∨ c = 64 ∨ c = 91 ∨ c = 92 ∨ c = 93 ∨ c = 123 ∨ c = 125 ∨ c = 127 ∨ (c < 32 ∧ c ≠ 9) ∨ (32 ≤ c ∧ c ≠ 127 ∧ c ≠ 34 ∧ c ≠ 40 ∧ c ≠ 41 ∧ c ≠ 58 ∧ c ≠ 60 ∧ c ≠ 62 ∧ c ≠ 63 ∧ c ≠ 64 ∧ c ≠ 91 ∧ c ≠ 92 ∧ c ≠ 93 ∧ c ≠ 123 ∧ c ≠ 125) by omega) with h | h | h | h | h | h | h | h | h | h | h | h | h | h | h | h | h
  iterate 15
    · subst h
      go_enter Tryz.func42, Tryz.ntmps42
      go_wp2
      go_ret
      exact ⟨ret_bool (by first | rfl | (rw [Bool.eq_iff_iff]; simp; done) | (rw [Bool.eq_iff_iff]; simp; omega)), rfl⟩
  · rw [acc_low ⟨c, hc⟩ h]
    have h9 : ((c : Int) != 9) = true := by rw [bne_iff_ne]; omega
    have h1 := h.1
    clear h
    go_enter Tryz.func42, Tryz.ntmps42
    go_wp2
    go_ret
    exact ⟨ret_bool (by first | rfl | (rw [Bool.eq_iff_iff]; simp; done) | (rw [Bool.eq_iff_iff]; simp; omega)), rfl⟩
  · rw [acc_other ⟨c, hc⟩ h]
    have q34 : ((c : Int) == 34) = false := by rw [beq_eq_false_iff_ne]; omega
    have q40 : ((c : Int) == 40) = false := by rw [beq_eq_false_iff_ne]; omega
    have q41 : ((c : Int) == 41) = false := by rw [beq_eq_false_iff_ne]; omega
    have q58 : ((c : Int) == 58) = false := by rw [beq_eq_false_iff_ne]; omega
    have q60 : ((c : Int) == 60) = false := by rw [beq_eq_false_iff_ne]; omega
    have q62 : ((c : Int) == 62) = false := by rw [beq_eq_false_iff_ne]; omega
    have q63 : ((c : Int) == 63) = false := by rw [beq_eq_false_iff_ne]; omega
    have q64 : ((c : Int) == 64) = false := by rw [beq_eq_false_iff_ne]; omega
    have q91 : ((c : Int) == 91) = false := by rw [beq_eq_false_iff_ne]; omega
    have q92 : ((c : Int) == 92) = false := by rw [beq_eq_false_iff_ne]; omega
    have q93 : ((c : Int) == 93) = false := by rw [beq_eq_false_iff_ne]; omega
    have q123 : ((c : Int) == 123) = false := by rw [beq_eq_false_iff_ne]; omega
    have q125 : ((c : Int) == 125) = false := by rw [beq_eq_false_iff_ne]; omega
    have q127 : ((c : Int) == 127) = false := by rw [beq_eq_false_iff_ne]; omega
    have h1 := h.1
    clear h
    go_enter Tryz.func42, Tryz.ntmps42
    go_wp2
    go_ret
    exact ⟨ret_bool (by first | rfl | (rw [Bool.eq_iff_iff]; simp; done) | (rw [Bool.eq_iff_iff]; simp; omega)), rfl⟩

set_option maxHeartbeats 4000000 in
set_option maxRecDepth 100000 in
theorem refLanguage_any (c : Nat) (hc : c < 256) (w : World) : Calls Tryz.prog 41 #[.int .u8 c] w fun e w' => e = .returned (.bool (lang c)) ∧ w' = w := by
  rcases (show c = 32 ∨ c = 42 ∨ c = 44 ∨ c = 45 ∨ c = 46 ∨ c = 59 ∨ c = 61 ∨ (48 ≤ c ∧ c ≤ 57) ∨ (65 ≤ c ∧ c ≤ 90) ∨ (97 ≤ c ∧ c ≤ 122) ∨ ((c < 48 ∨ (57 < c ∧ c < 65) ∨ (90 < c ∧ c < 97) ∨ 122 < c) ∧ c ≠ 32 ∧ c ≠ 42 ∧ c ≠ 44 ∧ c ≠ 45 ∧ c ≠ 46 ∧ c ≠ 59 ∧ c ≠ 61) by omega) with h | h | h | h | h | h | h | h | h | h | h
  iterate 7
    · subst h
      go_enter Tryz.func41, Tryz.ntmps41
      go_wp2
      go_ret
      exact ⟨ret_bool (by first | rfl | (rw [Bool.eq_iff_iff]; simp; done) | (rw [Bool.eq_iff_iff]; simp; omega)), rfl⟩
  iterate 3
    · rw [lang_in ⟨c, hc⟩ (by simp only; omega)]
      obtain ⟨h1, h2⟩ := h
      go_enter Tryz.func41, Tryz.ntmps41
      go_wp2
      go_ret
      exact ⟨ret_bool (by first | rfl | (rw [Bool.eq_iff_iff]; simp; done) | (rw [Bool.eq_iff_iff]; simp; omega)), rfl⟩
  · rw [lang_other ⟨c, hc⟩ (by simp only; omega)]
    have q32 : ((c : Int) == 32) = false := by rw [beq_eq_false_iff_ne]; omega
    have q42 : ((c : Int) == 42) = false := by rw [beq_eq_false_iff_ne]; omega
    have q44 : ((c : Int) == 44) = false := by rw [beq_eq_false_iff_ne]; omega
    have q45 : ((c : Int) == 45) = false := by rw [beq_eq_false_iff_ne]; omega
    have q46 : ((c : Int) == 46) = false := by rw [beq_eq_false_iff_ne]; omega
    have q59 : ((c : Int) == 59) = false := by rw [beq_eq_false_iff_ne]; omega
    have q61 : ((c : Int) == 61) = false := by rw [beq_eq_false_iff_ne]; omega
    obtain ⟨h, _⟩ := h
    rcases h with h | ⟨h, h'⟩ | ⟨h, h'⟩ | h
    all_goals
      go_enter Tryz.func41, Tryz.ntmps41
      go_wp2
      go_ret
      exact ⟨ret_bool (by first | rfl | (rw [Bool.eq_iff_iff]; simp; done) | (rw [Bool.eq_iff_iff]; simp; omega)), rfl⟩
end Go.Proofs.YtalnjlodldhfbaaGreatDoor
