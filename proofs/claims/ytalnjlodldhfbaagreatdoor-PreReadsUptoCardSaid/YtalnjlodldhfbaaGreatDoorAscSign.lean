/-
  Which bytes the reference lets stand in a token. Conditions: those that the theorem states.
-/
import Derived.Test.YtalnjlodldhfbaaGreatDoorAscTok
namespace Go.Proofs.YtalnjlodldhfbaaGreatDoor
open Go.RowKit Go.Lib

set_option maxHeartbeats 4000000 in
set_option maxRecDepth 100000 in
theorem sign_any (c : Nat) (hc : c < 256) (w : World) : Calls Tryz.prog 53 #[.int .u8 c] w fun e w' => e = .returned (.bool (tok c)) ∧ w' = w := by
  rcases (show (0 ≤ c ∧ c < 33) ∨ c = 33 ∨ c = 34 ∨ (35 ≤ c ∧ c ≤ 39) ∨ c = 40 ∨ c = 41 ∨ c = 42 ∨ c = 43 ∨ c = 44 ∨ c = 45 ∨ c = 46 ∨ c = 47 ∨ (48 ≤ c ∧ c ≤ 57) ∨ (58 ≤ c ∧ c ≤ 64) ∨ (65 ≤ c ∧ c ≤ 90) ∨ (91 ≤ c ∧ c ≤ 93) ∨ (94 ≤ c ∧ c ≤ 96) ∨
      (97 ≤ c ∧ c ≤ 122) ∨ c = 123 ∨ c = 124 ∨ c = 125 ∨ c = 126 ∨ (127 ≤ c ∧ c < 256) by omega) with h | h | h | h | h | h | h | h | h | h | h | h | h | h | h | h | h | h | h | h | h | h | h
  all_goals
    obtain ⟨t, ht⟩ : ∃ t, t = tok c := ⟨_, rfl⟩
    rw [← ht]
    try subst h
    try (obtain ⟨h1, h2⟩ := h)
    go_enter Tryz.func53, Tryz.ntmps53
    go_wp2
    go_ret
    refine ⟨ret_bool ?_, rfl⟩
    rw [Bool.eq_iff_iff]
    try rw [ht]
    simp only [tok]
    simp
    try omega
end Go.Proofs.YtalnjlodldhfbaaGreatDoor
