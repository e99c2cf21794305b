/-
  Which bytes stand in a token, and what a token is, as the program and as the reference say it. Conditions: those that each theorem states.
-/
import Derived.Test.YtalnjlodldhfbaaGreatDoorLow
import Derived.Test.YtalnjlodldhfbaaGreatDoorAscIndex
namespace Go.Proofs.YtalnjlodldhfbaaGreatDoor
open Go.RowKit Go.Lib Go.Shelf

/-- May a byte stand in a token? -/
def tok (c : Nat) : Bool := (97 ≤ c && c ≤ 122) || (65 ≤ c && c ≤ 90) || (48 ≤ c && c ≤ 57) || c == 33 || (35 ≤ c && c ≤ 39) || c == 42 || c == 43 || c == 45 || c == 46 || (94 ≤ c && c ≤ 96) || c == 124 || c == 126

theorem marks_out : ∀ c : Fin 256, (97 ≤ c.val ∧ c.val ≤ 122) ∨ (65 ≤ c.val ∧ c.val ≤ 90) ∨ (48 ≤ c.val ∧ c.val ≤ 57) ∨
    decide (0 ≤ Lib.indexByte [33, 35, 36, 37, 38, 39, 42, 43, 45, 46, 94, 95, 96, 124, 126] (Int.toNat (c.val : Int)).toUInt8) = tok c.val := by decide +kernel

set_option maxHeartbeats 2000000 in
set_option maxRecDepth 100000 in
theorem inToken_any (c : Nat) (hc : c < 256) (w : World) : Calls Tryz.prog 68 #[.int .u8 c] w fun e w' => e = .returned (.bool (tok c)) ∧ w' = w := by
  rcases (show (97 ≤ c ∧ c ≤ 122) ∨ (65 ≤ c ∧ c ≤ 90) ∨ (48 ≤ c ∧ c ≤ 57) ∨ (¬ (97 ≤ c ∧ c ≤ 122) ∧ ¬ (65 ≤ c ∧ c ≤ 90) ∧ ¬ (48 ≤ c ∧ c ≤ 57)) by omega) with h | h | h | h
  · have ht : tok c = true := by simp [tok, h]
    rw [ht]
    obtain ⟨h1, h2⟩ := h
    go_enter Tryz.func68, Tryz.ntmps68
    go_wp2
    go_ret
    exact ⟨rfl, rfl⟩
  · have ht : tok c = true := by simp [tok, h]
    rw [ht]
    obtain ⟨h1, h2⟩ := h
    go_enter Tryz.func68, Tryz.ntmps68
    go_wp2
    go_ret
    exact ⟨rfl, rfl⟩
  · have ht : tok c = true := by simp [tok, h]
    rw [ht]
    have hd := isDigit_any c w
    have hd1 : (48 ≤ c && c ≤ 57) = true := by simp [h]
    rw [hd1] at hd
    clear hd1
    obtain ⟨h1, h2⟩ := h
    go_enter Tryz.func68, Tryz.ntmps68
    go_wp2_with (go_at_call 69; refine hd.mono ?_; rintro e w' ⟨rfl, rfl⟩)
    go_ret
    exact ⟨rfl, rfl⟩
  · have hd := isDigit_any c w
    have hd1 : (48 ≤ c && c ≤ 57) = false := by rw [Bool.and_eq_false_iff]; simp; omega
    rw [hd1] at hd
    have hi := index_any ⟨#[33, 35, 36, 37, 38, 39, 42, 43, 45, 46, 94, 95, 96, 124, 126]⟩ (c : Int) w
    have ht : decide (0 ≤ Lib.indexByte [33, 35, 36, 37, 38, 39, 42, 43, 45, 46, 94, 95, 96, 124, 126] (Int.toNat (c : Int)).toUInt8) = tok c := by
      rcases marks_out ⟨c, hc⟩ with h' | h' | h' | h'
      · exact absurd h' h.1
      · exact absurd h' h.2.1
      · exact absurd h' h.2.2
      · exact h'
    change Calls _ _ _ _ (fun e w' => e = .returned (.int .i64 (Lib.indexByte [33, 35, 36, 37, 38, 39, 42, 43, 45, 46, 94, 95, 96, 124, 126] (Int.toNat (c : Int)).toUInt8)) ∧ w' = w) at hi
    generalize Lib.indexByte [33, 35, 36, 37, 38, 39, 42, 43, 45, 46, 94, 95, 96, 124, 126] (Int.toNat (c : Int)).toUInt8 = x at hi ht
    clear hd1
    generalize tok c = tc at ht
    subst ht
    obtain ⟨h1, h2, h3⟩ := h
    rcases (show c < 65 ∨ (90 < c ∧ c < 97) ∨ 122 < c by omega) with h | ⟨h, h'⟩ | h
    all_goals
      by_cases hx : 0 ≤ x
      all_goals
        first | (rw [decide_eq_true hx]; have : Unit := ()) | rw [decide_eq_false hx]
        clear h1 h2 h3
        go_enter Tryz.func68, Tryz.ntmps68
        go_wp2_with (first
          | (go_at_call 69; refine hd.mono ?_; rintro e w' ⟨rfl, hw⟩; subst hw)
          | (go_at_call 72; refine hi.mono ?_; rintro e w' ⟨rfl, hw⟩; subst hw))
        go_ret
        exact ⟨rfl, rfl⟩

end Go.Proofs.YtalnjlodldhfbaaGreatDoor
