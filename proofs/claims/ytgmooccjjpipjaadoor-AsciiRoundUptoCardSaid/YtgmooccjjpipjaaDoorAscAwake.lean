/-
  The fixed fact of layer 4. Condition: the library's variable that strings.Split may read holds an int.
-/
import Derived.Test.YtgmooccjjpipjaaDoorAscList
import Derived.Test.YtgmooccjjpipjaaDoorAscCase
import Derived.Test.YtgmooccjjpipjaaDoorAscNum
namespace Go.Proofs.YtgmooccjjpipjaaDoor
open Go.RowKit Go.Lib

theorem small {n : Nat} (h : n ≤ 1000) : n ≤ maxLen := by simp only [maxLen]; omega

theorem below_next {w a b : World} (h : Below w.heap.size w a) (k : Below a.heap.size a b) : Below w.heap.size w b := h.trans (k.mono h.size)

theorem fact_num (w : World) : Calls Tryd.prog 19 #[.string ⟨#[48, 48, 55, 48]⟩, .int .i64 60] w fun e w' => e = .returned (.tuple #[.int .i64 60, .bool true]) ∧ w' = w := by
  have h := number_any ⟨#[48, 48, 55, 48]⟩ (small (by decide)) 60 (by unfold I63; omega) w
  rw [show number (⟨#[48, 48, 55, 48]⟩ : ByteArray).data.toList 60 = 60 by decide, show isNumber (⟨#[48, 48, 55, 48]⟩ : ByteArray).data.toList = true by decide] at h
  exact h
theorem fact_no (w : World) : Calls Tryd.prog 19 #[.string ⟨#[55, 120]⟩, .int .i64 60] w fun e w' => e = .returned (.tuple #[.int .i64 0, .bool false]) ∧ w' = w := by
  have h := number_any ⟨#[55, 120]⟩ (small (by decide)) 60 (by unfold I63; omega) w
  rw [show number (⟨#[55, 120]⟩ : ByteArray).data.toList 60 = 0 by decide, show isNumber (⟨#[55, 120]⟩ : ByteArray).data.toList = false by decide] at h
  exact h
theorem fact_list (w : World) (hm : Lim w) : Calls Tryd.prog 17 #[.string ⟨#[97, 44, 32, 44, 98]⟩] w (GivesT w [[97], [98]]) := by
  have h := list_any ⟨#[97, 44, 32, 44, 98]⟩ (by decide) w hm
  rw [show listOf (⟨#[97, 44, 32, 44, 98]⟩ : ByteArray).data.toList = [[97], [98]] by decide] at h
  exact h
theorem fact_lower (w : World) : Calls Tryd.prog 8 #[.string ⟨#[97, 66, 192]⟩] w fun e w' => e = .returned (.string ⟨#[97, 98, 192]⟩) ∧ Below w.heap.size w w' := by
  have h := lower_any ⟨#[97, 66, 192]⟩ (small (by decide)) w
  rw [show (⟨((⟨#[97, 66, 192]⟩ : ByteArray).data.toList.map (turn 65 90 32)).toArray⟩ : ByteArray) = ⟨#[97, 98, 192]⟩ by decide] at h
  exact h
theorem fact_upper (w : World) : Calls Tryd.prog 10 #[.string ⟨#[97, 66]⟩] w fun e w' => e = .returned (.string ⟨#[65, 66]⟩) ∧ Below w.heap.size w w' := by
  have h := upper_any ⟨#[97, 66]⟩ (small (by decide)) w
  rw [show (⟨((⟨#[97, 66]⟩ : ByteArray).data.toList.map (turn 97 122 224)).toArray⟩ : ByteArray) = ⟨#[65, 66]⟩ by decide] at h
  exact h
theorem fact_token (w : World) : Calls Tryd.prog 12 #[.string ⟨#[120, 45, 121]⟩] w fun e w' => e = .returned (.bool true) ∧ w' = w := by
  have h := token_any ⟨#[120, 45, 121]⟩ (small (by decide)) w
  rw [show token (⟨#[120, 45, 121]⟩ : ByteArray).data.toList = true by decide] at h
  exact h
theorem fact_none (w : World) : Calls Tryd.prog 12 #[.string ⟨#[]⟩] w fun e w' => e = .returned (.bool false) ∧ w' = w := by
  have h := token_any ⟨#[]⟩ (small (by decide)) w
  rw [show token (⟨#[]⟩ : ByteArray).data.toList = false by decide] at h
  exact h
theorem fact_trim (w : World) : Calls Tryd.prog 14 #[.string ⟨#[32, 9, 97, 32, 98, 9]⟩] w fun e w' => e = .returned (.string ⟨#[97, 32, 98]⟩) ∧ Below w.heap.size w w' := by
  have h := trim_any ⟨#[32, 9, 97, 32, 98, 9]⟩ (small (by decide)) w
  rw [show (⟨(trim (⟨#[32, 9, 97, 32, 98, 9]⟩ : ByteArray).data.toList).toArray⟩ : ByteArray) = ⟨#[97, 32, 98]⟩ by decide] at h
  exact h
theorem fact_same (A : Option Addr) (c : Nat) (w : World) (h : Texts w A 2 [[97], [98]]) (g : Nat) (hg : g = w.heap.size) : Calls Tryd.prog 16 #[.slice A 2 c, .slice (some ⟨g, 0, Option.none⟩) 2 2]
    (w.alloc (.cells #[.string ⟨#[97]⟩, .string ⟨#[98]⟩] 9)) fun e w' => e = .returned (.bool true) ∧ Below w.heap.size w w' := by
  subst hg
  have hb : Below w.heap.size w (w.alloc (.cells #[.string ⟨#[97]⟩, .string ⟨#[98]⟩] 9)) := (Below.refl _ _).alloc (Nat.le_refl _) _
  refine (same_any A _ 2 2 c 2 [[97], [98]] [[97], [98]] _ (h.later hb) (texts_new w _ [[97], [98]] rfl) (by omega) (by omega)).mono ?_
  rintro e w' ⟨rfl, h'⟩
  exact ⟨rfl, hb.trans (h'.mono hb.size)⟩

set_option maxHeartbeats 4000000 in
set_option maxRecDepth 100000 in
theorem awake4_any (w : World) (hm : Lim w) : Calls Tryd.prog 7 #[] w (Yes w) := by
  go_enter Tryd.func7, Tryd.ntmps7
  go_wp2_with (first
    | (go_at_call 19; with_reducible refine (fact_num _).mono ?_; rintro e w' ⟨rfl, hw⟩; subst hw)
    | (go_at_call 19; with_reducible refine (fact_no _).mono ?_; rintro e w' ⟨rfl, hw⟩; subst hw)
    | (go_at_call 17; refine (fact_list _ hm).mono ?_; rintro e w1 ⟨v, rfl, hown, hb1⟩; obtain ⟨X, c, hv, hT⟩ := hown.texts; subst hv)
    | (go_at_call 16; refine (fact_same _ _ _ hT _ rfl).mono ?_; rintro e w2 ⟨rfl, hb2⟩)
    | (go_at_call 8; refine (fact_lower _).mono ?_; rintro e w3 ⟨rfl, hb3⟩)
    | (go_at_call 10; refine (fact_upper _).mono ?_; rintro e w4 ⟨rfl, hb4⟩)
    | (go_at_call 12; with_reducible refine (fact_token _).mono ?_; rintro e w' ⟨rfl, hw⟩; subst hw)
    | (go_at_call 12; with_reducible refine (fact_none _).mono ?_; rintro e w' ⟨rfl, hw⟩; subst hw)
    | (go_at_call 14; refine (fact_trim _).mono ?_; rintro e w5 ⟨rfl, hb5⟩))
  go_ret
  exact ⟨rfl, below_next (below_next (below_next (below_next hb1 hb2) hb3) hb4) hb5⟩
end Go.Proofs.YtgmooccjjpipjaaDoor
