/-
  A text without the white at its ends, as the program and as the reference have it. Conditions: those that each theorem states.
-/
import Derived.Test.YtalnjlodldhfbaaGreatDoorLow
import Derived.Test.YtalnjlodldhfbaaGreatDoorAscShelf
import Derived.Lib.IndexBytes
namespace Go.Proofs.YtalnjlodldhfbaaGreatDoor
open Go.RowKit Go.Lib Go.Shelf

theorem libTrim_any (s : ByteArray) (hs : s.size ≤ maxLen) (w : World) : Calls Tryz.prog 89 #[.string s, .string ⟨#[32, 9]⟩] w fun e w' =>
    e = .returned (.string ⟨(trim s.data.toList).toArray⟩) ∧ Below w.heap.size w w' :=
  Any.strings_Trim_laid Tryz.lays160 (by kernel_rfl) s ⟨#[32, 9]⟩ w (by unfold maxLen at hs; exact hs) (by decide) (ascii_of_all (by decide))

theorem trim_any (s : ByteArray) (hs : s.size ≤ maxLen) (w : World) : Calls Tryz.prog 67 #[.string s] w fun e w' =>
    e = .returned (.string ⟨(trim s.data.toList).toArray⟩) ∧ Below w.heap.size w w' := by
  have h := libTrim_any s hs w
  generalize (⟨(trim s.data.toList).toArray⟩ : ByteArray) = r at h ⊢
  go_enter Tryz.func67, Tryz.ntmps67
  go_wp2_with (go_at_call 89; refine h.mono ?_; rintro e w' ⟨rfl, hb⟩)
  go_ret
  exact ⟨rfl, hb⟩

set_option maxHeartbeats 2000000 in
set_option maxRecDepth 100000 in
theorem refTrim_any (s : ByteArray) (hs : s.size ≤ maxLen) (w : World) : Calls Tryz.prog 43 #[.string s] w fun e w' =>
    e = .returned (.string ⟨(trim s.data.toList).toArray⟩) ∧ w' = w := by
  have hm : s.size ≤ 9223372036854775807 := by unfold maxLen at hs; exact hs
  generalize hl : trim s.data.toList = l
  have hl' := Lib.hid hl
  clear hl
  go_enter Tryz.func43, Tryz.ntmps43
  go_wp2
  go_loop [0] (fun v => ∃ t : ByteArray, t.size ≤ s.size ∧ v = .string t ∧ trim t.data.toList = l) (fun v => lenOf v)
  case atStart => exact ⟨s, Nat.le_refl _, rfl, hl'.out⟩
  case round =>
    obtain ⟨t, ht, rfl, htl⟩ := hrel
    have htl' := Lib.hid htl
    clear htl
    by_cases h0 : 0 < t.size
    · by_cases hw : white t[0] = true
      · have hc := Lib.hid (cut_first h0 hw)
        rcases (white_iff _).1 hw with h | h
        all_goals
          clear hw
          go_wp2
          go_round
          case rel => exact ⟨_, by rw [hc.out.2]; omega, rfl, by rw [hc.out.1]; exact htl'.out⟩
          case measure => show (t.extract 1 t.size).size < t.size; rw [hc.out.2]; omega
      · have hL' : Hid (Lead t.data.toList) := Lib.hid fun _ => by rw [byte_at t 0 h0] at hw; simpa using hw
        have hw' : ¬ ((t[0].toNat : Int) = 32 ∨ (t[0].toNat : Int) = 9) := fun c => hw ((white_iff _).2 c)
        have h1 : ((t[0].toNat : Int) == 32) = false := by simpa using fun c => hw' (.inl c)
        have h2 : ((t[0].toNat : Int) == 9) = false := by simpa using fun c => hw' (.inr c)
        clear hw hw'
        go_wp2
        go_loop [0] (fun v => ∃ u : ByteArray, u.size ≤ s.size ∧ v = .string u ∧ trim u.data.toList = l ∧ Lead u.data.toList) (fun v => lenOf v)
        case atStart => exact ⟨t, ht, rfl, htl'.out, hL'.out⟩
        case round =>
          obtain ⟨u, hu, rfl, hul, huL⟩ := hrel
          have hul' := Lib.hid hul
          have huL' := Lib.hid huL
          clear hul huL
          by_cases hu0 : 0 < u.size
          · by_cases hw : white (u[u.size - 1]'(by omega)) = true
            · have hc := Lib.hid (cut_last hu0 hw)
              rcases (white_iff _).1 hw with h | h
              all_goals
                clear hw
                go_wp2
                go_round
                case rel => exact ⟨_, by rw [hc.out.2.1]; omega, rfl, by rw [hc.out.1]; exact hul'.out, by rw [hc.out.2.2]; exact huL'.out.cut _⟩
                case measure => show (u.extract 0 (u.size - 1)).size < u.size; rw [hc.out.2.1]; omega
            · have he : (⟨u.data.toList.toArray⟩ : ByteArray) = ⟨l.toArray⟩ := by rw [← hul'.out, text_kept huL'.out hu0 hw]
              rw [Lib.mk_data] at he
              have he' := Lib.hid he
              have hw' : ¬ (((u[u.size - 1]'(by omega)).toNat : Int) = 32 ∨ ((u[u.size - 1]'(by omega)).toNat : Int) = 9) := fun c => hw ((white_iff _).2 c)
              have q1 : (((u[u.size - 1]'(by omega)).toNat : Int) == 32) = false := by simpa using fun c => hw' (.inl c)
              have q2 : (((u[u.size - 1]'(by omega)).toNat : Int) == 9) = false := by simpa using fun c => hw' (.inr c)
              clear hw hw' he
              go_wp2
              go_ret
              exact ⟨ret_string he'.out, rfl⟩
          · have e0 : u.data.toList = [] := List.eq_nil_of_length_eq_zero (by rw [← size_len]; omega)
            have he : (⟨u.data.toList.toArray⟩ : ByteArray) = ⟨l.toArray⟩ := by rw [← hul'.out, e0]; rfl
            rw [Lib.mk_data] at he
            have he' := Lib.hid he
            clear he e0
            go_wp2
            go_ret
            exact ⟨ret_string he'.out, rfl⟩
    · have hL' : Hid (Lead t.data.toList) := Lib.hid fun h => absurd h (by rw [← size_len]; exact h0)
      go_wp2
      go_loop [0] (fun v => ∃ u : ByteArray, u.size ≤ s.size ∧ v = .string u ∧ trim u.data.toList = l ∧ Lead u.data.toList) (fun v => lenOf v)
      case atStart => exact ⟨t, ht, rfl, htl'.out, hL'.out⟩
      case round =>
        obtain ⟨u, hu, rfl, hul, huL⟩ := hrel
        have hul' := Lib.hid hul
        have huL' := Lib.hid huL
        clear hul huL
        by_cases hu0 : 0 < u.size
        · by_cases hw : white (u[u.size - 1]'(by omega)) = true
          · have hc := Lib.hid (cut_last hu0 hw)
            rcases (white_iff _).1 hw with h | h
            all_goals
              clear hw
              go_wp2
              go_round
              case rel => exact ⟨_, by rw [hc.out.2.1]; omega, rfl, by rw [hc.out.1]; exact hul'.out, by rw [hc.out.2.2]; exact huL'.out.cut _⟩
              case measure => show (u.extract 0 (u.size - 1)).size < u.size; rw [hc.out.2.1]; omega
          · have he : (⟨u.data.toList.toArray⟩ : ByteArray) = ⟨l.toArray⟩ := by rw [← hul'.out, text_kept huL'.out hu0 hw]
            rw [Lib.mk_data] at he
            have he' := Lib.hid he
            have hw' : ¬ (((u[u.size - 1]'(by omega)).toNat : Int) = 32 ∨ ((u[u.size - 1]'(by omega)).toNat : Int) = 9) := fun c => hw ((white_iff _).2 c)
            have q1 : (((u[u.size - 1]'(by omega)).toNat : Int) == 32) = false := by simpa using fun c => hw' (.inl c)
            have q2 : (((u[u.size - 1]'(by omega)).toNat : Int) == 9) = false := by simpa using fun c => hw' (.inr c)
            clear hw hw' he
            go_wp2
            go_ret
            exact ⟨ret_string he'.out, rfl⟩
        · have e0 : u.data.toList = [] := List.eq_nil_of_length_eq_zero (by rw [← size_len]; omega)
          have he : (⟨u.data.toList.toArray⟩ : ByteArray) = ⟨l.toArray⟩ := by rw [← hul'.out, e0]; rfl
          rw [Lib.mk_data] at he
          have he' := Lib.hid he
          clear he e0
          go_wp2
          go_ret
          exact ⟨ret_string he'.out, rfl⟩
end Go.Proofs.YtalnjlodldhfbaaGreatDoor
