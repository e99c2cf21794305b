/-
  Which bytes stand in the values of safelisted headers, as the program and as the reference have them; safe.consists. Conditions: those that each theorem states.
-/
import Derived.Test.YtalnjlodldhfbaaGreatDoorLow
import Derived.Test.YtalnjlodldhfbaaGreatDoorAscIndex
namespace Go.Proofs.YtalnjlodldhfbaaGreatDoor
open Go.RowKit Go.Lib Go.Shelf

/-- May a byte stand in a value of accept? -/
def acc (c : Nat) : Bool := !((decide (c < 32) && c != 9) || c == 127 || [34, 40, 41, 58, 60, 62, 63, 64, 91, 92, 93, 123, 125].contains c)
/-- May a byte stand in a value of a language? -/
def lang (c : Nat) : Bool := (48 ≤ c && c ≤ 57) || (65 ≤ c && c ≤ 90) || (97 ≤ c && c ≤ 122) || [32, 42, 44, 45, 46, 59, 61].contains c

theorem acc_out : ∀ c : Fin 256, (c.val < 32 ∧ c.val ≠ 9) ∨ c.val = 127 ∨ decide (Lib.indexByte [34, 40, 41, 58, 60, 62, 63, 64, 91, 92, 93, 123, 125] (Int.toNat (c.val : Int)).toUInt8 < 0) = acc c.val := by decide +kernel
theorem acc_low : ∀ c : Fin 256, (c.val < 32 ∧ c.val ≠ 9) → acc c.val = false := by decide +kernel
theorem acc_other : ∀ c : Fin 256, (32 ≤ c.val ∧ c.val ≠ 127 ∧ c.val ≠ 34 ∧ c.val ≠ 40 ∧ c.val ≠ 41 ∧ c.val ≠ 58 ∧ c.val ≠ 60 ∧ c.val ≠ 62 ∧ c.val ≠ 63 ∧ c.val ≠ 64 ∧ c.val ≠ 91 ∧ c.val ≠ 92 ∧ c.val ≠ 93 ∧ c.val ≠ 123 ∧ c.val ≠ 125) → acc c.val = true := by decide +kernel
theorem lang_out : ∀ c : Fin 256, (48 ≤ c.val ∧ c.val ≤ 57) ∨ (65 ≤ c.val ∧ c.val ≤ 90) ∨ (97 ≤ c.val ∧ c.val ≤ 122) ∨ decide (0 ≤ Lib.indexByte [32, 42, 44, 45, 46, 59, 61] (Int.toNat (c.val : Int)).toUInt8) = lang c.val := by decide +kernel
theorem lang_in : ∀ c : Fin 256, ((48 ≤ c.val ∧ c.val ≤ 57) ∨ (65 ≤ c.val ∧ c.val ≤ 90) ∨ (97 ≤ c.val ∧ c.val ≤ 122)) → lang c.val = true := by decide +kernel
theorem lang_other : ∀ c : Fin 256, (¬ (48 ≤ c.val ∧ c.val ≤ 57) ∧ ¬ (65 ≤ c.val ∧ c.val ≤ 90) ∧ ¬ (97 ≤ c.val ∧ c.val ≤ 122) ∧ c.val ≠ 32 ∧ c.val ≠ 42 ∧ c.val ≠ 44 ∧ c.val ≠ 45 ∧ c.val ≠ 46 ∧ c.val ≠ 59 ∧ c.val ≠ 61) → lang c.val = false := by decide +kernel

set_option maxHeartbeats 2000000 in
set_option maxRecDepth 100000 in
theorem inAccept_any (c : Nat) (hc : c < 256) (w : World) : Calls Tryz.prog 58 #[.int .u8 c] w fun e w' => e = .returned (.bool (acc c)) ∧ w' = w := by
  rcases (show (c < 32 ∧ c ≠ 9) ∨ c = 127 ∨ c = 9 ∨ (32 ≤ c ∧ c ≠ 127) by omega) with h | h | h | h
  · rw [acc_low ⟨c, hc⟩ h]
    have h9 : ((c : Int) != 9) = true := by rw [bne_iff_ne]; omega
    have h1 := h.1
    clear h
    go_enter Tryz.func58, Tryz.ntmps58
    go_wp2
    go_ret
    exact ⟨ret_bool (by first | rfl | (rw [Bool.eq_iff_iff]; simp; done) | (rw [Bool.eq_iff_iff]; simp; omega)), rfl⟩
  · subst h
    go_enter Tryz.func58, Tryz.ntmps58
    go_wp2
    go_ret
    exact ⟨ret_bool (by first | rfl | (rw [Bool.eq_iff_iff]; simp; done) | (rw [Bool.eq_iff_iff]; simp; omega)), rfl⟩
  all_goals
    have hi := index_any ⟨#[34, 40, 41, 58, 60, 62, 63, 64, 91, 92, 93, 123, 125]⟩ (c : Int) w
    have ht : decide (Lib.indexByte [34, 40, 41, 58, 60, 62, 63, 64, 91, 92, 93, 123, 125] (Int.toNat (c : Int)).toUInt8 < 0) = acc c := by
      rcases acc_out ⟨c, hc⟩ with h' | h' | h'
      · exact absurd h' (by simp only; omega)
      · exact absurd h' (by simp only; omega)
      · exact h'
    change Calls _ _ _ _ (fun e w' => e = .returned (.int .i64 (Lib.indexByte [34, 40, 41, 58, 60, 62, 63, 64, 91, 92, 93, 123, 125] (Int.toNat (c : Int)).toUInt8)) ∧ w' = w) at hi
    generalize Lib.indexByte [34, 40, 41, 58, 60, 62, 63, 64, 91, 92, 93, 123, 125] (Int.toNat (c : Int)).toUInt8 = x at hi ht
    generalize acc c = tc at ht
    subst ht
    have hi' := Lib.hid hi
    clear hi
  · subst h
    go_enter Tryz.func58, Tryz.ntmps58
    go_wp2_with (go_at_call 72; refine hi'.out.mono ?_; rintro e w' ⟨rfl, hw⟩; subst hw)
    go_ret
    exact ⟨ret_bool (by first | rfl | (rw [Bool.eq_iff_iff]; simp; done) | (rw [Bool.eq_iff_iff]; simp; omega)), rfl⟩
  · have h127 : ((c : Int) == 127) = false := by rw [beq_eq_false_iff_ne]; omega
    have h1 := h.1
    clear h
    go_enter Tryz.func58, Tryz.ntmps58
    go_wp2_with (go_at_call 72; refine hi'.out.mono ?_; rintro e w' ⟨rfl, hw⟩; subst hw)
    go_ret
    exact ⟨ret_bool (by first | rfl | (rw [Bool.eq_iff_iff]; simp; done) | (rw [Bool.eq_iff_iff]; simp; omega)), rfl⟩

set_option maxHeartbeats 2000000 in
set_option maxRecDepth 100000 in
theorem inLanguage_any (c : Nat) (hc : c < 256) (w : World) : Calls Tryz.prog 59 #[.int .u8 c] w fun e w' => e = .returned (.bool (lang c)) ∧ w' = w := by
  rcases (show (48 ≤ c ∧ c ≤ 57) ∨ (65 ≤ c ∧ c ≤ 90) ∨ (97 ≤ c ∧ c ≤ 122) ∨ (c < 48 ∨ (57 < c ∧ c < 65) ∨ (90 < c ∧ c < 97) ∨ 122 < c) by omega) with h | h | h | h
  · rw [lang_in ⟨c, hc⟩ (.inl h)]
    obtain ⟨h1, h2⟩ := h
    go_enter Tryz.func59, Tryz.ntmps59
    go_wp2
    go_ret
    exact ⟨ret_bool (by first | rfl | (rw [Bool.eq_iff_iff]; simp; done) | (rw [Bool.eq_iff_iff]; simp; omega)), rfl⟩
  · rw [lang_in ⟨c, hc⟩ (.inr (.inl h))]
    obtain ⟨h1, h2⟩ := h
    go_enter Tryz.func59, Tryz.ntmps59
    go_wp2
    go_ret
    exact ⟨ret_bool (by first | rfl | (rw [Bool.eq_iff_iff]; simp; done) | (rw [Bool.eq_iff_iff]; simp; omega)), rfl⟩
  · rw [lang_in ⟨c, hc⟩ (.inr (.inr h))]
    obtain ⟨h1, h2⟩ := h
    go_enter Tryz.func59, Tryz.ntmps59
    go_wp2
    go_ret
    exact ⟨ret_bool (by first | rfl | (rw [Bool.eq_iff_iff]; simp; done) | (rw [Bool.eq_iff_iff]; simp; omega)), rfl⟩
  · have hi := index_any ⟨#[32, 42, 44, 45, 46, 59, 61]⟩ (c : Int) w
    have ht : decide (0 ≤ Lib.indexByte [32, 42, 44, 45, 46, 59, 61] (Int.toNat (c : Int)).toUInt8) = lang c := by
      rcases lang_out ⟨c, hc⟩ with h' | h' | h' | h'
      · exact absurd h' (by simp only; omega)
      · exact absurd h' (by simp only; omega)
      · exact absurd h' (by simp only; omega)
      · exact h'
    change Calls _ _ _ _ (fun e w' => e = .returned (.int .i64 (Lib.indexByte [32, 42, 44, 45, 46, 59, 61] (Int.toNat (c : Int)).toUInt8)) ∧ w' = w) at hi
    generalize Lib.indexByte [32, 42, 44, 45, 46, 59, 61] (Int.toNat (c : Int)).toUInt8 = x at hi ht
    generalize lang c = tc at ht
    subst ht
    have hi' := Lib.hid hi
    clear hi
    rcases h with h | ⟨h, h'⟩ | ⟨h, h'⟩ | h
    all_goals
      go_enter Tryz.func59, Tryz.ntmps59
      go_wp2_with (go_at_call 72; refine hi'.out.mono ?_; rintro e w' ⟨rfl, hw⟩; subst hw)
      go_ret
      exact ⟨ret_bool (by first | rfl | (rw [Bool.eq_iff_iff]; simp; done) | (rw [Bool.eq_iff_iff]; simp; omega)), rfl⟩

set_option maxHeartbeats 2000000 in
set_option maxRecDepth 100000 in
theorem consists_acc (s : ByteArray) (hs : s.size ≤ maxLen) (w : World) : Calls Tryz.prog 57 #[.string s, .func (.func 58) #[] #[]] w fun e w' => e = .returned (.bool (s.data.toList.all fun b => acc b.toNat)) ∧ w' = w := by
  have hm : s.size ≤ 9223372036854775807 := by unfold maxLen at hs; exact hs
  obtain ⟨r, hr⟩ : ∃ r, r = (s.data.toList.all fun b => acc b.toNat) := ⟨_, rfl⟩
  rw [← hr]
  have hr' := Lib.hid hr
  clear hr
  go_enter Tryz.func57, Tryz.ntmps57
  go_wp2
  go_loop [8] (fun i => ∃ k : Nat, k ≤ s.size ∧ i = .int .i64 k ∧ (s.data.toList.take k).all (fun b => acc b.toNat) = true) (fun i => s.size - (RowKit.intOf i).toNat)
  case atStart => exact ⟨0, Nat.zero_le _, rfl, rfl⟩
  case round =>
    obtain ⟨k, hk, rfl, hall0⟩ := hrel
    have hall := Lib.hid hall0
    clear hall0
    by_cases hlt : k < s.size
    · have hin := inAccept_any (s[k]).toNat (byte_lt _) w
      have hstop := Lib.hid (show acc (s[k]).toNat = false → r = false from fun h => by rw [hr'.out]; exact all_stop (by rw [← size_len]; exact hlt) h)
      have hgo := Lib.hid (show acc (s[k]).toNat = true → (s.data.toList.take (k + 1)).all (fun b => acc b.toNat) = true from fun h => all_step (by rw [← size_len]; exact hlt) hall.out h)
      generalize acc (s[k]).toNat = b at hin hstop hgo
      cases b with
      | false =>
        have hf := Lib.hid (hstop.out rfl)
        clear hstop hgo
        go_wp2_with (go_at_call 58; refine hin.mono ?_; rintro e w' ⟨rfl, hw⟩; subst hw)
        go_ret
        exact ⟨ret_bool hf.out.symm, rfl⟩
      | true =>
        have hf := Lib.hid (hgo.out rfl)
        clear hstop hgo
        go_wp2_with (go_at_call 58; refine hin.mono ?_; rintro e w' ⟨rfl, hw⟩; subst hw)
        go_round
        case rel => exact ⟨k + 1, by omega, by go_num, hf.out⟩
        case measure => simp [RowKit.intOf]; omega
    · have ek : k = s.size := by omega
      subst ek
      have hf : Hid (r = true) := Lib.hid (by
        have h1 := hall.out
        rw [size_len, List.take_length] at h1
        rw [hr'.out, h1])
      go_wp2
      go_ret
      exact ⟨ret_bool hf.out.symm, rfl⟩

set_option maxHeartbeats 2000000 in
set_option maxRecDepth 100000 in
theorem consists_lang (s : ByteArray) (hs : s.size ≤ maxLen) (w : World) : Calls Tryz.prog 57 #[.string s, .func (.func 59) #[] #[]] w fun e w' => e = .returned (.bool (s.data.toList.all fun b => lang b.toNat)) ∧ w' = w := by
  have hm : s.size ≤ 9223372036854775807 := by unfold maxLen at hs; exact hs
  obtain ⟨r, hr⟩ : ∃ r, r = (s.data.toList.all fun b => lang b.toNat) := ⟨_, rfl⟩
  rw [← hr]
  have hr' := Lib.hid hr
  clear hr
  go_enter Tryz.func57, Tryz.ntmps57
  go_wp2
  go_loop [8] (fun i => ∃ k : Nat, k ≤ s.size ∧ i = .int .i64 k ∧ (s.data.toList.take k).all (fun b => lang b.toNat) = true) (fun i => s.size - (RowKit.intOf i).toNat)
  case atStart => exact ⟨0, Nat.zero_le _, rfl, rfl⟩
  case round =>
    obtain ⟨k, hk, rfl, hall0⟩ := hrel
    have hall := Lib.hid hall0
    clear hall0
    by_cases hlt : k < s.size
    · have hin := inLanguage_any (s[k]).toNat (byte_lt _) w
      have hstop := Lib.hid (show lang (s[k]).toNat = false → r = false from fun h => by rw [hr'.out]; exact all_stop (by rw [← size_len]; exact hlt) h)
      have hgo := Lib.hid (show lang (s[k]).toNat = true → (s.data.toList.take (k + 1)).all (fun b => lang b.toNat) = true from fun h => all_step (by rw [← size_len]; exact hlt) hall.out h)
      generalize lang (s[k]).toNat = b at hin hstop hgo
      cases b with
      | false =>
        have hf := Lib.hid (hstop.out rfl)
        clear hstop hgo
        go_wp2_with (go_at_call 59; refine hin.mono ?_; rintro e w' ⟨rfl, hw⟩; subst hw)
        go_ret
        exact ⟨ret_bool hf.out.symm, rfl⟩
      | true =>
        have hf := Lib.hid (hgo.out rfl)
        clear hstop hgo
        go_wp2_with (go_at_call 59; refine hin.mono ?_; rintro e w' ⟨rfl, hw⟩; subst hw)
        go_round
        case rel => exact ⟨k + 1, by omega, by go_num, hf.out⟩
        case measure => simp [RowKit.intOf]; omega
    · have ek : k = s.size := by omega
      subst ek
      have hf : Hid (r = true) := Lib.hid (by
        have h1 := hall.out
        rw [size_len, List.take_length] at h1
        rw [hr'.out, h1])
      go_wp2
      go_ret
      exact ⟨ret_bool hf.out.symm, rfl⟩
end Go.Proofs.YtalnjlodldhfbaaGreatDoor
