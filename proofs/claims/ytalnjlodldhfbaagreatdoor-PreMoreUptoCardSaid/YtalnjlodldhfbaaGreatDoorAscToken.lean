/-
  ascii.Token as the program has it. Conditions: those that each theorem states.
-/
import Derived.Test.YtalnjlodldhfbaaGreatDoorAscTok
namespace Go.Proofs.YtalnjlodldhfbaaGreatDoor
open Go.RowKit Go.Lib

/-- Is a string a token? -/
def token (l : List UInt8) : Bool := l.all (fun b => tok b.toNat) && !l.isEmpty

set_option maxHeartbeats 2000000 in
set_option maxRecDepth 100000 in
theorem token_any (s : ByteArray) (hs : s.size ≤ maxLen) (w : World) : Calls Tryz.prog 49 #[.string s] w fun e w' => e = .returned (.bool (token s.data.toList)) ∧ w' = w := by
  have hm : s.size ≤ 9223372036854775807 := by unfold maxLen at hs; exact hs
  go_enter Tryz.func49, Tryz.ntmps49
  go_wp2
  go_loop [6] (fun i => ∃ k : Nat, k ≤ s.size ∧ i = .int .i64 k ∧ (s.data.toList.take k).all (fun b => tok b.toNat) = true) (fun i => s.size - (RowKit.intOf i).toNat)
  case atStart => exact ⟨0, Nat.zero_le _, rfl, rfl⟩
  case round =>
    obtain ⟨k, hk, rfl, hall0⟩ := hrel
    have hall := Lib.hid hall0
    clear hall0
    have ht : ∀ h : k < s.size, tok (s[k]).toNat = false → token s.data.toList = false := fun h hf => by
      unfold token
      rw [all_stop (by rw [← size_len]; exact h) hf]
      rfl
    have hn : ∀ h : k < s.size, tok (s[k]).toNat = true → (s.data.toList.take (k + 1)).all (fun b => tok b.toNat) = true := fun h hf => all_step (by rw [← size_len]; exact h) hall.out hf
    have ht := Lib.hid ht
    have hn := Lib.hid hn
    go_wp2_with (go_at_call 68; refine (inToken_any _ (byte_lt _) _).mono ?_; rintro e w' ⟨rfl, hw⟩; subst hw)
    · go_ret
      refine ⟨ret_bool ?_, rfl⟩
      have hlt : k < s.size := by assumption
      have hf : (!tok s[k].toNat) = true := by assumption
      rw [ht.out hlt (by simpa using hf)]
    · go_round
      case rel =>
        have hlt : k < s.size := by assumption
        have hf : (!tok s[k].toNat) = false := by assumption
        exact ⟨k + 1, by omega, by go_num, hn.out hlt (by simpa using hf)⟩
      case measure => simp [RowKit.intOf]; omega
    · go_ret
      have e : k = s.size := by omega
      subst e
      refine ⟨ret_bool ?_, rfl⟩
      have h := hall.out
      rw [size_len, List.take_length] at h
      unfold token
      rw [h]
      first | (rw [ByteArray.toList_eq]; rfl) | (rw [size_len]; cases s.data.toList <;> simp)

set_option maxHeartbeats 2000000 in
set_option maxRecDepth 100000 in
theorem refToken_any (hsg : ∀ (c : Nat), c < 256 → ∀ w : World, Calls Tryz.prog 53 #[.int .u8 c] w fun e w' => e = .returned (.bool (tok c)) ∧ w' = w)
    (s : ByteArray) (hs : s.size ≤ maxLen) (w : World) : Calls Tryz.prog 31 #[.string s] w fun e w' => e = .returned (.bool (token s.data.toList)) ∧ w' = w := by
  have hm : s.size ≤ 9223372036854775807 := by unfold maxLen at hs; exact hs
  go_enter Tryz.func31, Tryz.ntmps31
  go_wp2
  go_loop [3] (fun i => ∃ k : Nat, k ≤ s.size ∧ i = .int .i64 k ∧ (s.data.toList.take k).all (fun b => tok b.toNat) = true) (fun i => s.size - (RowKit.intOf i).toNat)
  case atStart => exact ⟨0, Nat.zero_le _, rfl, rfl⟩
  case round =>
    obtain ⟨k, hk, rfl, hall0⟩ := hrel
    have hall := Lib.hid hall0
    clear hall0
    have ht : ∀ h : k < s.size, tok (s[k]).toNat = false → token s.data.toList = false := fun h hf => by
      unfold token
      rw [all_stop (by rw [← size_len]; exact h) hf]
      rfl
    have hn : ∀ h : k < s.size, tok (s[k]).toNat = true → (s.data.toList.take (k + 1)).all (fun b => tok b.toNat) = true := fun h hf => all_step (by rw [← size_len]; exact h) hall.out hf
    have ht := Lib.hid ht
    have hn := Lib.hid hn
    go_wp2_with (go_at_call 53; refine (hsg _ (byte_lt _) _).mono ?_; rintro e w' ⟨rfl, hw⟩; subst hw)
    · go_ret
      refine ⟨ret_bool ?_, rfl⟩
      have hlt : k < s.size := by assumption
      have hf : (!tok s[k].toNat) = true := by assumption
      rw [ht.out hlt (by simpa using hf)]
    · go_round
      case rel =>
        have hlt : k < s.size := by assumption
        have hf : (!tok s[k].toNat) = false := by assumption
        exact ⟨k + 1, by omega, by go_num, hn.out hlt (by simpa using hf)⟩
      case measure => simp [RowKit.intOf]; omega
    · go_ret
      have e : k = s.size := by omega
      subst e
      refine ⟨ret_bool ?_, rfl⟩
      have h := hall.out
      rw [size_len, List.take_length] at h
      unfold token
      rw [h]
      first | (rw [ByteArray.toList_eq]; rfl) | (rw [size_len]; cases s.data.toList <;> simp)
end Go.Proofs.YtalnjlodldhfbaaGreatDoor
