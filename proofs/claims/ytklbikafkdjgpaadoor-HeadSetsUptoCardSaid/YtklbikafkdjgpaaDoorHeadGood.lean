/-
  Valid names, values and lists of headers, as the program and as the reference have them. Conditions: those that each theorem states.
-/
import Derived.Test.YtklbikafkdjgpaaDoorHeadMem
import Derived.Test.YtklbikafkdjgpaaDoorAscSign
namespace Go.Proofs.YtklbikafkdjgpaaDoor
open Go.RowKit Go.Lib Go.Shelf

def inVal (c : Nat) : Bool := c == 9 || (32 ≤ c && c ≤ 126)
def nameOk (s : ByteArray) : Bool := decide (s.size ≤ 64) && token s.data.toList
def valueOk (s : ByteArray) : Bool := s.data.toList.all (fun b => inVal b.toNat) && (decide (s.size ≤ 512) && (trim s.data.toList == s.data.toList))
def hdOk (h : Hd) : Bool := nameOk h.1 && valueOk h.2
def goodOk (l : List Hd) : Bool := l.all hdOk && decide (l.length ≤ 24)

set_option maxRecDepth 100000 in
theorem name_any (s : ByteArray) (hs : s.size ≤ maxLen) (w : World) : Calls Tryd.prog 10 #[.string s] w fun e w' => e = .returned (.bool (nameOk s)) ∧ w' = w := by
  have hm : s.size ≤ 9223372036854775807 := by unfold maxLen at hs; exact hs
  by_cases h : s.size ≤ 64
  · have e : nameOk s = token s.data.toList := by simp [nameOk, h]
    have ht := token_any s hs w
    rw [e]
    generalize token s.data.toList = b at ht
    clear e
    go_enter Tryd.func10, Tryd.ntmps10
    go_wp2_with (go_at_call 22; refine ht.mono ?_; rintro e w' ⟨rfl, hw⟩; subst hw)
    go_ret
    exact ⟨rfl, rfl⟩
  · have e : nameOk s = false := by simp [nameOk, h]
    rw [e]
    clear e
    go_enter Tryd.func10, Tryd.ntmps10
    go_wp2
    go_ret
    exact ⟨rfl, rfl⟩

set_option maxRecDepth 100000 in
theorem refName_any (s : ByteArray) (hs : s.size ≤ maxLen) (w : World) : Calls Tryd.prog 11 #[.string s] w fun e w' => e = .returned (.bool (nameOk s)) ∧ w' = w := by
  have hm : s.size ≤ 9223372036854775807 := by unfold maxLen at hs; exact hs
  by_cases h : s.size ≤ 64
  · have e : nameOk s = token s.data.toList := by simp [nameOk, h]
    have ht := refToken_any (fun c hc w => sign_any c hc w) s hs w
    rw [e]
    generalize token s.data.toList = b at ht
    clear e
    go_enter Tryd.func11, Tryd.ntmps11
    go_wp2_with (go_at_call 23; refine ht.mono ?_; rintro e w' ⟨rfl, hw⟩; subst hw)
    go_ret
    exact ⟨rfl, rfl⟩
  · have e : nameOk s = false := by simp [nameOk, h]
    rw [e]
    clear e
    go_enter Tryd.func11, Tryd.ntmps11
    go_wp2
    go_ret
    exact ⟨rfl, rfl⟩

set_option maxRecDepth 100000 in
theorem inValue_any (c : Nat) (w : World) : Calls Tryd.prog 24 #[.int .u8 c] w fun e w' => e = .returned (.bool (inVal c)) ∧ w' = w := by
  rcases (show c = 9 ∨ (c < 9) ∨ (9 < c ∧ c < 32) ∨ (32 ≤ c ∧ c ≤ 126) ∨ 126 < c by omega) with h | h | ⟨h1, h2⟩ | ⟨h1, h2⟩ | h
  · subst h
    go_enter Tryd.func24, Tryd.ntmps24
    go_wp2
    go_ret
    exact ⟨rfl, rfl⟩
  all_goals
    have h9 : ((c : Int) == 9) = false := by rw [beq_eq_false_iff_ne]; omega
    go_enter Tryd.func24, Tryd.ntmps24
    go_wp2
    go_ret
    refine ⟨ret_bool ?_, rfl⟩
    rw [Bool.eq_iff_iff]
    simp [inVal]
    try omega

theorem trim_same (s : ByteArray) : ((⟨(trim s.data.toList).toArray⟩ : ByteArray).toList == s.toList) = (trim s.data.toList == s.data.toList) := by
  rw [ByteArray.toList_eq, ByteArray.toList_eq]

set_option maxHeartbeats 2000000 in
set_option maxRecDepth 100000 in
theorem value_any (s : ByteArray) (hs : s.size ≤ maxLen) (w : World) : Calls Tryd.prog 12 #[.string s] w fun e w' => e = .returned (.bool (valueOk s)) ∧ Below w.heap.size w w' := by
  have hm : s.size ≤ 9223372036854775807 := by unfold maxLen at hs; exact hs
  go_enter Tryd.func12, Tryd.ntmps12
  go_wp2
  go_loop [3, 6] (fun _ i => ∃ k : Nat, k ≤ s.size ∧ i = .int .i64 k ∧ (s.data.toList.take k).all (fun b => inVal b.toNat) = true) (fun _ i => s.size - (RowKit.intOf i).toNat)
  case atStart => exact ⟨0, Nat.zero_le _, rfl, rfl⟩
  case round =>
    obtain ⟨k, hk, rfl, hall0⟩ := hrel
    have hall := Lib.hid hall0
    clear hall0
    by_cases hlt : k < s.size
    · have hin := inValue_any (s[k]).toNat w
      cases hb : inVal (s[k]).toNat with
      | false =>
        have hf := Lib.hid (show valueOk s = false by
          unfold valueOk
          rw [all_stop (by rw [← size_len]; exact hlt) hb]
          rfl)
        rw [hb] at hin
        clear hb
        go_wp2_with (go_at_call 24; refine hin.mono ?_; rintro e w' ⟨rfl, hw⟩; subst hw)
        go_ret
        exact ⟨ret_bool hf.out.symm, Below.refl _ _⟩
      | true =>
        have hn := Lib.hid (all_step (p := fun b => inVal b.toNat) (by rw [← size_len]; exact hlt) hall.out hb)
        rw [hb] at hin
        clear hb
        go_wp2_with (go_at_call 24; refine hin.mono ?_; rintro e w' ⟨rfl, hw⟩; subst hw)
        go_round
        case rel => exact ⟨k + 1, by omega, by go_num, hn.out⟩
        case measure => simp [RowKit.intOf]; omega
    · have ek : k = s.size := by omega
      subst ek
      have h1 := hall.out
      rw [size_len, List.take_length] at h1
      by_cases h : s.size ≤ 512
      · have hv : valueOk s = (trim s.data.toList == s.data.toList) := by
          unfold valueOk
          rw [h1]
          simp [h]
        have ht := trim_any s hs w
        have hq := trim_same s
        generalize (⟨(trim s.data.toList).toArray⟩ : ByteArray) = t at ht hq
        rw [← hv] at hq
        clear hv h1
        have hq' := Lib.hid hq
        clear hq
        go_wp2_with (go_at_call 25; refine ht.mono ?_; rintro e w' ⟨rfl, hb⟩)
        go_ret
        exact ⟨ret_bool hq'.out, hb⟩
      · have hv := Lib.hid (show valueOk s = false by simp [valueOk, h])
        clear h1
        go_wp2
        go_ret
        exact ⟨ret_bool hv.out.symm, Below.refl _ _⟩

set_option maxHeartbeats 2000000 in
set_option maxRecDepth 100000 in
theorem refValue_any (s : ByteArray) (hs : s.size ≤ maxLen) (w : World) : Calls Tryd.prog 13 #[.string s] w fun e w' => e = .returned (.bool (valueOk s)) ∧ w' = w := by
  have hm : s.size ≤ 9223372036854775807 := by unfold maxLen at hs; exact hs
  go_enter Tryd.func13, Tryd.ntmps13
  go_wp2
  go_loop [3] (fun i => ∃ k : Nat, k ≤ s.size ∧ i = .int .i64 k ∧ (s.data.toList.take k).all (fun b => inVal b.toNat) = true) (fun i => s.size - (RowKit.intOf i).toNat)
  case atStart => exact ⟨0, Nat.zero_le _, rfl, rfl⟩
  case round =>
    obtain ⟨k, hk, rfl, hall0⟩ := hrel
    have hall := Lib.hid hall0
    clear hall0
    by_cases hlt : k < s.size
    · have hstop := Lib.hid (show inVal (s[k]).toNat = false → valueOk s = false from fun hb => by
          unfold valueOk
          rw [all_stop (by rw [← size_len]; exact hlt) hb]
          rfl)
      have hgo := Lib.hid (show inVal (s[k]).toNat = true → (s.data.toList.take (k + 1)).all (fun b => inVal b.toNat) = true from fun hb => all_step (by rw [← size_len]; exact hlt) hall.out hb)
      rcases (show (s[k]).toNat = 9 ∨ ((s[k]).toNat < 9) ∨ (9 < (s[k]).toNat ∧ (s[k]).toNat < 32) ∨ (32 ≤ (s[k]).toNat ∧ (s[k]).toNat ≤ 126) ∨ 126 < (s[k]).toNat by omega) with h | h | ⟨h1, h2⟩ | ⟨h1, h2⟩ | h
      · have h9 : (((s[k]).toNat : Int) != 9) = false := by rw [bne_eq_false_iff_eq]; omega
        have hin := Lib.hid (show inVal (s[k]).toNat = true by rw [h]; rfl)
        clear h
        go_wp2
        go_round
        case rel => exact ⟨k + 1, by omega, by go_num, hgo.out hin.out⟩
        case measure => simp [RowKit.intOf]; omega
      · have h9 : (((s[k]).toNat : Int) != 9) = true := by rw [bne_iff_ne]; omega
        have hin := Lib.hid (show inVal (s[k]).toNat = false by simp [inVal]; omega)
        go_wp2
        go_ret
        exact ⟨ret_bool (hstop.out hin.out).symm, rfl⟩
      · have h9 : (((s[k]).toNat : Int) != 9) = true := by rw [bne_iff_ne]; omega
        have hin := Lib.hid (show inVal (s[k]).toNat = false by simp [inVal]; omega)
        go_wp2
        go_ret
        exact ⟨ret_bool (hstop.out hin.out).symm, rfl⟩
      · have h9 : (((s[k]).toNat : Int) != 9) = true := by rw [bne_iff_ne]; omega
        have hin := Lib.hid (show inVal (s[k]).toNat = true by simp [inVal]; omega)
        go_wp2
        go_round
        case rel => exact ⟨k + 1, by omega, by go_num, hgo.out hin.out⟩
        case measure => simp [RowKit.intOf]; omega
      · have h9 : (((s[k]).toNat : Int) != 9) = true := by rw [bne_iff_ne]; omega
        have hin := Lib.hid (show inVal (s[k]).toNat = false by simp [inVal]; omega)
        go_wp2
        go_ret
        exact ⟨ret_bool (hstop.out hin.out).symm, rfl⟩
    · have ek : k = s.size := by omega
      subst ek
      have h1 := hall.out
      rw [size_len, List.take_length] at h1
      by_cases h : s.size ≤ 512
      · have hv : valueOk s = (trim s.data.toList == s.data.toList) := by
          unfold valueOk
          rw [h1]
          simp [h]
        have ht := refTrim_any s hs w
        have hq := trim_same s
        generalize (⟨(trim s.data.toList).toArray⟩ : ByteArray) = t at ht hq
        rw [← hv] at hq
        clear hv h1
        have hq' := Lib.hid hq
        clear hq
        go_wp2_with (go_at_call 26; refine ht.mono ?_; rintro e w' ⟨rfl, hw⟩; subst hw)
        go_ret
        exact ⟨ret_bool hq'.out, rfl⟩
      · have hv := Lib.hid (show valueOk s = false by simp [valueOk, h])
        clear h1
        go_wp2
        go_ret
        exact ⟨ret_bool hv.out.symm, rfl⟩
end Go.Proofs.YtklbikafkdjgpaaDoor
