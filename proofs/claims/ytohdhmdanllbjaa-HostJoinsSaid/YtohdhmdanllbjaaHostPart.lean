/-
  host.inPart and host.goodPart as the program has them; the reference's letter. Conditions: those that each theorem states.
-/
import Derived.Test.YtohdhmdanllbjaaHostMath
import Derived.Lib.IndexBytes
namespace Go.Proofs.Ytohdhmdanllbjaa
open Go.RowKit Go.Lib

set_option maxHeartbeats 2000000 in
set_option maxRecDepth 100000 in
theorem inPart_any (c : Nat) (w : World) : Calls Try.prog 23 #[.int .u8 c] w fun e w' => e = .returned (.bool (hletter c)) ∧ w' = w := by
  rcases (show (0 ≤ c ∧ c < 45) ∨ c = 45 ∨ (45 < c ∧ c < 48) ∨ (48 ≤ c ∧ c ≤ 57) ∨ (57 < c ∧ c < 97) ∨ (97 ≤ c ∧ c ≤ 122) ∨ (0 ≤ c ∧ 122 < c) by omega) with h | h | h | h | h | h | h
  all_goals
    obtain ⟨t, ht⟩ : ∃ t, t = hletter c := ⟨_, rfl⟩
    rw [← ht]
    try subst h
    try (obtain ⟨h1, h2⟩ := h)
    go_enter Try.func23, Try.ntmps23
    go_wp2
    go_ret
    refine ⟨ret_bool ?_, rfl⟩
    rw [Bool.eq_iff_iff]
    try rw [ht]
    simp only [hletter]
    simp
    try omega

theorem byte45 (b : UInt8) : b = 45 ↔ (b.toNat : Int) = 45 := by
  have h : ∀ b : Fin 256, UInt8.ofNat b.val = 45 ↔ ((b.val : Int) = 45) := by decide +kernel
  have := h ⟨b.toNat, byte_lt b⟩
  simpa using this
theorem byte46 (b : UInt8) : b = 46 ↔ (b.toNat : Int) = 46 := by
  have h : ∀ b : Fin 256, UInt8.ofNat b.val = 46 ↔ ((b.val : Int) = 46) := by decide +kernel
  have := h ⟨b.toNat, byte_lt b⟩
  simpa using this

theorem hpart_nil : hpart [] = false := by decide
theorem hpart_long {p : List UInt8} (h : 63 < p.length) : hpart p = false := by
  have : decide (p.length ≤ 63) = false := by simpa using h
  simp [hpart, this]
theorem hpart_stop {p : List UInt8} {k : Nat} (hk : k < p.length) (hf : hbyte p[k] = false) : hpart p = false := by
  have := all_stop (p := hbyte) hk hf
  simp [hpart, this]
theorem hpart_full {p : List UInt8} (h0 : 0 < p.length) (h1 : p.length ≤ 63) (h : p.all hbyte = true) : hpart p = (p[0] != 45 && p[p.length - 1]'(by omega) != 45) := by
  have hne : p.isEmpty = false := by
    rw [List.isEmpty_eq_false_iff]
    intro c
    rw [c] at h0
    cases h0
  have hb : ∀ b : UInt8, (some b != some (45 : UInt8)) = (b != 45) := fun b => rfl
  rw [hpart, h, hne, List.getElem?_eq_getElem h0, List.getElem?_eq_getElem (show p.length - 1 < p.length by omega), hb, hb]
  simp [h1]

set_option maxHeartbeats 2000000 in
set_option maxRecDepth 100000 in
theorem goodPart_any (s : ByteArray) (hs : s.size ≤ maxLen) (w : World) : Calls Try.prog 16 #[.string s] w fun e w' => e = .returned (.bool (hpart s.data.toList)) ∧ w' = w := by
  have hm : s.size ≤ 9223372036854775807 := by unfold maxLen at hs; exact hs
  have hsl := Lib.hid (size_len s)
  by_cases hs0 : s.size = 0
  · have e : s.data.toList = [] := List.eq_nil_of_length_eq_zero (by rw [← hsl.out]; exact hs0)
    have he : s.toList.isEmpty = true := by rw [ByteArray.toList_eq, e]; rfl
    rw [e, hpart_nil]
    clear e
    go_enter Try.func16, Try.ntmps16
    go_wp2
    go_ret
    exact ⟨rfl, rfl⟩
  · have hne : s.data.toList.isEmpty = false := by
      rw [List.isEmpty_eq_false_iff]
      intro c
      exact hs0 (by rw [hsl.out, c]; rfl)
    have he : s.toList.isEmpty = false := by rw [ByteArray.toList_eq]; exact hne
    clear hne
    by_cases h63 : 63 < s.size
    · rw [hpart_long (by rw [← hsl.out]; exact h63)]
      go_enter Try.func16, Try.ntmps16
      go_wp2
      go_ret
      exact ⟨rfl, rfl⟩
    · generalize hR : hpart s.data.toList = R
      have hR' := Lib.hid hR
      clear hR
      go_enter Try.func16, Try.ntmps16
      go_wp2
      go_loop [13] (fun i => ∃ k : Nat, k ≤ s.size ∧ i = .int .i64 k ∧ (s.data.toList.take k).all hbyte = true) (fun i => s.size - (RowKit.intOf i).toNat)
      case atStart => exact ⟨0, Nat.zero_le _, rfl, rfl⟩
      case round =>
        obtain ⟨k, hk, rfl, hall⟩ := hrel
        have hall' := Lib.hid hall
        clear hall
        by_cases hkn : k < s.size
        · have hkl : k < s.data.toList.length := by rw [← hsl.out]; exact hkn
          have hin := fun W => inPart_any (s[k]).toNat W
          by_cases hd : hbyte s[k] = true
          · have hal := Lib.hid (all_step hkl hall'.out hd)
            have hd2 : hletter (s[k]).toNat = true := hd
            rw [hd2] at hin
            have hin' := Lib.hid hin
            clear hin hd hd2
            go_wp2_with (go_at_call 23; refine (hin'.out _).mono ?_; rintro e w' ⟨rfl, hw⟩; subst hw)
            go_round
            case rel => exact ⟨k + 1, by omega, by go_num, hal.out⟩
            case measure => simp [RowKit.intOf]; omega
          · have hf : hbyte s[k] = false := Bool.eq_false_iff.2 hd
            have hd2 : hletter (s[k]).toNat = false := hf
            have hst := Lib.hid (hpart_stop hkl (show hbyte s.data.toList[k] = false from hf))
            rw [hd2] at hin
            have hin' := Lib.hid hin
            clear hin hd hd2 hf
            go_wp2_with (go_at_call 23; refine (hin'.out _).mono ?_; rintro e w' ⟨rfl, hw⟩; subst hw)
            go_ret
            exact ⟨ret_bool (by rw [← hR'.out, hst.out]), rfl⟩
        · have e : k = s.size := by omega
          subst e
          have h := hall'.out
          rw [hsl.out, List.take_length] at h
          have hp0 : 0 < s.size := by omega
          have hfull := hpart_full (p := s.data.toList) (by rw [← hsl.out]; exact hp0) (by rw [← hsl.out]; omega) h
          have e0 : s.data.toList[0]'(by rw [← hsl.out]; exact hp0) = s[0] := rfl
          have e1 : s.data.toList[s.data.toList.length - 1]'(by rw [← hsl.out]; omega) = s[s.size - 1]'(by omega) := by rw [byte_at s (s.size - 1) (by omega)]; simp only [size_len]
          rw [e0, e1] at hfull
          have hfull' := Lib.hid hfull
          clear h hfull e0 e1
          by_cases ha : s[0] = 45
          · have ha' := (byte45 _).1 ha
            have hx := Lib.hid ha
            clear ha
            go_wp2
            go_ret
            exact ⟨ret_bool (by rw [← hR'.out, hfull'.out, hx.out]; rfl), rfl⟩
          · have ha' : (((s[0]).toNat : Int) != 45) = true := by rw [bne_iff_ne]; exact fun c => ha ((byte45 _).2 c)
            have hx := Lib.hid ha
            clear ha
            by_cases hb : s[s.size - 1]'(by omega) = 45
            · have hb' := (byte45 _).1 hb
              have hy := Lib.hid hb
              clear hb
              go_wp2
              go_ret
              exact ⟨ret_bool (by rw [← hR'.out, hfull'.out, hy.out]; simp), rfl⟩
            · have hb' : (((s[s.size - 1]'(by omega)).toNat : Int) != 45) = true := by rw [bne_iff_ne]; exact fun c => hb ((byte45 _).2 c)
              have hy := Lib.hid hb
              clear hb
              go_wp2
              go_ret
              exact ⟨ret_bool (by rw [← hR'.out, hfull'.out]; have h1 := hx.out; have h2 := hy.out; simp [h1, h2]), rfl⟩
end Go.Proofs.Ytohdhmdanllbjaa
