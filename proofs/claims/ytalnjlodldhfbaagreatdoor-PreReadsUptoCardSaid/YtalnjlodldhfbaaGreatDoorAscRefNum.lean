/-
  What a text is in digits, up to a limit, as the reference has it. Conditions: the limit is not negative.
-/
import Derived.Test.YtalnjlodldhfbaaGreatDoorAscTop
import Derived.Lib.IndexBytes
namespace Go.Proofs.YtalnjlodldhfbaaGreatDoor
open Go.RowKit Go.Lib

/-- The reference's loop: k digits are read. -/
def NumRel (l : List UInt8) (n m i : Value) : Prop :=
  ∃ k nn : Nat, k ≤ l.length ∧ i = .int .i64 k ∧ m = .int .i64 (many (l.take k) : Nat) ∧ n = .int .i64 nn ∧ (many (l.take k) ≤ 18 → nn = val (l.take k)) ∧ (l.take k).all digit = true

theorem pow17 : (10 : Nat) ^ 17 = 100000000000000000 := by decide
theorem val_le {l : List UInt8} {k n : Nat} (hk : k ≤ l.length) (h : (l.take k).all digit = true) (hm : many (l.take k) ≤ n) : val (l.take k) < 10 ^ n :=
  Nat.lt_of_lt_of_le (val_many k hk h).1 (Nat.pow_le_pow_right (by omega) hm)
theorem val_ge {l : List UInt8} (h : l.all digit = true) (hm : 19 < many l) : 10000000000000000000 ≤ val l := by
  have h1 := val_many (l := l) l.length (Nat.le_refl _) (by rw [List.take_length]; exact h)
  rw [List.take_length] at h1
  have h2 := h1.2.1 (by omega)
  have h3 : (10 : Nat) ^ 19 ≤ 10 ^ (many l - 1) := Nat.pow_le_pow_right (by omega) (by omega)
  rw [pow19] at h3
  omega

set_option maxHeartbeats 8000000 in
set_option maxRecDepth 100000 in
theorem refNumber_any (s : ByteArray) (hs : s.size ≤ maxLen) (M : Nat) (hM : I63 M) (w : World) : Calls Tryz.prog 33 #[.string s, .int .i64 M] w fun e w' =>
    e = .returned (.tuple #[.int .i64 (number s.data.toList M : Nat), .bool (isNumber s.data.toList)]) ∧ w' = w := by
  have hm : s.size ≤ 9223372036854775807 := by unfold maxLen at hs; exact hs
  have hM1 : M ≤ 9223372036854775807 := hM
  have hsl := Lib.hid (size_len s)
  generalize hR : number s.data.toList M = R
  generalize hT : isNumber s.data.toList = T
  have hR' := Lib.hid hR
  have hT' := Lib.hid hT
  clear hR hT
  go_enter Tryz.func33, Tryz.ntmps33
  go_wp2
  go_loop [6, 7, 8] (fun n m i => NumRel s.data.toList n m i) (fun _ _ i => s.size - (RowKit.intOf i).toNat)
  case atStart => exact ⟨0, 0, Nat.zero_le _, rfl, rfl, rfl, fun _ => rfl, rfl⟩
  case round =>
    obtain ⟨k, nn, hk, rfl, rfl, rfl, hnn, hall⟩ := hrel
    rw [← hsl.out] at hk
    have hall' := Lib.hid hall
    have hnn' := Lib.hid hnn
    have hmk : many (s.data.toList.take k) ≤ k := (val_many k (by rw [← hsl.out]; exact hk) hall).2.2
    clear hall hnn
    by_cases hkn : k < s.size
    · have hkl : k < s.data.toList.length := by rw [← hsl.out]; exact hkn
      by_cases hd : digit s[k] = true
      · have hv : val (s.data.toList.take (k + 1)) = 10 * val (s.data.toList.take k) + ((s[k]).toNat - 48) := val_step hkl
        have hv' := Lib.hid hv
        have hms : many (s.data.toList.take (k + 1)) = if 0 < many (s.data.toList.take k) ∨ 48 < (s[k]).toNat then many (s.data.toList.take k) + 1 else many (s.data.toList.take k) := many_step hkl
        have hms' := Lib.hid hms
        have hal := Lib.hid (all_of hkl hall'.out hd)
        have hb := digit_bounds hd
        have hvb := Lib.hid (fun h : many (s.data.toList.take k) ≤ 17 => val_le (by rw [← hsl.out]; exact hk) hall'.out h)
        obtain ⟨hb1, hb2⟩ := hb
        clear hv hms hd
        rcases (show (0 < many (s.data.toList.take k) ∧ many (s.data.toList.take k) + 1 ≤ 18) ∨ 18 ≤ many (s.data.toList.take k) ∨ (many (s.data.toList.take k) = 0 ∧ 48 < (s[k]).toNat) ∨ (many (s.data.toList.take k) = 0 ∧ (s[k]).toNat = 48) by omega) with ⟨h1, h2⟩ | h1 | ⟨h1, h2⟩ | ⟨h1, h2⟩
        · have e : nn = val (s.data.toList.take k) := hnn'.out (by omega)
          have hn18 : nn < 100000000000000000 := by rw [e, ← pow17]; exact hvb.out (by omega)
          have e' := Lib.hid e
          clear e
          have hm1 := Lib.hid (show many (s.data.toList.take (k + 1)) = many (s.data.toList.take k) + 1 by rw [hms'.out, if_pos (.inl h1)])
          generalize many (s.data.toList.take k) = mm at h1 h2 hmk hm1
          have hw1 : wrap64 (10 * (nn : Int)) = 10 * (nn : Int) := wrap_int (by omega) (by omega)
          have hw2 : wrap64 (10 * (nn : Int) + ((s[k]).toNat - 48 : Int)) = 10 * (nn : Int) + ((s[k]).toNat - 48 : Int) := wrap_int (by omega) (by omega)
          go_wp2
          go_round
          case rel => exact ⟨k + 1, 10 * nn + ((s[k]).toNat - 48), by rw [← hsl.out]; omega, by go_num, by rw [hm1.out]; go_num, congrArg (Value.int .i64) (by omega), fun _ => by rw [hv'.out, e'.out], hal.out⟩
          case measure => simp [RowKit.intOf]; omega
        · have hm1 := Lib.hid (show many (s.data.toList.take (k + 1)) = many (s.data.toList.take k) + 1 by rw [hms'.out, if_pos (.inl (by omega))])
          generalize many (s.data.toList.take k) = mm at h1 hmk hm1
          go_wp2
          go_round
          case rel => exact ⟨k + 1, nn, by rw [← hsl.out]; omega, by go_num, by rw [hm1.out]; go_num, rfl, fun h => absurd h (by rw [hm1.out]; omega), hal.out⟩
          case measure => simp [RowKit.intOf]; omega
        · have e : nn = val (s.data.toList.take k) := hnn'.out (by omega)
          have hn18 : nn < 100000000000000000 := by rw [e, ← pow17]; exact hvb.out (by omega)
          have e' := Lib.hid e
          clear e
          have hm1 := Lib.hid (show many (s.data.toList.take (k + 1)) = many (s.data.toList.take k) + 1 by rw [hms'.out, if_pos (.inr h2)])
          rw [h1]
          rw [h1] at hm1
          clear h1 hmk
          have hw1 : wrap64 (10 * (nn : Int)) = 10 * (nn : Int) := wrap_int (by omega) (by omega)
          have hw2 : wrap64 (10 * (nn : Int) + ((s[k]).toNat - 48 : Int)) = 10 * (nn : Int) + ((s[k]).toNat - 48 : Int) := wrap_int (by omega) (by omega)
          go_wp2
          go_round
          case rel => exact ⟨k + 1, 10 * nn + ((s[k]).toNat - 48), by rw [← hsl.out]; omega, by go_num, by rw [hm1.out]; go_num, congrArg (Value.int .i64) (by omega), fun _ => by rw [hv'.out, e'.out], hal.out⟩
          case measure => simp [RowKit.intOf]; omega
        · have e : nn = val (s.data.toList.take k) := hnn'.out (by omega)
          have hn18 : nn < 100000000000000000 := by rw [e, ← pow17]; exact hvb.out (by omega)
          have e' := Lib.hid e
          clear e
          have hm1 := Lib.hid (show many (s.data.toList.take (k + 1)) = many (s.data.toList.take k) by rw [hms'.out, if_neg (by omega)])
          rw [h1]
          rw [h1] at hm1
          clear h1 hmk
          have hw1 : wrap64 (10 * (nn : Int)) = 10 * (nn : Int) := wrap_int (by omega) (by omega)
          have hw2 : wrap64 (10 * (nn : Int) + ((s[k]).toNat - 48 : Int)) = 10 * (nn : Int) + ((s[k]).toNat - 48 : Int) := wrap_int (by omega) (by omega)
          go_wp2
          go_round
          case rel => exact ⟨k + 1, 10 * nn + ((s[k]).toNat - 48), by rw [← hsl.out]; omega, by go_num, by rw [hm1.out], congrArg (Value.int .i64) (by omega), fun _ => by rw [hv'.out, e'.out], hal.out⟩
          case measure => simp [RowKit.intOf]; omega
      · have hst := Lib.hid (number_stop M hkl (show digit s.data.toList[k] = false from Bool.eq_false_iff.2 hd))
        have hout : (s[k]).toNat < 48 ∨ (48 ≤ (s[k]).toNat ∧ 57 < (s[k]).toNat) := by
          have : digit s[k] = false := Bool.eq_false_iff.2 hd
          rw [digit, Bool.and_eq_false_iff] at this
          simp at this
          omega
        clear hd
        rcases hout with h | ⟨h, h'⟩
        all_goals
          go_wp2
          go_ret2
          exact ⟨ret_two (by rw [← hR'.out, hst.out.1]; rfl) (by rw [← hT'.out, hst.out.2]), rfl⟩
    · have e : k = s.size := by omega
      subst e
      have hl : s.data.toList.take s.size = s.data.toList := by rw [hsl.out, List.take_length]
      rw [hl] at hall' hnn' hmk ⊢
      have hval := number_full M hall'.out
      rw [hR'.out] at hval
      have hTT : T = decide (0 < s.size) := by
        rw [← hT'.out, isNumber, hall'.out, hsl.out]
        cases s.data.toList <;> simp
      have hval' := Lib.hid hval
      have hTT' := Lib.hid hTT
      clear hval hTT hl
      rcases (show many s.data.toList ≤ 18 ∨ many s.data.toList = 19 ∨ 19 < many s.data.toList by omega) with h | h | h
      · have e := hnn'.out h
        rw [← e] at hval'
        generalize many s.data.toList = mm at h hmk
        have hq : ((mm : Int) == 19) = false := by rw [beq_eq_false_iff_ne]; omega
        by_cases hlt : M < nn
        · go_wp2
          go_ret2
          exact ⟨ret_two (by rw [hval'.out]; omega) (by rw [hTT'.out]), rfl⟩
        · go_wp2
          go_ret2
          exact ⟨ret_two (by rw [hval'.out]; omega) (by rw [hTT'.out]), rfl⟩
      · have h19 : 19 ≤ s.size := by omega
        have htail := val_tail (l := s.data.toList) s.size (by rw [hsl.out]; exact Nat.le_refl _) (by rw [hsl.out, List.take_length]; exact hall'.out)
        have hl : s.data.toList.take s.size = s.data.toList := by rw [hsl.out, List.take_length]
        rw [hl, h] at htail
        have htop := fun W => top_any (s.extract (s.size - 19) s.size) (by rw [size_len, Lib.extract_to_end, List.length_drop, ← hsl.out]; omega) (by
          rw [Lib.extract_to_end]
          have := hall'.out
          rw [List.all_eq_true] at this ⊢
          exact fun x hx => this x (List.mem_of_mem_drop hx)) W
        rw [Lib.extract_to_end, ← htail] at htop
        obtain ⟨t, ht⟩ : ∃ t, t = min (val s.data.toList) 9223372036854775807 := ⟨_, rfl⟩
        rw [← ht] at htop
        have ht' := Lib.hid ht
        have htop' := Lib.hid htop
        have hI : t ≤ 9223372036854775807 := by omega
        clear ht htop htail hl
        rw [h]
        by_cases hlt : M < t
        · go_wp2_with (go_at_call 54; refine (htop'.out _).mono ?_; rintro e w' ⟨rfl, hw⟩; subst hw)
          go_ret2
          exact ⟨ret_two (by rw [hval'.out]; have := ht'.out; omega) (by rw [hTT'.out]), rfl⟩
        · go_wp2_with (go_at_call 54; refine (htop'.out _).mono ?_; rintro e w' ⟨rfl, hw⟩; subst hw)
          go_ret2
          exact ⟨ret_two (by rw [hval'.out]; have := ht'.out; omega) (by rw [hTT'.out]), rfl⟩
      · have hg := val_ge hall'.out h
        have hR2 := Lib.hid (show R = M by rw [hval'.out]; omega)
        generalize many s.data.toList = mm at h hmk
        have hq : ((mm : Int) == 19) = false := by rw [beq_eq_false_iff_ne]; omega
        clear hg
        go_wp2
        go_ret2
        exact ⟨ret_two (by rw [hR2.out]) (by rw [hTT'.out]), rfl⟩
end Go.Proofs.YtalnjlodldhfbaaGreatDoor
