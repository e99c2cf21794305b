/-
  Default and Port as the reference has them. Conditions: the texts are no longer than any text may be.
-/
import Derived.Test.YtohdhmdanllbjaaHostPort
namespace Go.Proofs.Ytohdhmdanllbjaa
open Go.RowKit Go.Lib Go.Shelf

set_option maxHeartbeats 1000000 in
theorem refDefault_any (s : ByteArray) (w : World) : Calls Try.prog 14 #[.string s] w fun e w' => e = .returned (.int .i64 (hdefault s.data.toList)) ∧ w' = w := by
  have hl : s.toList = s.data.toList := ByteArray.toList_eq s
  rw [← hl]
  clear hl
  generalize hR : hdefault s.toList = R
  have HR := Lib.hid hR
  clear hR
  by_cases h1 : s.toList = [104, 116, 116, 112]
  · have e : R = 80 := by rw [← HR.out, hdefault, if_pos h1]
    have b1 : (s.toList == [104, 116, 116, 112]) = true := by rw [h1]; rfl
    subst e
    clear h1
    go_enter Try.func14, Try.ntmps14
    go_wp2
    go_ret
    exact ⟨rfl, rfl⟩
  · have b1 : (s.toList == [104, 116, 116, 112]) = false := by rw [beq_eq_false_iff_ne]; exact h1
    by_cases h2 : s.toList = [104, 116, 116, 112, 115]
    · have e : R = 443 := by rw [← HR.out, hdefault, if_neg h1, if_pos h2]
      have b2 : (s.toList == [104, 116, 116, 112, 115]) = true := by rw [h2]; rfl
      subst e
      clear h1 h2
      go_enter Try.func14, Try.ntmps14
      go_wp2
      go_ret
      exact ⟨rfl, rfl⟩
    · have e : R = 0 := by rw [← HR.out, hdefault, if_neg h1, if_neg h2]
      have b2 : (s.toList == [104, 116, 116, 112, 115]) = false := by rw [beq_eq_false_iff_ne]; exact h2
      subst e
      clear h1 h2
      go_enter Try.func14, Try.ntmps14
      go_wp2
      go_ret
      exact ⟨rfl, rfl⟩

theorem prefix48 {l : List UInt8} (h : 0 < l.length) : Lib.hasPrefix l [48] = decide (l[0] = 48) := by
  cases l with
  | nil => cases h
  | cons b r =>
    simp only [Lib.hasPrefix, List.isPrefixOf, List.getElem_cons_zero, Bool.and_true]
    rw [Bool.eq_iff_iff, beq_iff_eq, decide_eq_true_iff]
    exact eq_comm
theorem port_stop {l : List UInt8} {k : Nat} (hk : k < l.length) (hd : digit l[k] = false) : portOk l = false := by
  rw [portOk, (number_stop 0 hk hd).2]
  simp
theorem port_zero {l : List UInt8} (h : 0 < l.length) (h0 : l[0] = 48) : portOk l = false := by
  rw [portOk, prefix48 h, decide_eq_true h0]
  rfl
/-- Where the first digit is not 0, each counts. -/
theorem many_first {l : List UInt8} (h0 : 0 < l.length) (h : 48 < l[0].toNat) : ∀ k, k < l.length → many (l.take (k + 1)) = k + 1
  | 0, hk => by
    rw [many_step hk]
    have : many (l.take 0) = 0 := by simp [many]
    rw [this, if_pos (.inr h)]
  | k + 1, hk => by
    rw [many_step hk, many_first h0 h k (by omega), if_pos (.inl (by omega))]
theorem port_long {l : List UInt8} (h0 : 0 < l.length) (h : 48 < l[0].toNat) (hl : 5 < l.length) : portOk l = false := by
  by_cases ha : l.all digit = true
  · have h1 := val_many (l := l) l.length (Nat.le_refl _) (by rw [List.take_length]; exact ha)
    have hm := many_first h0 h (l.length - 1) (by omega)
    rw [show l.length - 1 + 1 = l.length by omega] at hm
    have h2 := h1.2.1 (by omega)
    rw [hm, List.take_length] at h2
    have h3 : (10 : Nat) ^ 5 ≤ 10 ^ (l.length - 1) := Nat.pow_le_pow_right (by omega) (by omega)
    have h4 : (10 : Nat) ^ 5 = 100000 := by decide
    have : decide (val l ≤ 65535) = false := by rw [decide_eq_false_iff_not]; omega
    rw [portOk, this]
    simp
  · have : isNumber l = false := by rw [isNumber, Bool.eq_false_iff.2 ha]; rfl
    rw [portOk, this]
    simp
theorem port_full {l : List UInt8} (h0 : 0 < l.length) (h : 48 < l[0].toNat) (ha : l.all digit = true) : portOk l = decide (val l ≤ 65535) := by
  have hn : isNumber l = true := by
    rw [isNumber, ha]
    cases l with
    | nil => cases h0
    | cons b r => rfl
  have hp : Lib.hasPrefix l [48] = false := by
    rw [prefix48 h0, decide_eq_false_iff_not]
    intro c
    rw [c] at h
    exact absurd h (by decide)
  rw [portOk, hn, hp]
  simp
theorem port_pos {l : List UInt8} (h0 : 0 < l.length) (h : 48 < l[0].toNat) {k : Nat} (hk : k < l.length) (ha : (l.take (k + 1)).all digit = true) : 1 ≤ val (l.take (k + 1)) := by
  have h1 := (val_many (k + 1) (by omega) ha).2.1
  rw [many_first h0 h k hk] at h1
  have h2 := h1 (by omega)
  exact Nat.le_trans (Nat.pow_pos (by omega)) h2

/-- What holds at the head of each round of the reference's loop. -/
def PortRel (l : List UInt8) (n i : Value) : Prop :=
  ∃ k nn : Nat, k ≤ l.length ∧ k ≤ 5 ∧ i = .int .i64 k ∧ n = .int .i64 nn ∧ nn = val (l.take k) ∧ (l.take k).all digit = true ∧ nn < 100000 ∧ (0 < k → 1 ≤ nn ∧ ∃ h : 0 < l.length, 48 < l[0].toNat)

set_option maxHeartbeats 4000000 in
set_option maxRecDepth 100000 in
theorem refPort_any (s : ByteArray) (hs : s.size ≤ maxLen) (w : World) : Calls Try.prog 12 #[.string s] w fun e w' => e = .returned (.tuple #[.int .i64 (portNum s.data.toList : Nat), .bool (portOk s.data.toList)]) ∧ w' = w := by
  have hm : s.size ≤ 9223372036854775807 := by unfold maxLen at hs; exact hs
  have hsl := Lib.hid (size_len s)
  generalize hR : portNum s.data.toList = R
  generalize hT : portOk s.data.toList = T
  have HR := Lib.hid hR
  have HT := Lib.hid hT
  have Hno : Hid (T = false → R = 0) := Lib.hid fun h => by rw [← hR]; exact port_no (by rw [hT]; exact h)
  clear hR hT
  go_enter Try.func12, Try.ntmps12
  go_wp2
  go_loop [4, 5] (fun n i => PortRel s.data.toList n i) (fun _ i => s.size - (RowKit.intOf i).toNat)
  case atStart => exact ⟨0, 0, Nat.zero_le _, by omega, rfl, rfl, rfl, rfl, by omega, fun h => absurd h (by omega)⟩
  case round =>
    obtain ⟨k, nn, hk, hk5, rfl, rfl, hnn, hall, hnb, hpos⟩ := hrel
    rw [← hsl.out] at hk
    have hall' := Lib.hid hall
    have hnn' := Lib.hid hnn
    have hpos' := Lib.hid hpos
    clear hall hnn hpos
    by_cases hkn : k < s.size
    · have hkl : k < s.data.toList.length := by rw [← hsl.out]; exact hkn
      by_cases hd : digit s[k] = true
      · have hv : val (s.data.toList.take (k + 1)) = 10 * val (s.data.toList.take k) + ((s[k]).toNat - 48) := val_step hkl
        have hv' := Lib.hid hv
        have hal := Lib.hid (all_of hkl hall'.out hd)
        obtain ⟨hb1, hb2⟩ := digit_bounds hd
        clear hv hd
        by_cases hk4 : 4 < k
        · have hT0 : T = false := by
            obtain ⟨_, h0, h1⟩ := hpos'.out (by omega)
            rw [← HT.out]
            exact port_long h0 h1 (by rw [← hsl.out]; omega)
          have HT0 := Lib.hid hT0
          clear hT0
          go_wp2
          go_ret2
          exact ⟨ret_two (by rw [Hno.out HT0.out]; rfl) HT0.out.symm, rfl⟩
        · by_cases hk0 : k = 0
          · subst hk0
            have e0 : nn = 0 := by rw [hnn'.out]; simp [val]
            subst e0
            by_cases h48 : (s[0]).toNat = 48
            · have hT0 : T = false := by
                rw [← HT.out]
                refine port_zero hkl ?_
                apply UInt8.toNat_inj.1
                exact h48
              have HT0 := Lib.hid hT0
              clear hT0
              go_wp2
              go_ret2
              exact ⟨ret_two (by rw [Hno.out HT0.out]; rfl) HT0.out.symm, rfl⟩
            · have h49 : 48 < (s[0]).toNat := by omega
              have bq : (((s[0]).toNat : Int) == 48) = false := by rw [beq_eq_false_iff_ne]; omega
              clear h48
              go_wp2
              go_round
              case rel => exact ⟨1, (s[0]).toNat - 48, by rw [← hsl.out]; omega, by omega, by go_num, congrArg (Value.int .i64) (by omega), by rw [hv'.out, List.take_zero]; simp [val], hal.out, by omega, fun _ => ⟨by omega, hkl, h49⟩⟩
              case measure => simp [RowKit.intOf]; omega
          · have hp := hpos'.out (by omega)
            have hp1 := hp.1
            have Hp := Lib.hid hp.2
            have hlt : val (s.data.toList.take (k + 1)) < 10 ^ 5 := Nat.lt_of_lt_of_le (val_digits (n := k + 1) (by omega) rfl hal.out) (Nat.pow_le_pow_right (by omega) (by omega))
            rw [hv'.out, ← hnn'.out, show (10 : Nat) ^ 5 = 100000 by decide] at hlt
            have bq : ((nn : Int) == 0) = false := by rw [beq_eq_false_iff_ne]; omega
            clear hp
            have hw1 : wrap64 (10 * (nn : Int)) = 10 * (nn : Int) := wrap_int (by omega) (by omega)
            have hw2 : wrap64 (10 * (nn : Int) + ((s[k]).toNat - 48 : Int)) = 10 * (nn : Int) + ((s[k]).toNat - 48 : Int) := wrap_int (by omega) (by omega)
            go_wp2
            go_round
            case rel => exact ⟨k + 1, 10 * nn + ((s[k]).toNat - 48), by rw [← hsl.out]; omega, by omega, by go_num, congrArg (Value.int .i64) (by omega), by rw [hv'.out, hnn'.out], hal.out, hlt, fun _ => ⟨by omega, Hp.out⟩⟩
            case measure => simp [RowKit.intOf]; omega
      · have hst := port_stop hkl (show digit s.data.toList[k] = false from Bool.eq_false_iff.2 hd)
        rw [HT.out] at hst
        have HT0 := Lib.hid hst
        have hout : (s[k]).toNat < 48 ∨ (48 ≤ (s[k]).toNat ∧ 57 < (s[k]).toNat) := by
          have : digit s[k] = false := Bool.eq_false_iff.2 hd
          rw [digit, Bool.and_eq_false_iff] at this
          simp at this
          omega
        clear hd hst
        rcases hout with h | ⟨h, h'⟩
        all_goals
          go_wp2
          go_ret2
          exact ⟨ret_two (by rw [Hno.out HT0.out]; rfl) HT0.out.symm, rfl⟩
    · have e : k = s.size := by omega
      subst e
      have hl : s.data.toList.take s.size = s.data.toList := by rw [hsl.out, List.take_length]
      rw [hl] at hall' hnn'
      clear hl
      by_cases hz : s.size = 0
      · have e0 : s.data.toList = [] := List.eq_nil_of_length_eq_zero (by rw [← hsl.out]; exact hz)
        have hT0 : T = false := by rw [← HT.out, e0]; decide
        have hn0 : nn = 0 := by rw [hnn'.out, e0]; rfl
        have HT0 := Lib.hid hT0
        clear hT0 e0
        subst hn0
        go_wp2
        go_ret2
        exact ⟨ret_two (by rw [Hno.out HT0.out]; rfl) HT0.out.symm, rfl⟩
      · obtain ⟨hp1, h0, h1⟩ := hpos'.out (by omega)
        have hf := port_full h0 h1 hall'.out
        rw [HT.out, ← hnn'.out] at hf
        by_cases hb : nn ≤ 65535
        · rw [decide_eq_true hb] at hf
          have hR0 : R = nn := by rw [← HR.out, hnn'.out]; exact port_yes (by rw [HT.out]; exact hf)
          have HT0 := Lib.hid hf
          have HR0 := Lib.hid hR0
          clear hf hR0
          go_wp2
          go_ret2
          exact ⟨ret_two (by rw [HR0.out]) HT0.out.symm, rfl⟩
        · rw [decide_eq_false hb] at hf
          have HT0 := Lib.hid hf
          clear hf
          go_wp2
          go_ret2
          exact ⟨ret_two (by rw [Hno.out HT0.out]; rfl) HT0.out.symm, rfl⟩
end Go.Proofs.Ytohdhmdanllbjaa
