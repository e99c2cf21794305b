/-
  Good and Under as the reference has them. Conditions: the texts are no longer than any text may be.
-/
import Derived.Test.YtohdhmdanllbjaaHostUnder
namespace Go.Proofs.Ytohdhmdanllbjaa
open Go.RowKit Go.Lib Go.Shelf

set_option maxHeartbeats 2000000 in
set_option maxRecDepth 100000 in
theorem refLetter_any (c : Nat) (w : World) : Calls Try.prog 17 #[.int .u8 c] w fun e w' => e = .returned (.bool (hletter c)) ∧ w' = w := by
  rcases (show (0 ≤ c ∧ c < 45) ∨ c = 45 ∨ (45 < c ∧ c < 48) ∨ (48 ≤ c ∧ c ≤ 57) ∨ (57 < c ∧ c < 97) ∨ (97 ≤ c ∧ c ≤ 122) ∨ (0 ≤ c ∧ 122 < c) by omega) with h | h | h | h | h | h | h
  all_goals
    obtain ⟨t, ht⟩ : ∃ t, t = hletter c := ⟨_, rfl⟩
    rw [← ht]
    try subst h
    try (obtain ⟨h1, h2⟩ := h)
    go_enter Try.func17, Try.ntmps17
    go_wp2
    go_ret
    refine ⟨ret_bool ?_, rfl⟩
    rw [Bool.eq_iff_iff]
    try rw [ht]
    simp only [hletter]
    simp
    try omega

/-- The part from one place to another. -/
def span (l : List UInt8) (f k : Nat) : List UInt8 := (l.drop f).take (k - f)
theorem span_len {l : List UInt8} {f k : Nat} (h1 : f ≤ k) (h2 : k ≤ l.length) : (span l f k).length = k - f := by
  rw [span, List.length_take, List.length_drop]
  omega
theorem span_at {l : List UInt8} {f k j : Nat} (h2 : k ≤ l.length) (hj : f + j < k) : (span l f k)[j]? = some (l[f + j]'(by omega)) := by
  rw [span, List.getElem?_take, if_pos (by omega), List.getElem?_drop, List.getElem?_eq_getElem (by omega)]
theorem span_step {l : List UInt8} {f k : Nat} (h1 : f ≤ k) (h2 : k < l.length) : span l f (k + 1) = span l f k ++ [l[k]] := by
  rw [span, span, show k + 1 - f = (k - f) + 1 by omega, List.take_add_one, List.getElem?_drop, show f + (k - f) = k by omega, List.getElem?_eq_getElem h2]
  rfl
theorem span_no {l : List UInt8} {f k : Nat} (h : (span l f k).all hbyte = true) : ∀ b ∈ span l f k, b ≠ 46 := by
  intro b hb c
  rw [List.all_eq_true] at h
  have := h b hb
  rw [c] at this
  exact absurd this (by decide)
theorem span_dot {l : List UInt8} {f k : Nat} (h1 : f ≤ k) (h2 : k < l.length) (h3 : l[k] = 46) (h : (span l f k).all hbyte = true) : hdots (l.drop f) = span l f k :: hdots (l.drop (k + 1)) := by
  have e : l.drop f = span l f k ++ 46 :: l.drop (k + 1) := by
    have e1 : (l.drop f).drop (k - f) = l[k] :: l.drop (k + 1) := by
      rw [List.drop_drop, show f + (k - f) = k by omega]
      exact List.drop_eq_getElem_cons h2
    rw [h3] at e1
    rw [← e1, span, List.take_append_drop]
  rw [e, hdots_dot (span_no h)]
theorem span_end {l : List UInt8} {f : Nat} (h : (span l f l.length).all hbyte = true) : hdots (l.drop f) = [span l f l.length] := by
  have e : l.drop f = span l f l.length := by
    rw [span, List.take_of_length_le (by rw [List.length_drop]; exact Nat.le_refl _)]
  conv => lhs; rw [e]
  exact hdots_none (span_no h)

theorem span_part {l : List UInt8} {f k : Nat} (h1 : f < k) (h2 : k ≤ l.length) (h3 : k - f ≤ 63) (h : (span l f k).all hbyte = true) : hpart (span l f k) = (l[f] != 45 && l[k - 1] != 45) := by
  have hl := span_len (l := l) (f := f) (k := k) (by omega) h2
  have e0 : (span l f k)[0]? = some (l[f]'(by omega)) := span_at (j := 0) h2 (by omega)
  have e1 : (span l f k)[(span l f k).length - 1]? = some (l[k - 1]'(by omega)) := by
    rw [hl, span_at h2 (by omega)]
    have : f + (k - f - 1) = k - 1 := by omega
    simp only [this]
  have hne : (span l f k).isEmpty = false := by
    rw [List.isEmpty_eq_false_iff]
    intro c
    rw [c] at hl
    simp at hl
    omega
  have hb : ∀ b : UInt8, (some b != some (45 : UInt8)) = (b != 45) := fun b => rfl
  have hd : decide ((span l f k).length ≤ 63) = true := by rw [decide_eq_true_iff, hl]; exact h3
  rw [hpart, e0, e1, h, hne, hb, hb, hd]
  rfl

/-- What holds at the head of each round: all parts ahead of the place 'from' are valid, and the bytes behind it may stand in one; or all is read. -/
def GoodRel (l : List UInt8) (f i : Value) : Prop :=
  ∃ kf k : Nat, f = .int .i64 kf ∧ i = .int .i64 k ∧
    ((kf ≤ k ∧ k ≤ l.length ∧ (span l kf k).all hbyte = true ∧ (hdots l).all hpart = (hdots (l.drop kf)).all hpart) ∨ (k = l.length + 1 ∧ (hdots l).all hpart = true))

/-- At a dot, or at the end: the part is read. -/
theorem round_end {l : List UInt8} {R : Bool} {kf k : Nat} (hR : (hdots l).all hpart = R) (hfk : kf ≤ k) (hk : k ≤ l.length) (hsp : (span l kf k).all hbyte = true) (hd : R = (hdots (l.drop kf)).all hpart)
    (hstop : (∃ h : k < l.length, l[k] = 46) ∨ k = l.length) :
    (hpart (span l kf k) = false → R = false) ∧ (hpart (span l kf k) = true → GoodRel l (.int .i64 ((k : Int) + 1)) (.int .i64 ((k : Int) + 1))) := by
  rcases hstop with ⟨h, h46⟩ | rfl
  · rw [span_dot hfk h h46 hsp, List.all_cons] at hd
    refine ⟨fun hp => by rw [hd, hp]; rfl, fun hp => ⟨k + 1, k + 1, by simp, by simp, .inl ⟨Nat.le_refl _, h, by simp [span], ?_⟩⟩⟩
    rw [hR, hd, hp]
    rfl
  · rw [span_end hsp, List.all_cons, List.all_nil, Bool.and_true] at hd
    refine ⟨fun hp => by rw [hd, hp], fun hp => ⟨l.length + 1, l.length + 1, by simp, by simp, .inr ⟨rfl, ?_⟩⟩⟩
    rw [hR, hd, hp]

set_option maxHeartbeats 4000000 in
set_option maxRecDepth 100000 in
theorem refGood_any (s : ByteArray) (hs : s.size ≤ maxLen) (w : World) : Calls Try.prog 8 #[.string s] w fun e w' => e = .returned (.bool (hgood s.data.toList)) ∧ w' = w := by
  have hm : s.size ≤ 9223372036854775807 := by unfold maxLen at hs; exact hs
  have hsl := Lib.hid (size_len s)
  by_cases hlong : 253 < s.size
  · rw [hgood_len (by rw [← hsl.out]; exact hlong)]
    go_enter Try.func8, Try.ntmps8
    go_wp2
    go_ret
    exact ⟨rfl, rfl⟩
  · rw [hgood_of (by rw [← hsl.out]; omega)]
    generalize hR : (hdots s.data.toList).all hpart = R
    have HR := Lib.hid hR
    clear hR
    go_enter Try.func8, Try.ntmps8
    go_wp2
    go_loop [3, 4] (fun f i => GoodRel s.data.toList f i) (fun _ i => s.size + 1 - (RowKit.intOf i).toNat)
    case atStart => exact ⟨0, 0, rfl, rfl, .inl ⟨Nat.le_refl _, Nat.zero_le _, by simp [span], rfl⟩⟩
    case round =>
      obtain ⟨kf, k, rfl, rfl, ⟨hfk, hk, hsp, hdots⟩ | ⟨rfl, hall⟩⟩ := hrel
      · rw [HR.out] at hdots
        rw [← hsl.out] at hk
        have Hsp := Lib.hid hsp
        have Hd := Lib.hid hdots
        clear hsp hdots
        by_cases hmid : ∃ h : k < s.size, s[k] ≠ 46
        · obtain ⟨hkn, h46⟩ := hmid
          have hkl : k < s.data.toList.length := by rw [← hsl.out]; exact hkn
          have b46 : (((s[k]).toNat : Int) != 46) = true := by rw [bne_iff_ne]; exact fun c => h46 ((byte46 _).2 c)
          have hlet := fun W => refLetter_any (s[k]).toNat W
          by_cases hb : hbyte s[k] = true
          · have hb2 : hletter (s[k]).toNat = true := hb
            rw [hb2] at hlet
            have Hlet := Lib.hid hlet
            have hsp2 : (span s.data.toList kf (k + 1)).all hbyte = true := by
              rw [span_step hfk hkl, List.all_append, Hsp.out]
              have : hbyte s.data.toList[k] = true := hb
              rw [List.all_cons, this]
              rfl
            have Hsp2 := Lib.hid hsp2
            clear hlet hb hb2 hsp2 h46
            go_wp2_with (go_at_call 17; refine (Hlet.out _).mono ?_; rintro e w' ⟨rfl, hw⟩; subst hw)
            go_round
            case rel => exact ⟨kf, k + 1, rfl, by go_num, .inl ⟨by omega, by rw [← hsl.out]; omega, Hsp2.out, by rw [HR.out]; exact Hd.out⟩⟩
            case measure => simp [RowKit.intOf]; omega
          · have hb1 : hbyte s[k] = false := Bool.eq_false_iff.2 hb
            have hb2 : hletter (s[k]).toNat = false := hb1
            rw [hb2] at hlet
            have Hlet := Lib.hid hlet
            have hR0 : R = false := by
              rw [← HR.out]
              exact hbad (b := s.data.toList[k]) (List.getElem_mem hkl) h46 hb1
            have HR0 := Lib.hid hR0
            clear hlet hb hb1 hb2 hR0 h46
            go_wp2_with (go_at_call 17; refine (Hlet.out _).mono ?_; rintro e w' ⟨rfl, hw⟩; subst hw)
            go_ret
            exact ⟨ret_bool HR0.out.symm, rfl⟩
        · have hstop : (∃ h : k < s.size, s[k] = 46) ∨ k = s.size := by
            by_cases h : k < s.size
            · exact .inl ⟨h, Classical.byContradiction fun c => hmid ⟨h, c⟩⟩
            · exact .inr (by omega)
          clear hmid
          obtain ⟨hRP, hnext⟩ := round_end HR.out hfk (by rw [← hsl.out]; exact hk) Hsp.out Hd.out (by
            rcases hstop with ⟨h, h'⟩ | h
            · exact .inl ⟨by rw [← hsl.out]; exact h, h'⟩
            · exact .inr (by rw [← hsl.out]; exact h))
          have HRP := Lib.hid hRP
          have Hnext := Lib.hid hnext
          clear hRP hnext
          have Hpart := Lib.hid (fun (h1 : kf < k) (h3 : k - kf ≤ 63) => span_part (l := s.data.toList) h1 (by rw [← hsl.out]; exact hk) h3 Hsp.out)
          have Hempty : Hid (kf = k → R = false) := Lib.hid fun h => HRP.out (by rw [h, span]; simp [hpart])
          have Hlong : Hid (63 < k - kf → R = false) := Lib.hid fun h => HRP.out (hpart_long (by rw [span_len hfk (by rw [← hsl.out]; exact hk)]; exact h))
          by_cases c1 : kf = k
          · have HR0 := Lib.hid (Hempty.out c1)
            subst c1
            rcases hstop with ⟨hkn, h46⟩ | rfl
            · have b46 := (byte46 _).1 h46
              clear h46
              go_wp2
              go_ret
              exact ⟨ret_bool HR0.out.symm, rfl⟩
            · go_wp2
              go_ret
              exact ⟨ret_bool HR0.out.symm, rfl⟩
          · have bq : ((k : Int) == (kf : Int)) = false := by rw [beq_eq_false_iff_ne]; omega
            by_cases c2 : 63 < k - kf
            · have HR0 := Lib.hid (Hlong.out c2)
              rcases hstop with ⟨hkn, h46⟩ | rfl
              · have b46 := (byte46 _).1 h46
                clear h46
                go_wp2
                go_ret
                exact ⟨ret_bool HR0.out.symm, rfl⟩
              · go_wp2
                go_ret
                exact ⟨ret_bool HR0.out.symm, rfl⟩
            · have hkf : kf < s.size := by omega
              have hk1 : k - 1 < s.size := by omega
              have hp : hpart (span s.data.toList kf k) = (s[kf] != 45 && s[k - 1] != 45) := Hpart.out (by omega) (by omega)
              by_cases c3 : s[kf] = 45
              · have HR0 := Lib.hid (HRP.out (by rw [hp, c3]; rfl))
                have b3 := (byte45 _).1 c3
                clear c3 hp
                rcases hstop with ⟨hkn, h46⟩ | rfl
                · have b46 := (byte46 _).1 h46
                  clear h46
                  go_wp2
                  go_ret
                  exact ⟨ret_bool HR0.out.symm, rfl⟩
                · go_wp2
                  go_ret
                  exact ⟨ret_bool HR0.out.symm, rfl⟩
              · have b3 : (((s[kf]).toNat : Int) == 45) = false := by rw [beq_eq_false_iff_ne]; exact fun c => c3 ((byte45 _).2 c)
                by_cases c4 : s[k - 1] = 45
                · have HR0 := Lib.hid (HRP.out (by rw [hp, c4]; simp))
                  have b4 := (byte45 _).1 c4
                  clear c3 c4 hp
                  rcases hstop with ⟨hkn, h46⟩ | rfl
                  · have b46 := (byte46 _).1 h46
                    clear h46
                    go_wp2
                    go_ret
                    exact ⟨ret_bool HR0.out.symm, rfl⟩
                  · go_wp2
                    go_ret
                    exact ⟨ret_bool HR0.out.symm, rfl⟩
                · have b4 : (((s[k - 1]).toNat : Int) == 45) = false := by rw [beq_eq_false_iff_ne]; exact fun c => c4 ((byte45 _).2 c)
                  have Hn := Lib.hid (Hnext.out (by rw [hp]; simp [c3, c4]))
                  clear c3 c4 hp
                  rcases hstop with ⟨hkn, h46⟩ | rfl
                  · have b46 := (byte46 _).1 h46
                    clear h46
                    go_wp2
                    go_round
                    case rel => exact Hn.out
                    case measure => simp [RowKit.intOf]; omega
                  · go_wp2
                    go_round
                    case rel => exact Hn.out
                    case measure => simp [RowKit.intOf]
      · rw [HR.out] at hall
        have HR0 := Lib.hid hall
        clear hall
        have e1 : s.data.toList.length = s.size := hsl.out.symm
        rw [e1]
        clear e1
        go_wp2
        go_ret
        exact ⟨ret_bool HR0.out.symm, rfl⟩
end Go.Proofs.Ytohdhmdanllbjaa
