/-
  Under as the reference has it. Conditions: the texts are no longer than any text may be.
-/
import Derived.Test.YtohdhmdanllbjaaHostRefGood
namespace Go.Proofs.Ytohdhmdanllbjaa
open Go.RowKit Go.Lib Go.Shelf

theorem suffix_parts {l t : List UInt8} (h : t.length < l.length) : Lib.hasSuffix l (46 :: t) = (l.drop (l.length - t.length) == t && l[l.length - t.length - 1]'(by omega) == 46) := by
  rw [Bool.eq_iff_iff, suffix_iff, Bool.and_eq_true, beq_iff_eq, beq_iff_eq]
  constructor
  · rintro ⟨a, rfl⟩
    have e : (a ++ 46 :: t).length - t.length = a.length + 1 := by simp; omega
    simp only [e]
    exact ⟨by simp, by simp⟩
  · rintro ⟨h1, h2⟩
    refine ⟨l.take (l.length - t.length - 1), ?_⟩
    have h3 : l.drop (l.length - t.length - 1) = 46 :: t := by
      rw [List.drop_eq_getElem_cons (show l.length - t.length - 1 < l.length by omega), h2, show l.length - t.length - 1 + 1 = l.length - t.length by omega, h1]
    rw [← h3, List.take_append_drop]
theorem suffix_short {l t : List UInt8} (h : l.length ≤ t.length) : Lib.hasSuffix l (46 :: t) = false := by
  rw [Bool.eq_false_iff, Ne, suffix_iff]
  intro c
  have := c.length_le
  simp at this
  omega

set_option maxRecDepth 100000 in
set_option maxHeartbeats 2000000 in
theorem refUnder_any (s t : ByteArray) (hs : s.size ≤ maxLen) (ht : t.size ≤ maxLen) (w : World) : Calls Try.prog 10 #[.string s, .string t] w fun e w' => e = .returned (.bool (hunder s.data.toList t.data.toList)) ∧ w' = w := by
  have hm : s.size ≤ 9223372036854775807 := by unfold maxLen at hs; exact hs
  have hm2 : t.size ≤ 9223372036854775807 := by unfold maxLen at ht; exact ht
  have hsl := Lib.hid (size_len s)
  have htl := Lib.hid (size_len t)
  have h1 := fun W => refGood_any s hs W
  have h2 := fun W => refGood_any t ht W
  by_cases g1 : hgood s.data.toList = true
  · rw [g1] at h1
    have H1 := Lib.hid h1
    by_cases g2 : hgood t.data.toList = true
    · have e : hunder s.data.toList t.data.toList = Lib.hasSuffix s.data.toList (46 :: t.data.toList) := by rw [hunder, g1, g2]; rfl
      rw [e]
      rw [g2] at h2
      have H2 := Lib.hid h2
      clear h1 h2 g1 g2 e
      by_cases hlt : t.size < s.size
      · have hsub : (s.extract (s.size - t.size) s.size).toList = s.data.toList.drop (s.data.toList.length - t.data.toList.length) := by rw [ByteArray.toList_eq, Lib.extract_to_end, size_len, size_len]
        have hp := suffix_parts (l := s.data.toList) (t := t.data.toList) (by rw [← hsl.out, ← htl.out]; exact hlt)
        rw [← hsub] at hp
        have hl1 : s.size - t.size - 1 < s.size := by omega
        have e1 : s.data.toList[s.data.toList.length - t.data.toList.length - 1]'(by rw [← hsl.out, ← htl.out]; exact hl1) = s[s.size - t.size - 1] := by rw [byte_at s _ hl1]; simp only [size_len]
        rw [e1] at hp
        generalize Lib.hasSuffix s.data.toList (46 :: t.data.toList) = R at *
        rw [← ByteArray.toList_eq t] at hp
        have hlo : ((s.size : Int) - (t.size : Int) + 9223372036854775808) % 18446744073709551616 - 9223372036854775808 = ((s.size - t.size : Nat) : Int) := by omega
        have Hp := Lib.hid hp
        clear hp e1 hsub
        by_cases c1 : (s.extract (s.size - t.size) s.size).toList = t.toList
        · have b1 : ((s.extract (s.size - t.size) s.size).toList == t.toList) = true := by rw [beq_iff_eq]; exact c1
          by_cases c2 : s[s.size - t.size - 1] = 46
          · have HR0 : Hid (R = true) := Lib.hid (by rw [Hp.out, b1, c2]; rfl)
            have b2 := (byte46 _).1 c2
            clear c1 c2
            go_enter Try.func10, Try.ntmps10
            go_wp2_with (first
              | (go_at_call 8; with_reducible refine (H1.out _).mono ?_; rintro e w' ⟨rfl, hw⟩; subst hw)
              | (go_at_call 8; with_reducible refine (H2.out _).mono ?_; rintro e w' ⟨rfl, hw⟩; subst hw))
            go_ret
            exact ⟨ret_bool HR0.out.symm, rfl⟩
          · have HR0 : Hid (R = false) := Lib.hid (by rw [Hp.out, b1]; simp [c2])
            have b2 : (((s[s.size - t.size - 1]).toNat : Int) == 46) = false := by rw [beq_eq_false_iff_ne]; exact fun c => c2 ((byte46 _).2 c)
            clear c1 c2
            go_enter Try.func10, Try.ntmps10
            go_wp2_with (first
              | (go_at_call 8; with_reducible refine (H1.out _).mono ?_; rintro e w' ⟨rfl, hw⟩; subst hw)
              | (go_at_call 8; with_reducible refine (H2.out _).mono ?_; rintro e w' ⟨rfl, hw⟩; subst hw))
            go_ret
            exact ⟨ret_bool HR0.out.symm, rfl⟩
        · have b1 : ((s.extract (s.size - t.size) s.size).toList == t.toList) = false := by rw [beq_eq_false_iff_ne]; exact c1
          have HR0 : Hid (R = false) := Lib.hid (by rw [Hp.out, b1]; rfl)
          clear c1
          go_enter Try.func10, Try.ntmps10
          go_wp2_with (first
            | (go_at_call 8; with_reducible refine (H1.out _).mono ?_; rintro e w' ⟨rfl, hw⟩; subst hw)
            | (go_at_call 8; with_reducible refine (H2.out _).mono ?_; rintro e w' ⟨rfl, hw⟩; subst hw))
          go_ret
          exact ⟨ret_bool HR0.out.symm, rfl⟩
      · rw [suffix_short (by rw [← hsl.out, ← htl.out]; omega)]
        go_enter Try.func10, Try.ntmps10
        go_wp2_with (first
          | (go_at_call 8; with_reducible refine (H1.out _).mono ?_; rintro e w' ⟨rfl, hw⟩; subst hw)
          | (go_at_call 8; with_reducible refine (H2.out _).mono ?_; rintro e w' ⟨rfl, hw⟩; subst hw))
        go_ret
        exact ⟨rfl, rfl⟩
    · have g2' : hgood t.data.toList = false := Bool.eq_false_iff.2 g2
      rw [hunder_bad (.inr g2')]
      rw [g2'] at h2
      have H2 := Lib.hid h2
      clear h1 h2 g2 g2' g1
      go_enter Try.func10, Try.ntmps10
      go_wp2_with (first
        | (go_at_call 8; with_reducible refine (H1.out _).mono ?_; rintro e w' ⟨rfl, hw⟩; subst hw)
        | (go_at_call 8; with_reducible refine (H2.out _).mono ?_; rintro e w' ⟨rfl, hw⟩; subst hw))
      go_ret
      exact ⟨rfl, rfl⟩
  · have g1' : hgood s.data.toList = false := Bool.eq_false_iff.2 g1
    rw [hunder_bad (.inl g1')]
    rw [g1'] at h1
    have H1 := Lib.hid h1
    clear h1 h2 g1 g1'
    go_enter Try.func10, Try.ntmps10
    go_wp2_with (go_at_call 8; refine (H1.out _).mono ?_; rintro e w' ⟨rfl, hw⟩; subst hw)
    go_ret
    exact ⟨rfl, rfl⟩
end Go.Proofs.Ytohdhmdanllbjaa
