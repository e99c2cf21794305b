/-
  host.Under, and the library's HasSuffix and HasPrefix. Conditions: the texts are no longer than any text may be.
-/
import Derived.Test.YtohdhmdanllbjaaHostGood
namespace Go.Proofs.Ytohdhmdanllbjaa
open Go.RowKit Go.Lib Go.Shelf

set_option maxHeartbeats 1000000 in
theorem suffixlite_any (s p : ByteArray) (w : World) (hs : s.size ≤ 9223372036854775807) :
    Calls Try.prog 24 #[.string s, .string p] w fun e w' => e = .returned (.bool (Lib.hasSuffix s.data.toList p.data.toList)) ∧ w' = w := by
  rw [← Lib.hasSuffix_raw]
  have hlo : p.size ≤ s.size → ((s.size : Int) - (p.size : Int) + 9223372036854775808) % 18446744073709551616 - 9223372036854775808 = ((s.size - p.size : Nat) : Int) := fun _ => by omega
  go_enter Try.func24, Try.ntmps24
  go_wp2
  · have h : p.size ≤ s.size := by assumption
    go_ret
    refine ⟨?_, rfl⟩
    show Ending.returned (Value.bool ((s.extract (s.size - p.size) s.size).toList == p.toList)) = _
    simp [h]
  · have h : ¬ p.size ≤ s.size := by assumption
    go_ret
    refine ⟨?_, rfl⟩
    show Ending.returned (Value.bool false) = _
    simp [h]

set_option maxHeartbeats 1000000 in
theorem suffix_any (s p : ByteArray) (w : World) (hs : s.size ≤ 9223372036854775807) :
    Calls Try.prog 18 #[.string s, .string p] w fun e w' => e = .returned (.bool (Lib.hasSuffix s.data.toList p.data.toList)) ∧ w' = w := by
  go_enter Try.func18, Try.ntmps18
  go_wp2_with (go_at_call 24; refine (suffixlite_any _ _ _ hs).mono ?_; rintro e w' ⟨rfl, hw⟩; subst hw)
  go_ret
  exact ⟨rfl, rfl⟩

theorem below_then {w a b : World} (h : Below w.heap.size w a) (k : Below a.heap.size a b) : Below w.heap.size w b := h.trans (k.mono h.size)

set_option maxRecDepth 100000 in
set_option maxHeartbeats 2000000 in
theorem under_any (s t : ByteArray) (hs : s.size ≤ maxLen) (ht : t.size ≤ maxLen) (w : World) : Calls Try.prog 9 #[.string s, .string t] w fun e w' => e = .returned (.bool (hunder s.data.toList t.data.toList)) ∧ Below w.heap.size w w' := by
  have hm : s.size ≤ 9223372036854775807 := by unfold maxLen at hs; exact hs
  have h1 := fun W => good_any s hs W
  have h2 := fun W => good_any t ht W
  by_cases g1 : hgood s.data.toList = true
  · by_cases g2 : hgood t.data.toList = true
    · have e : hunder s.data.toList t.data.toList = Lib.hasSuffix s.data.toList (46 :: t.data.toList) := by rw [hunder, g1, g2]; rfl
      have ht2 := hgood_le g2
      rw [← size_len] at ht2
      rw [e]
      rw [g1] at h1
      rw [g2] at h2
      have H1 := Lib.hid h1
      have H2 := Lib.hid h2
      have h3 := fun W => suffix_any s (⟨#[46]⟩ ++ t) W hm
      have e3 : (⟨#[46]⟩ ++ t : ByteArray).data.toList = 46 :: t.data.toList := by simp
      rw [e3] at h3
      have H3 := Lib.hid h3
      clear h1 h2 h3 e3 e
      generalize Lib.hasSuffix s.data.toList (46 :: t.data.toList) = R at *
      go_enter Try.func9, Try.ntmps9
      go_wp2_with (first
        | (go_at_call 7; with_reducible refine (H1.out _).mono ?_; rintro e w1 ⟨rfl, hb1⟩)
        | (go_at_call 7; with_reducible refine (H2.out _).mono ?_; rintro e w2 ⟨rfl, hb2⟩)
        | (go_at_call 18; refine (H3.out _).mono ?_; rintro e w' ⟨rfl, hw⟩; have hw2 := hw.symm; subst hw2))
      go_ret
      exact ⟨rfl, below_then hb1 hb2⟩
    · have g2' : hgood t.data.toList = false := Bool.eq_false_iff.2 g2
      rw [hunder_bad (.inr g2')]
      rw [g1] at h1
      rw [g2'] at h2
      have H1 := Lib.hid h1
      have H2 := Lib.hid h2
      clear h1 h2 g2 g2' g1
      go_enter Try.func9, Try.ntmps9
      go_wp2_with (first
        | (go_at_call 7; with_reducible refine (H1.out _).mono ?_; rintro e w1 ⟨rfl, hb1⟩)
        | (go_at_call 7; with_reducible refine (H2.out _).mono ?_; rintro e w2 ⟨rfl, hb2⟩))
      go_ret
      exact ⟨rfl, below_then hb1 hb2⟩
  · have g1' : hgood s.data.toList = false := Bool.eq_false_iff.2 g1
    rw [hunder_bad (.inl g1')]
    rw [g1'] at h1
    have H1 := Lib.hid h1
    clear h1 h2 g1 g1'
    go_enter Try.func9, Try.ntmps9
    go_wp2_with (go_at_call 7; refine (H1.out _).mono ?_; rintro e w1 ⟨rfl, hb1⟩)
    go_ret
    exact ⟨rfl, hb1⟩
end Go.Proofs.Ytohdhmdanllbjaa
