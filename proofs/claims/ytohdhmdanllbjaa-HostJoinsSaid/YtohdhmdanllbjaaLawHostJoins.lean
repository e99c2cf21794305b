/-
  The walk of HostJoins: it returns true, and nothing that was there is changed. Conditions: what the frame of the proof hands over.
-/
import Derived.Test.YtohdhmdanllbjaaHostAwake
namespace Go.Proofs.Ytohdhmdanllbjaa
open Go.RowKit Go.Lib

set_option maxHeartbeats 4000000 in
set_option maxRecDepth 100000 in
theorem hostJoins_law (s : ByteArray) (hs : s.size ≤ 140737488351232) (t : ByteArray) (ht : t.size ≤ 140737488351232) (u : ByteArray) (hu : u.size ≤ 140737488351232) (w : World) : Calls Try.prog 5 #[.string s, .string t, .string u] w (Yes w) := by
  have hs' : s.size ≤ maxLen := by simp only [maxLen]; omega
  have ht' : t.size ≤ maxLen := by simp only [maxLen]; omega
  have hu' : u.size ≤ maxLen := by simp only [maxLen]; omega
  have h0 := Lib.hid (fun W => awake5_any W)
  have h1 := fun W => good_any s hs' W
  have h2 := fun W => good_any t ht' W
  have h3 := fun W => under_any s t hs' ht' W
  by_cases g1 : hgood s.data.toList = true
  · rw [g1] at h1
    have H1 := Lib.hid h1
    by_cases g2 : hgood t.data.toList = true
    · rw [g2] at h2
      have H2 := Lib.hid h2
      have l1 := hgood_le g1
      have l2 := hgood_le g2
      rw [← size_len] at l1 l2
      have ex : (s ++ ⟨#[46]⟩ ++ t).data.toList = s.data.toList ++ 46 :: t.data.toList := by simp
      have hsz : (s ++ ⟨#[46]⟩ ++ t).size = s.size + 1 + t.size := by rw [size_len, ex, List.length_append, List.length_cons, ← size_len, ← size_len]; omega
      have hx' : (s ++ ⟨#[46]⟩ ++ t).size ≤ maxLen := by rw [hsz]; simp only [maxLen]; omega
      have h4 := fun W => good_any (s ++ ⟨#[46]⟩ ++ t) hx' W
      have h5 := fun W => under_any (s ++ ⟨#[46]⟩ ++ t) t hx' ht' W
      have h6 := fun W => under_any t (s ++ ⟨#[46]⟩ ++ t) ht' hx' W
      have h7 := fun W => under_any s s hs' hs' W
      have h8 := fun W => under_any t u ht' hu' W
      have h9 := fun W => under_any (s ++ ⟨#[46]⟩ ++ t) u hx' hu' W
      have gx := hgood_join g1 g2
      rw [ex] at h4 h5 h6 h9
      have hlen : (s.data.toList ++ 46 :: t.data.toList).length = s.size + 1 + t.size := by rw [← ex, ← size_len, hsz]
      rw [hlen] at gx
      by_cases hl : s.size + 1 + t.size ≤ 253
      · rw [decide_eq_true hl] at gx
        rw [gx] at h4
        rw [hunder_join gx g2] at h5
        rw [hunder_not (by rw [hlen, ← size_len]; omega)] at h6
        rw [hunder_not (Nat.le_refl _)] at h7
        have H4 := Lib.hid h4
        have H5 := Lib.hid h5
        have H6 := Lib.hid h6
        have H7 := Lib.hid h7
        by_cases g3 : hunder t.data.toList u.data.toList = true
        · rw [g3] at h8
          rw [hunder_trans gx g3] at h9
          have H8 := Lib.hid h8
          have H9 := Lib.hid h9
          clear h1 h2 h3 h4 h5 h6 h7 h8 h9 g1 g2 g3 gx ex hlen
          go_enter Try.func5, Try.ntmps5
          go_wp2_with (first
            | (go_at_call 6; refine (h0.out _).mono ?_; rintro e w3 ⟨rfl, hb3⟩)
            | (go_at_call 7; with_reducible refine (H1.out _).mono ?_; rintro e w1 ⟨rfl, hb1⟩)
            | (go_at_call 7; with_reducible refine (H2.out _).mono ?_; rintro e w2 ⟨rfl, hb2⟩)
            | (go_at_call 7; with_reducible refine (H4.out _).mono ?_; rintro e w4 ⟨rfl, hb4⟩)
            | (go_at_call 9; with_reducible refine (H5.out _).mono ?_; rintro e w5 ⟨rfl, hb5⟩)
            | (go_at_call 9; with_reducible refine (H6.out _).mono ?_; rintro e w6 ⟨rfl, hb6⟩)
            | (go_at_call 9; with_reducible refine (H7.out _).mono ?_; rintro e w7 ⟨rfl, hb7⟩)
            | (go_at_call 9; with_reducible refine (H8.out _).mono ?_; rintro e w8 ⟨rfl, hb8⟩)
            | (go_at_call 9; with_reducible refine (H9.out _).mono ?_; rintro e w9 ⟨rfl, hb9⟩))
          go_ret
          exact ⟨rfl, below_then (below_then (below_then (below_then (below_then (below_then (below_then (below_then hb1 hb2) hb3) hb4) hb5) hb6) hb7) hb8) hb9⟩
        · rw [Bool.eq_false_iff.2 g3] at h8
          have H8 := Lib.hid h8
          clear h1 h2 h3 h4 h5 h6 h7 h8 h9 g1 g2 g3 gx ex hlen
          go_enter Try.func5, Try.ntmps5
          go_wp2_with (first
            | (go_at_call 6; refine (h0.out _).mono ?_; rintro e w3 ⟨rfl, hb3⟩)
            | (go_at_call 7; with_reducible refine (H1.out _).mono ?_; rintro e w1 ⟨rfl, hb1⟩)
            | (go_at_call 7; with_reducible refine (H2.out _).mono ?_; rintro e w2 ⟨rfl, hb2⟩)
            | (go_at_call 7; with_reducible refine (H4.out _).mono ?_; rintro e w4 ⟨rfl, hb4⟩)
            | (go_at_call 9; with_reducible refine (H5.out _).mono ?_; rintro e w5 ⟨rfl, hb5⟩)
            | (go_at_call 9; with_reducible refine (H6.out _).mono ?_; rintro e w6 ⟨rfl, hb6⟩)
            | (go_at_call 9; with_reducible refine (H7.out _).mono ?_; rintro e w7 ⟨rfl, hb7⟩)
            | (go_at_call 9; with_reducible refine (H8.out _).mono ?_; rintro e w8 ⟨rfl, hb8⟩))
          go_ret
          exact ⟨rfl, below_then (below_then (below_then (below_then (below_then (below_then (below_then hb1 hb2) hb3) hb4) hb5) hb6) hb7) hb8⟩
      · rw [decide_eq_false hl] at gx
        rw [gx] at h4
        have H4 := Lib.hid h4
        clear h1 h2 h3 h4 h5 h6 h7 h8 h9 g1 g2 gx ex hlen
        go_enter Try.func5, Try.ntmps5
        go_wp2_with (first
          | (go_at_call 6; refine (h0.out _).mono ?_; rintro e w3 ⟨rfl, hb3⟩)
          | (go_at_call 7; with_reducible refine (H1.out _).mono ?_; rintro e w1 ⟨rfl, hb1⟩)
          | (go_at_call 7; with_reducible refine (H2.out _).mono ?_; rintro e w2 ⟨rfl, hb2⟩)
          | (go_at_call 7; with_reducible refine (H4.out _).mono ?_; rintro e w4 ⟨rfl, hb4⟩))
        go_ret
        exact ⟨rfl, below_then (below_then (below_then hb1 hb2) hb3) hb4⟩
    · rw [Bool.eq_false_iff.2 g2] at h2
      rw [hunder_bad (.inr (Bool.eq_false_iff.2 g2))] at h3
      have H2 := Lib.hid h2
      have H3 := Lib.hid h3
      clear h1 h2 h3 g1 g2
      go_enter Try.func5, Try.ntmps5
      go_wp2_with (first
        | (go_at_call 6; refine (h0.out _).mono ?_; rintro e w3 ⟨rfl, hb3⟩)
        | (go_at_call 7; with_reducible refine (H1.out _).mono ?_; rintro e w1 ⟨rfl, hb1⟩)
        | (go_at_call 7; with_reducible refine (H2.out _).mono ?_; rintro e w2 ⟨rfl, hb2⟩)
        | (go_at_call 9; with_reducible refine (H3.out _).mono ?_; rintro e w4 ⟨rfl, hb4⟩))
      go_ret
      exact ⟨rfl, below_then (below_then (below_then hb1 hb2) hb3) hb4⟩
  · rw [Bool.eq_false_iff.2 g1] at h1
    rw [hunder_bad (.inl (Bool.eq_false_iff.2 g1))] at h3
    have H1 := Lib.hid h1
    have H3 := Lib.hid h3
    clear h1 h2 h3 g1
    go_enter Try.func5, Try.ntmps5
    go_wp2_with (first
      | (go_at_call 6; refine (h0.out _).mono ?_; rintro e w3 ⟨rfl, hb3⟩)
      | (go_at_call 7; with_reducible refine (H1.out _).mono ?_; rintro e w1 ⟨rfl, hb1⟩)
      | (go_at_call 9; with_reducible refine (H3.out _).mono ?_; rintro e w4 ⟨rfl, hb4⟩))
    go_ret
    exact ⟨rfl, below_then (below_then hb1 hb3) hb4⟩
end Go.Proofs.Ytohdhmdanllbjaa
