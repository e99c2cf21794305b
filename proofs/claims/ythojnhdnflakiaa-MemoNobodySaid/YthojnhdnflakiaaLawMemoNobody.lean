/-
  The walk of the statement MemoNobody: for any entry and any two numbers it returns true, and nothing that was there is changed. No condition.
-/
import Derived.Test.YthojnhdnflakiaaMemoAwake
import Derived.Test.YthojnhdnflakiaaMemoOpen
import Derived.Test.YthojnhdnflakiaaInfo
namespace Go.Proofs.Ythojnhdnflakiaa
open Go.RowKit Go.Lib Go.Shelf

set_option maxHeartbeats 8000000 in
set_option maxRecDepth 100000 in
theorem memoNobody_law (q : Ent) (now : Int) (_hnow : now ≤ 9223372036854775807) (most : Int) (_hmost : most ≤ 9223372036854775807) (w : World) (_hq : Six4 q.til) :
    Calls Try.prog 5 #[evalue q, .int .i64 now, .int .i64 most] w (Yes w) := by
  obtain ⟨x1, x2, x3, x4, x5, x6⟩ := q
  have hb0 := Lib.hid (below_box w (.cells (ecell ⟨x1, x2, x3, x4, x5, x6⟩).toArray 32))
  have hs := Lib.hid (six_new w ⟨x1, x2, x3, x4, x5, x6⟩ 32)
  have hp := Lib.hid (fun W => put_nil ⟨x1, x2, x3, x4, x5, x6⟩ now W)
  have hd := Lib.hid (fun W => drop_nil x1 x2 W)
  have hh := Lib.hid (fun W => has_nil ⟨x1, x2, x3, x4, x5, x6⟩ now W)
  clear _hq
  unfold evalue at hp hh ⊢
  simp only at hp hh ⊢
  unfold Yes
  by_cases h1 : most < 1
  · have hn := Lib.hid (fun W => new_no most (.inl h1) W)
    have h1' : ¬ (1 : Int) ≤ most := by omega
    go_enter Try.func5, Try.ntmps5
    go_wp2_with (first
      | (go_at_call 13; refine (hp.out _).mono ?_; rintro e w1 ⟨rfl, hb1⟩; obtain ⟨z1, z2, z3, z4, z5, z6⟩ := hs.out.later (hb1); simp only at z1 z2 z3 z4 z5 z6)
      | (go_at_call 9; refine (hd.out _).mono ?_; rintro e w2 ⟨rfl, hb2⟩; have hB2 := Lib.hid (below_then hb1 hb2))
      | (go_at_call 6; (with_reducible refine (hn.out _).mono ?_); rintro e w' ⟨rfl, hw⟩; subst hw; have hB3 := hB2)
      | (go_at_call 8; refine (awake15_any _).mono ?_; rintro e w4 ⟨rfl, hb4⟩; have hB4 := Lib.hid (below_then hB3.out hb4); obtain ⟨y1, y2, y3, y4, y5, y6⟩ := hs.out.later (below_then hB3.out hb4); simp only at y1 y2 y3 y4 y5 y6)
      | (go_at_call 11; refine (hh.out _).mono ?_; rintro e w5 ⟨rfl, hb5⟩; have hB5 := Lib.hid (below_then hB4.out hb5))
      | (go_at_call 16; (with_reducible refine (list_nil _).mono ?_); rintro e w' ⟨rfl, hw⟩; subst hw))
    go_ret
    exact ⟨ret_bool (by simp <;> omega), below_then hb0.out (hB5.out)⟩
  · by_cases h2 : 64 < most
    · have hn := Lib.hid (fun W => new_no most (.inr h2) W)
      have h1' : (1 : Int) ≤ most := by omega
      have h2' : ¬ most ≤ 64 := by omega
      go_enter Try.func5, Try.ntmps5
      go_wp2_with (first
        | (go_at_call 13; refine (hp.out _).mono ?_; rintro e w1 ⟨rfl, hb1⟩; obtain ⟨z1, z2, z3, z4, z5, z6⟩ := hs.out.later (hb1); simp only at z1 z2 z3 z4 z5 z6)
        | (go_at_call 9; refine (hd.out _).mono ?_; rintro e w2 ⟨rfl, hb2⟩; have hB2 := Lib.hid (below_then hb1 hb2))
        | (go_at_call 6; (with_reducible refine (hn.out _).mono ?_); rintro e w' ⟨rfl, hw⟩; subst hw; have hB3 := hB2)
        | (go_at_call 8; refine (awake15_any _).mono ?_; rintro e w4 ⟨rfl, hb4⟩; have hB4 := Lib.hid (below_then hB3.out hb4); obtain ⟨y1, y2, y3, y4, y5, y6⟩ := hs.out.later (below_then hB3.out hb4); simp only at y1 y2 y3 y4 y5 y6)
        | (go_at_call 11; refine (hh.out _).mono ?_; rintro e w5 ⟨rfl, hb5⟩; have hB5 := Lib.hid (below_then hB4.out hb5))
        | (go_at_call 16; (with_reducible refine (list_nil _).mono ?_); rintro e w' ⟨rfl, hw⟩; subst hw))
      go_ret
      exact ⟨ret_bool (by simp <;> omega), below_then hb0.out (hB5.out)⟩
    · obtain ⟨k, rfl⟩ : ∃ k : Nat, most = (k : Int) := ⟨most.toNat, by omega⟩
      have hn := Lib.hid (fun W => new_yes k (by omega) (by omega) W)
      have h1' : (1 : Int) ≤ (k : Int) := by omega
      have h2' : (k : Int) ≤ 64 := by omega
      go_enter Try.func5, Try.ntmps5
      go_wp2_with (first
        | (go_at_call 13; refine (hp.out _).mono ?_; rintro e w1 ⟨rfl, hb1⟩; obtain ⟨z1, z2, z3, z4, z5, z6⟩ := hs.out.later (hb1); simp only at z1 z2 z3 z4 z5 z6)
        | (go_at_call 9; refine (hd.out _).mono ?_; rintro e w2 ⟨rfl, hb2⟩; have hB2 := Lib.hid (below_then hb1 hb2))
        | (go_at_call 6; (with_reducible refine (hn.out _).mono ?_); rintro e w3 ⟨rfl, hP3, hb3⟩; have hP := Lib.hid hP3; have hB3 := Lib.hid (below_then hB2.out hb3); clear hP3)
        | (go_at_call 8; refine (awake15_any _).mono ?_; rintro e w4 ⟨rfl, hb4⟩; have hB4 := Lib.hid (below_then hB3.out hb4); obtain ⟨y1, y2, y3, y4, y5, y6⟩ := hs.out.later (below_then hB3.out hb4); simp only at y1 y2 y3 y4 y5 y6)
        | (go_at_call 11; refine (hh.out _).mono ?_; rintro e w5 ⟨rfl, hb5⟩; have hB5 := Lib.hid (below_then hB4.out hb5))
        | (go_at_call 16; (with_reducible refine (list_nil _).mono ?_); rintro e w' ⟨rfl, hw⟩; subst hw)
        | (go_at_call 16; refine (list15_any _ _ _ [] _ (hP.out.later (below_then hb4 hb5)) (by decide)).mono ?_; rintro e w7 ⟨v7, rfl, hO7, hb7⟩; obtain ⟨A7, c7, rfl, _⟩ := hO7.eds; have hl7 : ([] : List Ent).length = 0 := rfl; rw [hl7]; clear hO7))
      go_ret
      exact ⟨ret_bool (by simp <;> omega), below_then hb0.out (below_then hB5.out hb7)⟩
end Go.Proofs.Ythojnhdnflakiaa
