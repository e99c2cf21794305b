/-
  The walk of the statement DeltaTakes: for any bytes, any place and any headers it returns true, and nothing that was there is changed.
-/
import Derived.Test.YtkjnpdnihfohoaaDelWords
namespace Go.Proofs.Ytkjnpdnihfohoaa
open Go.RowKit Go.Lib Go.Maps Go.WideMaps Leb

set_option maxHeartbeats 32000000 in
set_option maxRecDepth 100000 in
theorem deltaTakes_law (A : Option Addr) (n c : Nat) (X : List Int) (p : Int) (_hp : p ≤ 9223372036854775807) (Aw : Option Addr) (nw cw : Nat) (was : List Hd) (w : World) (hX : Holds w A n c X) (hw : Hds w Aw nw cw was) (hs : Fits was) :
    Calls Try.prog 4 #[.slice A n c, .int .i64 p, .slice Aw nw cw] w fun e w' => e = .returned (.bool true) ∧ Below w.heap.size w w' := by
  have hX' := Lib.hid hX
  have hw' := Lib.hid hw
  have hs' := Lib.hid (hs.mono (B' := 9223372036854775807) (by omega))
  have hcap := hX.cap
  have hroom := hX.room
  unfold maxLen at hroom
  have hfl := fewH_len was
  obtain ⟨LW, hLW⟩ : ∃ LW, LW = fewH was := ⟨_, rfl⟩
  rw [← hLW] at hfl
  have hLW' := Lib.hid hLW.symm
  have tok1 : True := trivial
  have tok2 : True := trivial
  clear hX hw hs hLW
  go_enter Try.func4, Try.ntmps4
  by_cases h3 : 3000 < n
  · have hXn := hX'.out.cell (by omega)
    obtain ⟨gX, oX, rfl, _⟩ := hXn
    have hd3 : decide ((3000 : Int) < (n : Int)) = true := decide_eq_true (by omega)
    have hX3 := Lib.hid (hX'.out.front (k := 3000) (by omega))
    have hc3 : 3000 ≤ c := by omega
    clear hX'
    obtain ⟨r9, hr9⟩ : ∃ r, r = dtake [] (X.take 3000) p LW := ⟨_, rfl⟩
    have hr9' := Lib.hid hr9
    obtain ⟨⟨L, q9, e9⟩, T9⟩ := r9
    clear hr9
    go_wp2_with (first
      | (go_at_call 7; refine (newP_any w).mono ?_; rintro e w1 ⟨b1, S1, rfl, hp1, hlo1, hb1⟩; have hD2 := Lib.hid (duo_new20 hp1 hlo1 hb1); have hB2 := Lib.hid (hb1.alloc hb1.size (.cells #[.slice Option.none 0 0] 33)); clear hp1 hlo1 hb1)
      | (go_at_call 8; have _t := tok1; refine (few20_any Aw nw cw was _ (hw'.out.later hB2.out) hs'.out).mono ?_; rintro e w3 ⟨v3, rfl, ho3, hb3⟩; have hD3 := Lib.hid (hD2.out.later hb3); have hB3 := Lib.hid (hB2.out.trans (hb3.mono hB2.out.size)); rw [hLW'.out] at ho3; obtain ⟨A3, m3, c3, rfl, hm3, hH3⟩ := ho3.hds'; have hlen3 := Lib.hid (show m3 ≤ 24 by rw [hm3.out]; exact hfl); have hH3' := Lib.hid hH3; have hOf3 := Lib.hid (show Off S1 A3 m3 from by have hof := ho3.off hD2.out.p.low; exact hof.off); clear ho3 hb3 hH3 hm3 tok1)
      | (go_at_call 10; refine (dtake20_any b1 [] S1 _ 3000 c (X.take 3000) p A3 m3 c3 LW w3 hD3.out.p (by simp) (hX3.out.later hB3.out) (by omega) hH3'.out (by have := hlen3.out; omega) hOf3.out (off_args hX3.out hD3.out.lo1)).mono ?_; rintro e w4 ⟨v4, S4, rfl, ho4, hs4⟩; rw [← hr9'.out] at ho4 hs4; have hD4 := Lib.hid (hD3.out.stepP hs4 hB3.out.size); have hB4 := Lib.hid (below_step hB3.out hs4 hB3.out.size hD3.out.lo1); have hO4 := Lib.hid (HwO.lo ho4 hD3.out.r.low); rw [← hr9'.out]; clear ho4 hs4)
      | (go_at_call 8; have _t := tok2; refine (few20_any Aw nw cw was _ (hw'.out.later hB4.out) hs'.out).mono ?_; rintro e w5 ⟨v5, rfl, ho5, hb5⟩; have hD5 := Lib.hid (hD4.out.later hb5); have hB5 := Lib.hid (hB4.out.trans (hb5.mono hB4.out.size)); have hO5 := Lib.hid (hO4.out.later hb5); rw [hLW'.out] at ho5; obtain ⟨A5, m5, c5, rfl, hm5, hH5⟩ := ho5.hds'; have hlen5 := Lib.hid (show m5 ≤ 24 by rw [hm5.out]; exact hfl); have hH5' := Lib.hid hH5; have hOf5 := Lib.hid (show Off (fun k => k = w1.heap.size) A5 m5 from by have hof := ho5.off hD4.out.r.low; exact hof.off); clear ho5 hb5 hH5 hm5 tok2)
      | (go_at_call 11; refine (refDtake_any w1.heap.size [] _ _ 3000 c (X.take 3000) p A5 m5 c5 LW w5 hD5.out.r (by simp) (hX3.out.later hB5.out) (by omega) hH5'.out (by have := hlen5.out; omega) hOf5.out (off_args hX3.out hD5.out.lo2)).mono ?_; rintro e w8 ⟨v6, S6, rfl, ho6, hs6⟩; rw [← hr9'.out] at ho6 hs6; have hD := Lib.hid (hD5.out.stepR hs6 hB5.out.size); have hB8 := Lib.hid (below_stepR hB5.out hs6 hB5.out.size hD5.out.lo2); have hO8 := Lib.hid (hO5.out.step hs6.alt hs6.new); rw [← hr9'.out]; obtain ⟨A6, m6, c6, rfl, hm6, hL6⟩ := hO8.out.own.hds'; obtain ⟨A8, m8, c8, rfl, hm8, hL8⟩ := ho6.hds'; obtain rfl : m6 = m8 := hm6.out.trans hm8.out.symm; have hL6 := Lib.hid hL6; have hL8 := Lib.hid hL8; obtain ⟨A9, c9, hc⟩ := hD.out.r.list; have hc9 := Lib.hid hc; clear ho6 hs6 hc hm6 hm8))
    refine wp_region_each (RInv 71 [45, 46, 47, 48, 49, 50, 51, 52, 53, 54, 55, 56, 57, 58, 59, 60, 61, 62, 63, 64, 65, 66, 67, 68, 69, 70, 6] _ (dtF A6 A8 m6 c6 c8 q9 e9 b1 w1.heap.size T9.length A9 c9) w8 NoMore) (by kernel_rfl) (by kernel_rfl) (RInv.start rfl trivial (Below.refl _ _).drew) ?_ ?_
    · intro i hi D a wy hI hcl hnd hpre
      have hi' : i < 27 := hi
      have hcase : i = 0 ∨ i = 1 ∨ i = 2 ∨ i = 3 ∨ i = 4 ∨ i = 5 ∨ i = 6 ∨ i = 7 ∨ i = 8 ∨ i = 9 ∨ i = 10 ∨ i = 11 ∨ i = 12 ∨ i = 13 ∨ i = 14 ∨ i = 15 ∨ i = 16 ∨ i = 17 ∨ i = 18 ∨ i = 19 ∨ i = 20 ∨ i = 21 ∨ i = 22 ∨ i = 23 ∨ i = 24 ∨ i = 25 ∨ i = 26 := by omega
      have hF := hI.fact
      rcases hcase with rfl | rfl | rfl | rfl | rfl | rfl | rfl | rfl | rfl | rfl | rfl | rfl | rfl | rfl | rfl | rfl | rfl | rfl | rfl | rfl | rfl | rfl | rfl | rfl | rfl | rfl | rfl
      · exact wpOp_call0 rfl (wanted_free rfl) 5 _ rfl (enters_awake20 _ _) (awake20_any wy) (fun e w' h => ⟨_, h.1, hI.add (by decide) dtF_later (by decide) h.2 rfl⟩)
      · exact wpOp_move rfl (wanted_free rfl) _ rfl _ (hF 0 (hpre 0 (by kernel_rfl))) (hI.add (by decide) dtF_later (by decide) (Below.refl _ _) rfl)
      · have g1 := hF 1 (hpre 1 (by kernel_rfl))
        exact wpOp_move rfl (wanted_by (d := 46) rfl _ rfl rfl g1) _ rfl _ (hI.same 10 (by decide)) (hI.add (by decide) dtF_later (by decide) (Below.refl _ _) rfl)
      · have g1 := hF 1 (hpre 1 (by kernel_rfl))
        exact wpOp_move rfl (wanted_by (d := 46) rfl _ rfl rfl g1) _ rfl _ (hI.same 13 (by decide)) (hI.add (by decide) dtF_later (by decide) (Below.refl _ _) rfl)
      · have g1 := hF 1 (hpre 1 (by kernel_rfl))
        exact wpOp_call2 rfl (wanted_by (d := 46) rfl _ rfl rfl g1) 12 _ _ _ rfl _ _ (hF 2 (hpre 2 (by kernel_rfl))) (hF 3 (hpre 3 (by kernel_rfl))) (enters_same20 _ _) (same9_any A6 A8 m6 m6 c6 c8 L wy (hL6.out.later hI.below) (hL8.out.later hI.below)) (fun e w' h => ⟨_, h.1, hI.add (by decide) dtF_later (by decide) h.2 rfl⟩)
      · exact wpOp_pick rfl (wanted_free rfl) _ _ _ rfl true (hF 1 (hpre 1 (by kernel_rfl))) _ (hF 4 (hpre 4 (by kernel_rfl))) (hI.add (by decide) dtF_later (by decide) (Below.refl _ _) rfl)
      · exact wpOp_move rfl (wanted_free rfl) _ rfl _ (hF 5 (hpre 5 (by kernel_rfl))) (hI.add (by decide) dtF_later (by decide) (Below.refl _ _) rfl)
      · have g6 := hF 6 (hpre 6 (by kernel_rfl))
        exact wpOp_move rfl (wanted_by (d := 51) rfl _ rfl rfl g6) _ rfl _ (hI.same 11 (by decide)) (hI.add (by decide) dtF_later (by decide) (Below.refl _ _) rfl)
      · have g6 := hF 6 (hpre 6 (by kernel_rfl))
        exact wpOp_move rfl (wanted_by (d := 51) rfl _ rfl rfl g6) _ rfl _ (hI.same 14 (by decide)) (hI.add (by decide) dtF_later (by decide) (Below.refl _ _) rfl)
      · have g6 := hF 6 (hpre 6 (by kernel_rfl))
        exact wpOp_bin rfl (wanted_by (d := 51) rfl _ rfl rfl g6) _ _ _ _ _ rfl _ _ _ (hF 7 (hpre 7 (by kernel_rfl))) (hF 8 (hpre 8 (by kernel_rfl))) (run_eqI20 _ _ q9 wy) (hI.add (by decide) dtF_later (by decide) (Below.refl _ _) rfl)
      · exact wpOp_pick rfl (wanted_free rfl) _ _ _ rfl true (hF 6 (hpre 6 (by kernel_rfl))) _ (hF 9 (hpre 9 (by kernel_rfl))) (hI.add (by decide) dtF_later (by decide) (Below.refl _ _) rfl)
      · exact wpOp_move rfl (wanted_free rfl) _ rfl _ (hF 10 (hpre 10 (by kernel_rfl))) (hI.add (by decide) dtF_later (by decide) (Below.refl _ _) rfl)
      · have g11 := hF 11 (hpre 11 (by kernel_rfl))
        exact wpOp_move rfl (wanted_by (d := 56) rfl _ rfl rfl g11) _ rfl _ (hI.same 12 (by decide)) (hI.add (by decide) dtF_later (by decide) (Below.refl _ _) rfl)
      · have g11 := hF 11 (hpre 11 (by kernel_rfl))
        exact wpOp_move rfl (wanted_by (d := 56) rfl _ rfl rfl g11) _ rfl _ (hI.same 15 (by decide)) (hI.add (by decide) dtF_later (by decide) (Below.refl _ _) rfl)
      · have g11 := hF 11 (hpre 11 (by kernel_rfl))
        exact wpOp_bin rfl (wanted_by (d := 56) rfl _ rfl rfl g11) _ _ _ _ _ rfl _ _ _ (hF 12 (hpre 12 (by kernel_rfl))) (hF 13 (hpre 13 (by kernel_rfl))) (run_eqI20 _ _ e9 wy) (hI.add (by decide) dtF_later (by decide) (Below.refl _ _) rfl)
      · exact wpOp_pick rfl (wanted_free rfl) _ _ _ rfl true (hF 11 (hpre 11 (by kernel_rfl))) _ (hF 14 (hpre 14 (by kernel_rfl))) (hI.add (by decide) dtF_later (by decide) (Below.refl _ _) rfl)
      · exact wpOp_move rfl (wanted_free rfl) _ rfl _ (hF 15 (hpre 15 (by kernel_rfl))) (hI.add (by decide) dtF_later (by decide) (Below.refl _ _) rfl)
      · have g16 := hF 16 (hpre 16 (by kernel_rfl))
        exact wpOp_move rfl (wanted_by (d := 61) rfl _ rfl rfl g16) _ rfl _ (hI.same 8 (by decide)) (hI.add (by decide) dtF_later (by decide) (Below.refl _ _) rfl)
      · have g16 := hF 16 (hpre 16 (by kernel_rfl))
        exact wpOp_call1 rfl (wanted_by (d := 61) rfl _ rfl rfl g16) 13 _ _ rfl _ (hF 17 (hpre 17 (by kernel_rfl))) (enters_len20 _ _) (lenP_any b1 T9 _ wy (hD.out.p.later hI.below)) (fun e w' h => ⟨_, h.1, by obtain ⟨_, rfl⟩ := h; exact (hI.add (by decide) dtF_later (by decide) (Below.refl _ _) rfl)⟩)
      · have g16 := hF 16 (hpre 16 (by kernel_rfl))
        exact wpOp_move rfl (wanted_by (d := 61) rfl _ rfl rfl g16) _ rfl _ (hI.same 9 (by decide)) (hI.add (by decide) dtF_later (by decide) (Below.refl _ _) rfl)
      · have g16 := hF 16 (hpre 16 (by kernel_rfl))
        exact wpOp_nil9 rfl (wanted_by (d := 61) rfl _ rfl rfl g16) _ rfl _ (hF 19 (hpre 19 (by kernel_rfl))) (hI.add (by decide) dtF_later (by decide) (Below.refl _ _) rfl)
      · have g16 := hF 16 (hpre 16 (by kernel_rfl))
        exact wpOp_field rfl (wanted_by (d := 61) rfl _ rfl rfl g16) _ _ _ rfl _ _ (hF 20 (hpre 20 (by kernel_rfl))) (run_fieldR20 wy w1.heap.size) (hI.add (by decide) dtF_later (by decide) (Below.refl _ _) rfl)
      · have g16 := hF 16 (hpre 16 (by kernel_rfl))
        exact wpOp_load rfl (wanted_by (d := 61) rfl _ rfl rfl g16) _ _ rfl _ _ (hF 21 (hpre 21 (by kernel_rfl))) (run_loadT1 wy w1.heap.size 0 A9 _ c9 (cell_later hI.below hc9.out)) (hI.add (by decide) dtF_later (by decide) (Below.refl _ _) rfl)
      · have g16 := hF 16 (hpre 16 (by kernel_rfl))
        exact wpOp_len rfl (wanted_by (d := 61) rfl _ rfl rfl g16) _ _ rfl _ Try.underlying31 _ _ _ (hF 22 (hpre 22 (by kernel_rfl))) (hI.add (by decide) dtF_later (by decide) (Below.refl _ _) rfl)
      · have g16 := hF 16 (hpre 16 (by kernel_rfl))
        exact wpOp_bin rfl (wanted_by (d := 61) rfl _ rfl rfl g16) _ _ _ _ _ rfl _ _ _ (hF 18 (hpre 18 (by kernel_rfl))) (hF 23 (hpre 23 (by kernel_rfl))) (run_eqI20 _ _ _ wy) (hI.add (by decide) dtF_later (by decide) (Below.refl _ _) rfl)
      · exact wpOp_pick rfl (wanted_free rfl) _ _ _ rfl true (hF 16 (hpre 16 (by kernel_rfl))) _ (hF 24 (hpre 24 (by kernel_rfl))) (hI.add (by decide) dtF_later (by decide) (Below.refl _ _) rfl)
      · exact wpOp_assign rfl (wanted_free rfl) _ rfl _ (hF 25 (hpre 25 (by kernel_rfl))) (hI.add (by decide) dtF_later (by decide) (Below.refl _ _) rfl)
    · intro D a w9 hI hall
      have e6 : a.eval (.tmp 6) = .bool true := hI.fact 26 (hall 26 (by decide))
      have hd := hI.defs
      have hB9 := Lib.hid hI.below
      clear hI hall
      go_wp2
      refine bodyPost_ret (results_tmp rfl _ _ _) hd ⟨congrArg Ending.returned e6, hB8.out.trans (hB9.out.mono hB8.out.size)⟩
  · have hX3 := hX'
    have hd3 : decide ((3000 : Int) < (n : Int)) = false := decide_eq_false (by omega)
    clear hX'
    obtain ⟨r9, hr9⟩ : ∃ r, r = dtake [] (X) p LW := ⟨_, rfl⟩
    have hr9' := Lib.hid hr9
    obtain ⟨⟨L, q9, e9⟩, T9⟩ := r9
    clear hr9
    go_wp2_with (first
      | (go_at_call 7; refine (newP_any w).mono ?_; rintro e w1 ⟨b1, S1, rfl, hp1, hlo1, hb1⟩; have hD2 := Lib.hid (duo_new20 hp1 hlo1 hb1); have hB2 := Lib.hid (hb1.alloc hb1.size (.cells #[.slice Option.none 0 0] 33)); clear hp1 hlo1 hb1)
      | (go_at_call 8; have _t := tok1; refine (few20_any Aw nw cw was _ (hw'.out.later hB2.out) hs'.out).mono ?_; rintro e w3 ⟨v3, rfl, ho3, hb3⟩; have hD3 := Lib.hid (hD2.out.later hb3); have hB3 := Lib.hid (hB2.out.trans (hb3.mono hB2.out.size)); rw [hLW'.out] at ho3; obtain ⟨A3, m3, c3, rfl, hm3, hH3⟩ := ho3.hds'; have hlen3 := Lib.hid (show m3 ≤ 24 by rw [hm3.out]; exact hfl); have hH3' := Lib.hid hH3; have hOf3 := Lib.hid (show Off S1 A3 m3 from by have hof := ho3.off hD2.out.p.low; exact hof.off); clear ho3 hb3 hH3 hm3 tok1)
      | (go_at_call 10; refine (dtake20_any b1 [] S1 A n c (X) p A3 m3 c3 LW w3 hD3.out.p (by simp) (hX3.out.later hB3.out) (by omega) hH3'.out (by have := hlen3.out; omega) hOf3.out (off_args hX3.out hD3.out.lo1)).mono ?_; rintro e w4 ⟨v4, S4, rfl, ho4, hs4⟩; rw [← hr9'.out] at ho4 hs4; have hD4 := Lib.hid (hD3.out.stepP hs4 hB3.out.size); have hB4 := Lib.hid (below_step hB3.out hs4 hB3.out.size hD3.out.lo1); have hO4 := Lib.hid (HwO.lo ho4 hD3.out.r.low); rw [← hr9'.out]; clear ho4 hs4)
      | (go_at_call 8; have _t := tok2; refine (few20_any Aw nw cw was _ (hw'.out.later hB4.out) hs'.out).mono ?_; rintro e w5 ⟨v5, rfl, ho5, hb5⟩; have hD5 := Lib.hid (hD4.out.later hb5); have hB5 := Lib.hid (hB4.out.trans (hb5.mono hB4.out.size)); have hO5 := Lib.hid (hO4.out.later hb5); rw [hLW'.out] at ho5; obtain ⟨A5, m5, c5, rfl, hm5, hH5⟩ := ho5.hds'; have hlen5 := Lib.hid (show m5 ≤ 24 by rw [hm5.out]; exact hfl); have hH5' := Lib.hid hH5; have hOf5 := Lib.hid (show Off (fun k => k = w1.heap.size) A5 m5 from by have hof := ho5.off hD4.out.r.low; exact hof.off); clear ho5 hb5 hH5 hm5 tok2)
      | (go_at_call 11; refine (refDtake_any w1.heap.size [] _ A n c (X) p A5 m5 c5 LW w5 hD5.out.r (by simp) (hX3.out.later hB5.out) (by omega) hH5'.out (by have := hlen5.out; omega) hOf5.out (off_args hX3.out hD5.out.lo2)).mono ?_; rintro e w8 ⟨v6, S6, rfl, ho6, hs6⟩; rw [← hr9'.out] at ho6 hs6; have hD := Lib.hid (hD5.out.stepR hs6 hB5.out.size); have hB8 := Lib.hid (below_stepR hB5.out hs6 hB5.out.size hD5.out.lo2); have hO8 := Lib.hid (hO5.out.step hs6.alt hs6.new); rw [← hr9'.out]; obtain ⟨A6, m6, c6, rfl, hm6, hL6⟩ := hO8.out.own.hds'; obtain ⟨A8, m8, c8, rfl, hm8, hL8⟩ := ho6.hds'; obtain rfl : m6 = m8 := hm6.out.trans hm8.out.symm; have hL6 := Lib.hid hL6; have hL8 := Lib.hid hL8; obtain ⟨A9, c9, hc⟩ := hD.out.r.list; have hc9 := Lib.hid hc; clear ho6 hs6 hc hm6 hm8))
    refine wp_region_each (RInv 71 [45, 46, 47, 48, 49, 50, 51, 52, 53, 54, 55, 56, 57, 58, 59, 60, 61, 62, 63, 64, 65, 66, 67, 68, 69, 70, 6] _ (dtF A6 A8 m6 c6 c8 q9 e9 b1 w1.heap.size T9.length A9 c9) w8 NoMore) (by kernel_rfl) (by kernel_rfl) (RInv.start rfl trivial (Below.refl _ _).drew) ?_ ?_
    · intro i hi D a wy hI hcl hnd hpre
      have hi' : i < 27 := hi
      have hcase : i = 0 ∨ i = 1 ∨ i = 2 ∨ i = 3 ∨ i = 4 ∨ i = 5 ∨ i = 6 ∨ i = 7 ∨ i = 8 ∨ i = 9 ∨ i = 10 ∨ i = 11 ∨ i = 12 ∨ i = 13 ∨ i = 14 ∨ i = 15 ∨ i = 16 ∨ i = 17 ∨ i = 18 ∨ i = 19 ∨ i = 20 ∨ i = 21 ∨ i = 22 ∨ i = 23 ∨ i = 24 ∨ i = 25 ∨ i = 26 := by omega
      have hF := hI.fact
      rcases hcase with rfl | rfl | rfl | rfl | rfl | rfl | rfl | rfl | rfl | rfl | rfl | rfl | rfl | rfl | rfl | rfl | rfl | rfl | rfl | rfl | rfl | rfl | rfl | rfl | rfl | rfl | rfl
      · exact wpOp_call0 rfl (wanted_free rfl) 5 _ rfl (enters_awake20 _ _) (awake20_any wy) (fun e w' h => ⟨_, h.1, hI.add (by decide) dtF_later (by decide) h.2 rfl⟩)
      · exact wpOp_move rfl (wanted_free rfl) _ rfl _ (hF 0 (hpre 0 (by kernel_rfl))) (hI.add (by decide) dtF_later (by decide) (Below.refl _ _) rfl)
      · have g1 := hF 1 (hpre 1 (by kernel_rfl))
        exact wpOp_move rfl (wanted_by (d := 46) rfl _ rfl rfl g1) _ rfl _ (hI.same 10 (by decide)) (hI.add (by decide) dtF_later (by decide) (Below.refl _ _) rfl)
      · have g1 := hF 1 (hpre 1 (by kernel_rfl))
        exact wpOp_move rfl (wanted_by (d := 46) rfl _ rfl rfl g1) _ rfl _ (hI.same 13 (by decide)) (hI.add (by decide) dtF_later (by decide) (Below.refl _ _) rfl)
      · have g1 := hF 1 (hpre 1 (by kernel_rfl))
        exact wpOp_call2 rfl (wanted_by (d := 46) rfl _ rfl rfl g1) 12 _ _ _ rfl _ _ (hF 2 (hpre 2 (by kernel_rfl))) (hF 3 (hpre 3 (by kernel_rfl))) (enters_same20 _ _) (same9_any A6 A8 m6 m6 c6 c8 L wy (hL6.out.later hI.below) (hL8.out.later hI.below)) (fun e w' h => ⟨_, h.1, hI.add (by decide) dtF_later (by decide) h.2 rfl⟩)
      · exact wpOp_pick rfl (wanted_free rfl) _ _ _ rfl true (hF 1 (hpre 1 (by kernel_rfl))) _ (hF 4 (hpre 4 (by kernel_rfl))) (hI.add (by decide) dtF_later (by decide) (Below.refl _ _) rfl)
      · exact wpOp_move rfl (wanted_free rfl) _ rfl _ (hF 5 (hpre 5 (by kernel_rfl))) (hI.add (by decide) dtF_later (by decide) (Below.refl _ _) rfl)
      · have g6 := hF 6 (hpre 6 (by kernel_rfl))
        exact wpOp_move rfl (wanted_by (d := 51) rfl _ rfl rfl g6) _ rfl _ (hI.same 11 (by decide)) (hI.add (by decide) dtF_later (by decide) (Below.refl _ _) rfl)
      · have g6 := hF 6 (hpre 6 (by kernel_rfl))
        exact wpOp_move rfl (wanted_by (d := 51) rfl _ rfl rfl g6) _ rfl _ (hI.same 14 (by decide)) (hI.add (by decide) dtF_later (by decide) (Below.refl _ _) rfl)
      · have g6 := hF 6 (hpre 6 (by kernel_rfl))
        exact wpOp_bin rfl (wanted_by (d := 51) rfl _ rfl rfl g6) _ _ _ _ _ rfl _ _ _ (hF 7 (hpre 7 (by kernel_rfl))) (hF 8 (hpre 8 (by kernel_rfl))) (run_eqI20 _ _ q9 wy) (hI.add (by decide) dtF_later (by decide) (Below.refl _ _) rfl)
      · exact wpOp_pick rfl (wanted_free rfl) _ _ _ rfl true (hF 6 (hpre 6 (by kernel_rfl))) _ (hF 9 (hpre 9 (by kernel_rfl))) (hI.add (by decide) dtF_later (by decide) (Below.refl _ _) rfl)
      · exact wpOp_move rfl (wanted_free rfl) _ rfl _ (hF 10 (hpre 10 (by kernel_rfl))) (hI.add (by decide) dtF_later (by decide) (Below.refl _ _) rfl)
      · have g11 := hF 11 (hpre 11 (by kernel_rfl))
        exact wpOp_move rfl (wanted_by (d := 56) rfl _ rfl rfl g11) _ rfl _ (hI.same 12 (by decide)) (hI.add (by decide) dtF_later (by decide) (Below.refl _ _) rfl)
      · have g11 := hF 11 (hpre 11 (by kernel_rfl))
        exact wpOp_move rfl (wanted_by (d := 56) rfl _ rfl rfl g11) _ rfl _ (hI.same 15 (by decide)) (hI.add (by decide) dtF_later (by decide) (Below.refl _ _) rfl)
      · have g11 := hF 11 (hpre 11 (by kernel_rfl))
        exact wpOp_bin rfl (wanted_by (d := 56) rfl _ rfl rfl g11) _ _ _ _ _ rfl _ _ _ (hF 12 (hpre 12 (by kernel_rfl))) (hF 13 (hpre 13 (by kernel_rfl))) (run_eqI20 _ _ e9 wy) (hI.add (by decide) dtF_later (by decide) (Below.refl _ _) rfl)
      · exact wpOp_pick rfl (wanted_free rfl) _ _ _ rfl true (hF 11 (hpre 11 (by kernel_rfl))) _ (hF 14 (hpre 14 (by kernel_rfl))) (hI.add (by decide) dtF_later (by decide) (Below.refl _ _) rfl)
      · exact wpOp_move rfl (wanted_free rfl) _ rfl _ (hF 15 (hpre 15 (by kernel_rfl))) (hI.add (by decide) dtF_later (by decide) (Below.refl _ _) rfl)
      · have g16 := hF 16 (hpre 16 (by kernel_rfl))
        exact wpOp_move rfl (wanted_by (d := 61) rfl _ rfl rfl g16) _ rfl _ (hI.same 8 (by decide)) (hI.add (by decide) dtF_later (by decide) (Below.refl _ _) rfl)
      · have g16 := hF 16 (hpre 16 (by kernel_rfl))
        exact wpOp_call1 rfl (wanted_by (d := 61) rfl _ rfl rfl g16) 13 _ _ rfl _ (hF 17 (hpre 17 (by kernel_rfl))) (enters_len20 _ _) (lenP_any b1 T9 _ wy (hD.out.p.later hI.below)) (fun e w' h => ⟨_, h.1, by obtain ⟨_, rfl⟩ := h; exact (hI.add (by decide) dtF_later (by decide) (Below.refl _ _) rfl)⟩)
      · have g16 := hF 16 (hpre 16 (by kernel_rfl))
        exact wpOp_move rfl (wanted_by (d := 61) rfl _ rfl rfl g16) _ rfl _ (hI.same 9 (by decide)) (hI.add (by decide) dtF_later (by decide) (Below.refl _ _) rfl)
      · have g16 := hF 16 (hpre 16 (by kernel_rfl))
        exact wpOp_nil9 rfl (wanted_by (d := 61) rfl _ rfl rfl g16) _ rfl _ (hF 19 (hpre 19 (by kernel_rfl))) (hI.add (by decide) dtF_later (by decide) (Below.refl _ _) rfl)
      · have g16 := hF 16 (hpre 16 (by kernel_rfl))
        exact wpOp_field rfl (wanted_by (d := 61) rfl _ rfl rfl g16) _ _ _ rfl _ _ (hF 20 (hpre 20 (by kernel_rfl))) (run_fieldR20 wy w1.heap.size) (hI.add (by decide) dtF_later (by decide) (Below.refl _ _) rfl)
      · have g16 := hF 16 (hpre 16 (by kernel_rfl))
        exact wpOp_load rfl (wanted_by (d := 61) rfl _ rfl rfl g16) _ _ rfl _ _ (hF 21 (hpre 21 (by kernel_rfl))) (run_loadT1 wy w1.heap.size 0 A9 _ c9 (cell_later hI.below hc9.out)) (hI.add (by decide) dtF_later (by decide) (Below.refl _ _) rfl)
      · have g16 := hF 16 (hpre 16 (by kernel_rfl))
        exact wpOp_len rfl (wanted_by (d := 61) rfl _ rfl rfl g16) _ _ rfl _ Try.underlying31 _ _ _ (hF 22 (hpre 22 (by kernel_rfl))) (hI.add (by decide) dtF_later (by decide) (Below.refl _ _) rfl)
      · have g16 := hF 16 (hpre 16 (by kernel_rfl))
        exact wpOp_bin rfl (wanted_by (d := 61) rfl _ rfl rfl g16) _ _ _ _ _ rfl _ _ _ (hF 18 (hpre 18 (by kernel_rfl))) (hF 23 (hpre 23 (by kernel_rfl))) (run_eqI20 _ _ _ wy) (hI.add (by decide) dtF_later (by decide) (Below.refl _ _) rfl)
      · exact wpOp_pick rfl (wanted_free rfl) _ _ _ rfl true (hF 16 (hpre 16 (by kernel_rfl))) _ (hF 24 (hpre 24 (by kernel_rfl))) (hI.add (by decide) dtF_later (by decide) (Below.refl _ _) rfl)
      · exact wpOp_assign rfl (wanted_free rfl) _ rfl _ (hF 25 (hpre 25 (by kernel_rfl))) (hI.add (by decide) dtF_later (by decide) (Below.refl _ _) rfl)
    · intro D a w9 hI hall
      have e6 : a.eval (.tmp 6) = .bool true := hI.fact 26 (hall 26 (by decide))
      have hd := hI.defs
      have hB9 := Lib.hid hI.below
      clear hI hall
      go_wp2
      refine bodyPost_ret (results_tmp rfl _ _ _) hd ⟨congrArg Ending.returned e6, hB8.out.trans (hB9.out.mono hB8.out.size)⟩
end Go.Proofs.Ytkjnpdnihfohoaa
