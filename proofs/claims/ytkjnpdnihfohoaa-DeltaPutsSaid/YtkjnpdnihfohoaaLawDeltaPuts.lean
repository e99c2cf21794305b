/-
  The walk of the statement DeltaPuts: for any bytes and any headers it returns true, and nothing that was there is changed.
-/
import Derived.Test.YtkjnpdnihfohoaaDelPutsX
namespace Go.Proofs.Ytkjnpdnihfohoaa
open Go.RowKit Go.Lib Go.Maps Go.WideMaps Leb

set_option maxHeartbeats 32000000 in
set_option maxRecDepth 100000 in
theorem deltaPuts_law (A : Option Addr) (n c : Nat) (X : List Int) (Aw : Option Addr) (nw cw : Nat) (was : List Hd) (Al : Option Addr) (nl cl : Nat) (list : List Hd) (w : World) (hX : Holds w A n c X) (hw0 : Hds w Aw nw cw was) (hws0 : Fits was) (hl0 : Hds w Al nl cl list) (hls0 : Fits list) :
    Calls Try.prog 3 #[.slice A n c, .slice Aw nw cw, .slice Al nl cl] w fun e w' => e = .returned (.bool true) ∧ Below w.heap.size w w' := by
  have hX' := Lib.hid hX
  have hw := Lib.hid hw0
  have hl := Lib.hid hl0
  have hws := Lib.hid (hws0.mono (B' := 9223372036854775807) (by omega))
  have hls := Lib.hid (hls0.mono (B' := 9223372036854775807) (by omega))
  have hcap := hX.cap
  have hroom := hX.room
  unfold maxLen at hroom
  have hwN := Lib.hid (fewH_len was)
  have hlN := Lib.hid (fewH_len list)
  have hshort := Lib.hid (fewH_short list)
  obtain ⟨lw, hlw⟩ : ∃ lw, lw = fewH was := ⟨_, rfl⟩
  obtain ⟨ll, hll⟩ : ∃ ll, ll = fewH list := ⟨_, rfl⟩
  rw [← hlw] at hwN
  rw [← hll] at hlN hshort
  have hwL := Lib.hid hlw.symm
  have hlL := Lib.hid hll.symm
  clear hX hw0 hws0 hl0 hls0 hlw hll
  go_enter Try.func3, Try.ntmps3
  by_cases h3 : 100 < n
  · have hXn := hX'.out.cell (by omega)
    obtain ⟨gX, oX, rfl, _⟩ := hXn
    have hd3 : decide ((100 : Int) < (n : Int)) = true := decide_eq_true (by omega)
    have hX3 := Lib.hid (hX'.out.front (k := 100) (by omega))
    have hc3 : 100 ≤ c := by omega
    clear hX'
    obtain ⟨Y, hY⟩ : ∃ Y, Y = X.take 100 ++ dputB [] lw ll := ⟨_, rfl⟩
    have hYe := Lib.hid hY
    obtain ⟨z, hz⟩ : ∃ z, z = strOfNums Y := ⟨_, rfl⟩
    have hz' := Lib.hid hz
    clear hY hz
    go_wp2
    refine wp_region_each (RInv 35 [14, 15, 16, 17, 18, 19, 20, 21, 22, 23, 24, 25, 26, 27, 28, 29, 30, 31, 32, 33, 34, 6] _ (dqF (some ⟨gX, oX, Option.none⟩) 100 c Aw nw cw Al nl cl z) { w with heap := #[] } (DX w lw ll Y)) (by kernel_rfl) (by kernel_rfl) (RInv.start rfl (dx_start w lw ll Y _) (below_none0 (Below.refl _ _).drew)) ?_ ?_
    · intro i hi D a wy hI hcl hnd hpre
      have hi' : i < 22 := hi
      have hcase : i = 0 ∨ i = 1 ∨ i = 2 ∨ i = 3 ∨ i = 4 ∨ i = 5 ∨ i = 6 ∨ i = 7 ∨ i = 8 ∨ i = 9 ∨ i = 10 ∨ i = 11 ∨ i = 12 ∨ i = 13 ∨ i = 14 ∨ i = 15 ∨ i = 16 ∨ i = 17 ∨ i = 18 ∨ i = 19 ∨ i = 20 ∨ i = 21 := by omega
      have hF := hI.fact
      rcases hcase with rfl | rfl | rfl | rfl | rfl | rfl | rfl | rfl | rfl | rfl | rfl | rfl | rfl | rfl | rfl | rfl | rfl | rfl | rfl | rfl | rfl | rfl
      · exact wpOp_call0 rfl (wanted_free rfl) 5 _ rfl (enters_awake20 _ _) (awake20_any wy) (fun e w' h => ⟨_, h.1, hI.put (by decide) (by decide) (fun j _ _ h => dqF_any h) rfl (hI.more.calm _ h.2 (by decide) (by decide)) (below_none20 hI.below (alt_below h.2 fun _ => False))⟩)
      · exact wpOp_move rfl (wanted_free rfl) _ rfl _ (hF 0 (hpre 0 (by kernel_rfl))) (hI.put (by decide) (by decide) (fun j _ _ h => dqF_any h) rfl (hI.more.pure _ (by decide) (by decide)) hI.below)
      · have g1 := hF 1 (hpre 1 (by kernel_rfl))
        exact wpOp_move rfl (wanted_by (d := 15) rfl _ rfl rfl g1) _ rfl _ (hI.same 7 (by decide)) (hI.put (by decide) (by decide) (fun j _ _ h => dqF_any h) rfl (hI.more.pure _ (by decide) (by decide)) hI.below)
      · have g1 := hF 1 (hpre 1 (by kernel_rfl))
        obtain ⟨S1, S2, hC⟩ := hI.more
        exact wpOp_call0 rfl (wanted_by (d := 15) rfl _ rfl rfl g1) 7 _ rfl (enters_new20 _ _) (newP_any wy) (fun e w' h => by
          obtain ⟨b, S, rfl, hp, hlo, hb⟩ := h
          exact ⟨_, rfl, hI.put (by decide) (by decide) (fun j _ _ h => dqF_any h) trivial ⟨S, S2, hC.new (by rw [hI.size]; decide) hb hp hlo⟩ (below_none20 hI.below (alt_below hb fun _ => False))⟩)
      · have g1 := hF 1 (hpre 1 (by kernel_rfl))
        exact wpOp_move rfl (wanted_by (d := 15) rfl _ rfl rfl g1) _ rfl _ (hI.same 1 (by decide)) (hI.put (by decide) (by decide) (fun j _ _ h => dqF_any h) rfl (hI.more.pure _ (by decide) (by decide)) hI.below)
      · have g1 := hF 1 (hpre 1 (by kernel_rfl))
        obtain ⟨S1, S2, hC⟩ := hI.more
        exact wpOp_call1 rfl (wanted_by (d := 15) rfl _ rfl rfl g1) 8 _ _ rfl _ (hF 4 (hpre 4 (by kernel_rfl))) (enters_few20 _ _) (few20_any Aw nw cw was wy (hw.out.later hC.below) hws.out) (fun e w' h => by
          obtain ⟨v, rfl, ho, hb⟩ := h
          rw [hwL.out] at ho
          exact ⟨_, rfl, hI.put (by decide) (by decide) (fun j _ _ h => dqF_any h) trivial ⟨S1, S2, hC.few (i := 5) (s := 19) (l := lw) (by simp [HL]) (by rw [hI.size]; decide) hb ho hwN.out⟩ (below_none20 hI.below (alt_below hb fun _ => False))⟩)
      · have g1 := hF 1 (hpre 1 (by kernel_rfl))
        exact wpOp_move rfl (wanted_by (d := 15) rfl _ rfl rfl g1) _ rfl _ (hI.same 2 (by decide)) (hI.put (by decide) (by decide) (fun j _ _ h => dqF_any h) rfl (hI.more.pure _ (by decide) (by decide)) hI.below)
      · have g1 := hF 1 (hpre 1 (by kernel_rfl))
        obtain ⟨S1, S2, hC⟩ := hI.more
        exact wpOp_call1 rfl (wanted_by (d := 15) rfl _ rfl rfl g1) 8 _ _ rfl _ (hF 6 (hpre 6 (by kernel_rfl))) (enters_few20 _ _) (few20_any Al nl cl list wy (hl.out.later hC.below) hls.out) (fun e w' h => by
          obtain ⟨v, rfl, ho, hb⟩ := h
          rw [hlL.out] at ho
          exact ⟨_, rfl, hI.put (by decide) (by decide) (fun j _ _ h => dqF_any h) trivial ⟨S1, S2, hC.few (i := 7) (s := 21) (l := ll) (by simp [HL]) (by rw [hI.size]; decide) hb ho hlN.out⟩ (below_none20 hI.below (alt_below hb fun _ => False))⟩)
      · have g1 := hF 1 (hpre 1 (by kernel_rfl))
        obtain ⟨S1, S2, hC⟩ := hI.more
        obtain ⟨b, eb, hp⟩ := hC.t1 (hpre 3 (by kernel_rfl)) hnd
        obtain ⟨A5, m5, c5, e5, hm5, hH5, _, _⟩ := hC.hs (5, 19, lw) (by simp [HL]) (hpre 5 (by kernel_rfl))
        obtain ⟨A7, m7, c7, e7, hm7, hH7, ho7, _⟩ := hC.hs (7, 21, ll) (by simp [HL]) (hpre 7 (by kernel_rfl))
        have hcall := dput_any b [] S1 _ _ _ _ A5 m5 c5 lw A7 m7 c7 ll wy hp (by simp) (hX3.out.later hC.below) (by omega) hH5 hH7 ho7 (by omega) (by omega) hshort.out
        rw [← hYe.out] at hcall
        exact wpOp_call4d rfl (wanted_by (d := 15) rfl _ rfl rfl g1) 6 _ _ _ _ _ rfl _ _ _ _ (hF 2 (hpre 2 (by kernel_rfl))) eb e5 e7 (enters_put20 _ _) hcall (fun e w' h => by
          obtain ⟨r, S', rfl, hown, hof, hst⟩ := h
          exact ⟨_, rfl, hI.put (by decide) (by decide) (fun j _ _ h => dqF_any h) trivial ⟨S', S2, hC.put (by rw [hI.size]; decide) hown hof hst⟩ (below_none20 hI.below hst.alt)⟩)
      · have g1 := hF 1 (hpre 1 (by kernel_rfl))
        obtain ⟨S1, S2, hC⟩ := hI.more
        obtain ⟨A5, m5, c5, e5, hY5, _, _⟩ := hC.bs (8, 22) (by decide) (hpre 8 (by kernel_rfl))
        have ht := run_text (P := Try.prog) 22 9 5 Try.underlying22 Try.underlying5 Try.underlying9 hY5
        rw [← hz'.out] at ht
        exact wpOp_convert rfl (wanted_by (d := 15) rfl _ rfl rfl g1) _ _ _ rfl _ _ e5 ht (hI.put (by decide) (by decide) (fun j _ _ h => dqF_any h) rfl (DX.pure ⟨S1, S2, hC⟩ _ (by decide) (by decide)) hI.below)
      · have g1 := hF 1 (hpre 1 (by kernel_rfl))
        exact wpOp_move rfl (wanted_by (d := 15) rfl _ rfl rfl g1) _ rfl _ (hI.same 7 (by decide)) (hI.put (by decide) (by decide) (fun j _ _ h => dqF_any h) rfl (hI.more.pure _ (by decide) (by decide)) hI.below)
      · have g1 := hF 1 (hpre 1 (by kernel_rfl))
        exact wpOp_agg rfl (wanted_by (d := 15) rfl _ rfl rfl g1) _ _ rfl #[] (by simp) _ (run_buildT wy) (hI.put (by decide) (by decide) (fun j _ _ h => dqF_any h) rfl (hI.more.pure _ (by decide) (by decide)) hI.below)
      · have g1 := hF 1 (hpre 1 (by kernel_rfl))
        obtain ⟨S1, S2, hC⟩ := hI.more
        exact wpOp_box rfl (wanted_by (d := 15) rfl _ rfl rfl g1) _ _ rfl _ _ _ (show a.eval (.tmp 25) = _ from hF 11 (hpre 11 (by kernel_rfl))) (run_boxT wy) (hI.put (by decide) (by decide) (fun j _ _ h => dqF_any h) trivial ⟨S1, _, hC.box (by rw [hI.size]; decide)⟩ (below_none20 hI.below (alt_below (below_box wy _) fun _ => False)))
      · have g1 := hF 1 (hpre 1 (by kernel_rfl))
        exact wpOp_move rfl (wanted_by (d := 15) rfl _ rfl rfl g1) _ rfl _ (hI.same 1 (by decide)) (hI.put (by decide) (by decide) (fun j _ _ h => dqF_any h) rfl (hI.more.pure _ (by decide) (by decide)) hI.below)
      · have g1 := hF 1 (hpre 1 (by kernel_rfl))
        obtain ⟨S1, S2, hC⟩ := hI.more
        exact wpOp_call1 rfl (wanted_by (d := 15) rfl _ rfl rfl g1) 8 _ _ rfl _ (hF 13 (hpre 13 (by kernel_rfl))) (enters_few20 _ _) (few20_any Aw nw cw was wy (hw.out.later hC.below) hws.out) (fun e w' h => by
          obtain ⟨v, rfl, ho, hb⟩ := h
          rw [hwL.out] at ho
          exact ⟨_, rfl, hI.put (by decide) (by decide) (fun j _ _ h => dqF_any h) trivial ⟨S1, S2, hC.few (i := 14) (s := 28) (l := lw) (by simp [HL]) (by rw [hI.size]; decide) hb ho hwN.out⟩ (below_none20 hI.below (alt_below hb fun _ => False))⟩)
      · have g1 := hF 1 (hpre 1 (by kernel_rfl))
        exact wpOp_move rfl (wanted_by (d := 15) rfl _ rfl rfl g1) _ rfl _ (hI.same 2 (by decide)) (hI.put (by decide) (by decide) (fun j _ _ h => dqF_any h) rfl (hI.more.pure _ (by decide) (by decide)) hI.below)
      · have g1 := hF 1 (hpre 1 (by kernel_rfl))
        obtain ⟨S1, S2, hC⟩ := hI.more
        exact wpOp_call1 rfl (wanted_by (d := 15) rfl _ rfl rfl g1) 8 _ _ rfl _ (hF 15 (hpre 15 (by kernel_rfl))) (enters_few20 _ _) (few20_any Al nl cl list wy (hl.out.later hC.below) hls.out) (fun e w' h => by
          obtain ⟨v, rfl, ho, hb⟩ := h
          rw [hlL.out] at ho
          exact ⟨_, rfl, hI.put (by decide) (by decide) (fun j _ _ h => dqF_any h) trivial ⟨S1, S2, hC.few (i := 16) (s := 30) (l := ll) (by simp [HL]) (by rw [hI.size]; decide) hb ho hlN.out⟩ (below_none20 hI.below (alt_below hb fun _ => False))⟩)
      · have g1 := hF 1 (hpre 1 (by kernel_rfl))
        obtain ⟨S1, S2, hC⟩ := hI.more
        obtain ⟨b, eb, hp⟩ := hC.t2 (hpre 12 (by kernel_rfl)) hnd
        obtain ⟨A5, m5, c5, e5, hm5, hH5, _, _⟩ := hC.hs (14, 28, lw) (by simp [HL]) (hpre 14 (by kernel_rfl))
        obtain ⟨A7, m7, c7, e7, hm7, hH7, _, ho7⟩ := hC.hs (16, 30, ll) (by simp [HL]) (hpre 16 (by kernel_rfl))
        have hcall := refDput_any b [] S2 _ _ _ _ A5 m5 c5 lw A7 m7 c7 ll wy hp (by simp) (hX3.out.later hC.below) (by omega) hH5 hH7 ho7 (by omega) (by omega) hshort.out
        rw [← hYe.out] at hcall
        exact wpOp_call4d rfl (wanted_by (d := 15) rfl _ rfl rfl g1) 9 _ _ _ _ _ rfl _ _ _ _ (hF 10 (hpre 10 (by kernel_rfl))) eb e5 e7 (enters_rput20 _ _) hcall (fun e w' h => by
          obtain ⟨r, S', rfl, hown, hof, hst⟩ := h
          exact ⟨_, rfl, hI.put (by decide) (by decide) (fun j _ _ h => dqF_any h) trivial ⟨S1, S', hC.rput (by rw [hI.size]; decide) hown hof hst⟩ (below_none20 hI.below hst.alt)⟩)
      · have g1 := hF 1 (hpre 1 (by kernel_rfl))
        obtain ⟨S1, S2, hC⟩ := hI.more
        obtain ⟨A5, m5, c5, e5, hY5, _, _⟩ := hC.bs (17, 31) (by decide) (hpre 17 (by kernel_rfl))
        have ht := run_text (P := Try.prog) 22 9 5 Try.underlying22 Try.underlying5 Try.underlying9 hY5
        rw [← hz'.out] at ht
        exact wpOp_convert rfl (wanted_by (d := 15) rfl _ rfl rfl g1) _ _ _ rfl _ _ e5 ht (hI.put (by decide) (by decide) (fun j _ _ h => dqF_any h) rfl (DX.pure ⟨S1, S2, hC⟩ _ (by decide) (by decide)) hI.below)
      · have g1 := hF 1 (hpre 1 (by kernel_rfl))
        exact wpOp_bin rfl (wanted_by (d := 15) rfl _ rfl rfl g1) _ _ _ _ _ rfl _ _ _ (hF 9 (hpre 9 (by kernel_rfl))) (hF 18 (hpre 18 (by kernel_rfl))) (run_eqS20 _ _ z wy) (hI.put (by decide) (by decide) (fun j _ _ h => dqF_any h) rfl (hI.more.pure _ (by decide) (by decide)) hI.below)
      · exact wpOp_pick rfl (wanted_free rfl) _ _ _ rfl true (hF 1 (hpre 1 (by kernel_rfl))) _ (hF 19 (hpre 19 (by kernel_rfl))) (hI.put (by decide) (by decide) (fun j _ _ h => dqF_any h) rfl (hI.more.pure _ (by decide) (by decide)) hI.below)
      · exact wpOp_assign rfl (wanted_free rfl) _ rfl _ (hF 20 (hpre 20 (by kernel_rfl))) (hI.put (by decide) (by decide) (fun j _ _ h => dqF_any h) rfl (hI.more.pure _ (by decide) (by decide)) hI.below)
    · intro D a w9 hI hall
      have e6 : a.eval (.tmp 6) = .bool true := hI.fact 21 (hall 21 (by decide))
      have hd := hI.defs
      have hB9 := Lib.hid (DX.below hI.more)
      clear hI hall
      go_wp2
      refine bodyPost_ret (results_tmp rfl _ _ _) hd ⟨congrArg Ending.returned e6, hB9.out⟩
  · have hX3 := hX'
    have hd3 : decide ((100 : Int) < (n : Int)) = false := decide_eq_false (by omega)
    clear hX'
    obtain ⟨Y, hY⟩ : ∃ Y, Y = X ++ dputB [] lw ll := ⟨_, rfl⟩
    have hYe := Lib.hid hY
    obtain ⟨z, hz⟩ : ∃ z, z = strOfNums Y := ⟨_, rfl⟩
    have hz' := Lib.hid hz
    clear hY hz
    go_wp2
    refine wp_region_each (RInv 35 [14, 15, 16, 17, 18, 19, 20, 21, 22, 23, 24, 25, 26, 27, 28, 29, 30, 31, 32, 33, 34, 6] _ (dqF A n c Aw nw cw Al nl cl z) { w with heap := #[] } (DX w lw ll Y)) (by kernel_rfl) (by kernel_rfl) (RInv.start rfl (dx_start w lw ll Y _) (below_none0 (Below.refl _ _).drew)) ?_ ?_
    · intro i hi D a wy hI hcl hnd hpre
      have hi' : i < 22 := hi
      have hcase : i = 0 ∨ i = 1 ∨ i = 2 ∨ i = 3 ∨ i = 4 ∨ i = 5 ∨ i = 6 ∨ i = 7 ∨ i = 8 ∨ i = 9 ∨ i = 10 ∨ i = 11 ∨ i = 12 ∨ i = 13 ∨ i = 14 ∨ i = 15 ∨ i = 16 ∨ i = 17 ∨ i = 18 ∨ i = 19 ∨ i = 20 ∨ i = 21 := by omega
      have hF := hI.fact
      rcases hcase with rfl | rfl | rfl | rfl | rfl | rfl | rfl | rfl | rfl | rfl | rfl | rfl | rfl | rfl | rfl | rfl | rfl | rfl | rfl | rfl | rfl | rfl
      · exact wpOp_call0 rfl (wanted_free rfl) 5 _ rfl (enters_awake20 _ _) (awake20_any wy) (fun e w' h => ⟨_, h.1, hI.put (by decide) (by decide) (fun j _ _ h => dqF_any h) rfl (hI.more.calm _ h.2 (by decide) (by decide)) (below_none20 hI.below (alt_below h.2 fun _ => False))⟩)
      · exact wpOp_move rfl (wanted_free rfl) _ rfl _ (hF 0 (hpre 0 (by kernel_rfl))) (hI.put (by decide) (by decide) (fun j _ _ h => dqF_any h) rfl (hI.more.pure _ (by decide) (by decide)) hI.below)
      · have g1 := hF 1 (hpre 1 (by kernel_rfl))
        exact wpOp_move rfl (wanted_by (d := 15) rfl _ rfl rfl g1) _ rfl _ (hI.same 7 (by decide)) (hI.put (by decide) (by decide) (fun j _ _ h => dqF_any h) rfl (hI.more.pure _ (by decide) (by decide)) hI.below)
      · have g1 := hF 1 (hpre 1 (by kernel_rfl))
        obtain ⟨S1, S2, hC⟩ := hI.more
        exact wpOp_call0 rfl (wanted_by (d := 15) rfl _ rfl rfl g1) 7 _ rfl (enters_new20 _ _) (newP_any wy) (fun e w' h => by
          obtain ⟨b, S, rfl, hp, hlo, hb⟩ := h
          exact ⟨_, rfl, hI.put (by decide) (by decide) (fun j _ _ h => dqF_any h) trivial ⟨S, S2, hC.new (by rw [hI.size]; decide) hb hp hlo⟩ (below_none20 hI.below (alt_below hb fun _ => False))⟩)
      · have g1 := hF 1 (hpre 1 (by kernel_rfl))
        exact wpOp_move rfl (wanted_by (d := 15) rfl _ rfl rfl g1) _ rfl _ (hI.same 1 (by decide)) (hI.put (by decide) (by decide) (fun j _ _ h => dqF_any h) rfl (hI.more.pure _ (by decide) (by decide)) hI.below)
      · have g1 := hF 1 (hpre 1 (by kernel_rfl))
        obtain ⟨S1, S2, hC⟩ := hI.more
        exact wpOp_call1 rfl (wanted_by (d := 15) rfl _ rfl rfl g1) 8 _ _ rfl _ (hF 4 (hpre 4 (by kernel_rfl))) (enters_few20 _ _) (few20_any Aw nw cw was wy (hw.out.later hC.below) hws.out) (fun e w' h => by
          obtain ⟨v, rfl, ho, hb⟩ := h
          rw [hwL.out] at ho
          exact ⟨_, rfl, hI.put (by decide) (by decide) (fun j _ _ h => dqF_any h) trivial ⟨S1, S2, hC.few (i := 5) (s := 19) (l := lw) (by simp [HL]) (by rw [hI.size]; decide) hb ho hwN.out⟩ (below_none20 hI.below (alt_below hb fun _ => False))⟩)
      · have g1 := hF 1 (hpre 1 (by kernel_rfl))
        exact wpOp_move rfl (wanted_by (d := 15) rfl _ rfl rfl g1) _ rfl _ (hI.same 2 (by decide)) (hI.put (by decide) (by decide) (fun j _ _ h => dqF_any h) rfl (hI.more.pure _ (by decide) (by decide)) hI.below)
      · have g1 := hF 1 (hpre 1 (by kernel_rfl))
        obtain ⟨S1, S2, hC⟩ := hI.more
        exact wpOp_call1 rfl (wanted_by (d := 15) rfl _ rfl rfl g1) 8 _ _ rfl _ (hF 6 (hpre 6 (by kernel_rfl))) (enters_few20 _ _) (few20_any Al nl cl list wy (hl.out.later hC.below) hls.out) (fun e w' h => by
          obtain ⟨v, rfl, ho, hb⟩ := h
          rw [hlL.out] at ho
          exact ⟨_, rfl, hI.put (by decide) (by decide) (fun j _ _ h => dqF_any h) trivial ⟨S1, S2, hC.few (i := 7) (s := 21) (l := ll) (by simp [HL]) (by rw [hI.size]; decide) hb ho hlN.out⟩ (below_none20 hI.below (alt_below hb fun _ => False))⟩)
      · have g1 := hF 1 (hpre 1 (by kernel_rfl))
        obtain ⟨S1, S2, hC⟩ := hI.more
        obtain ⟨b, eb, hp⟩ := hC.t1 (hpre 3 (by kernel_rfl)) hnd
        obtain ⟨A5, m5, c5, e5, hm5, hH5, _, _⟩ := hC.hs (5, 19, lw) (by simp [HL]) (hpre 5 (by kernel_rfl))
        obtain ⟨A7, m7, c7, e7, hm7, hH7, ho7, _⟩ := hC.hs (7, 21, ll) (by simp [HL]) (hpre 7 (by kernel_rfl))
        have hcall := dput_any b [] S1 _ _ _ _ A5 m5 c5 lw A7 m7 c7 ll wy hp (by simp) (hX3.out.later hC.below) (by omega) hH5 hH7 ho7 (by omega) (by omega) hshort.out
        rw [← hYe.out] at hcall
        exact wpOp_call4d rfl (wanted_by (d := 15) rfl _ rfl rfl g1) 6 _ _ _ _ _ rfl _ _ _ _ (hF 2 (hpre 2 (by kernel_rfl))) eb e5 e7 (enters_put20 _ _) hcall (fun e w' h => by
          obtain ⟨r, S', rfl, hown, hof, hst⟩ := h
          exact ⟨_, rfl, hI.put (by decide) (by decide) (fun j _ _ h => dqF_any h) trivial ⟨S', S2, hC.put (by rw [hI.size]; decide) hown hof hst⟩ (below_none20 hI.below hst.alt)⟩)
      · have g1 := hF 1 (hpre 1 (by kernel_rfl))
        obtain ⟨S1, S2, hC⟩ := hI.more
        obtain ⟨A5, m5, c5, e5, hY5, _, _⟩ := hC.bs (8, 22) (by decide) (hpre 8 (by kernel_rfl))
        have ht := run_text (P := Try.prog) 22 9 5 Try.underlying22 Try.underlying5 Try.underlying9 hY5
        rw [← hz'.out] at ht
        exact wpOp_convert rfl (wanted_by (d := 15) rfl _ rfl rfl g1) _ _ _ rfl _ _ e5 ht (hI.put (by decide) (by decide) (fun j _ _ h => dqF_any h) rfl (DX.pure ⟨S1, S2, hC⟩ _ (by decide) (by decide)) hI.below)
      · have g1 := hF 1 (hpre 1 (by kernel_rfl))
        exact wpOp_move rfl (wanted_by (d := 15) rfl _ rfl rfl g1) _ rfl _ (hI.same 7 (by decide)) (hI.put (by decide) (by decide) (fun j _ _ h => dqF_any h) rfl (hI.more.pure _ (by decide) (by decide)) hI.below)
      · have g1 := hF 1 (hpre 1 (by kernel_rfl))
        exact wpOp_agg rfl (wanted_by (d := 15) rfl _ rfl rfl g1) _ _ rfl #[] (by simp) _ (run_buildT wy) (hI.put (by decide) (by decide) (fun j _ _ h => dqF_any h) rfl (hI.more.pure _ (by decide) (by decide)) hI.below)
      · have g1 := hF 1 (hpre 1 (by kernel_rfl))
        obtain ⟨S1, S2, hC⟩ := hI.more
        exact wpOp_box rfl (wanted_by (d := 15) rfl _ rfl rfl g1) _ _ rfl _ _ _ (show a.eval (.tmp 25) = _ from hF 11 (hpre 11 (by kernel_rfl))) (run_boxT wy) (hI.put (by decide) (by decide) (fun j _ _ h => dqF_any h) trivial ⟨S1, _, hC.box (by rw [hI.size]; decide)⟩ (below_none20 hI.below (alt_below (below_box wy _) fun _ => False)))
      · have g1 := hF 1 (hpre 1 (by kernel_rfl))
        exact wpOp_move rfl (wanted_by (d := 15) rfl _ rfl rfl g1) _ rfl _ (hI.same 1 (by decide)) (hI.put (by decide) (by decide) (fun j _ _ h => dqF_any h) rfl (hI.more.pure _ (by decide) (by decide)) hI.below)
      · have g1 := hF 1 (hpre 1 (by kernel_rfl))
        obtain ⟨S1, S2, hC⟩ := hI.more
        exact wpOp_call1 rfl (wanted_by (d := 15) rfl _ rfl rfl g1) 8 _ _ rfl _ (hF 13 (hpre 13 (by kernel_rfl))) (enters_few20 _ _) (few20_any Aw nw cw was wy (hw.out.later hC.below) hws.out) (fun e w' h => by
          obtain ⟨v, rfl, ho, hb⟩ := h
          rw [hwL.out] at ho
          exact ⟨_, rfl, hI.put (by decide) (by decide) (fun j _ _ h => dqF_any h) trivial ⟨S1, S2, hC.few (i := 14) (s := 28) (l := lw) (by simp [HL]) (by rw [hI.size]; decide) hb ho hwN.out⟩ (below_none20 hI.below (alt_below hb fun _ => False))⟩)
      · have g1 := hF 1 (hpre 1 (by kernel_rfl))
        exact wpOp_move rfl (wanted_by (d := 15) rfl _ rfl rfl g1) _ rfl _ (hI.same 2 (by decide)) (hI.put (by decide) (by decide) (fun j _ _ h => dqF_any h) rfl (hI.more.pure _ (by decide) (by decide)) hI.below)
      · have g1 := hF 1 (hpre 1 (by kernel_rfl))
        obtain ⟨S1, S2, hC⟩ := hI.more
        exact wpOp_call1 rfl (wanted_by (d := 15) rfl _ rfl rfl g1) 8 _ _ rfl _ (hF 15 (hpre 15 (by kernel_rfl))) (enters_few20 _ _) (few20_any Al nl cl list wy (hl.out.later hC.below) hls.out) (fun e w' h => by
          obtain ⟨v, rfl, ho, hb⟩ := h
          rw [hlL.out] at ho
          exact ⟨_, rfl, hI.put (by decide) (by decide) (fun j _ _ h => dqF_any h) trivial ⟨S1, S2, hC.few (i := 16) (s := 30) (l := ll) (by simp [HL]) (by rw [hI.size]; decide) hb ho hlN.out⟩ (below_none20 hI.below (alt_below hb fun _ => False))⟩)
      · have g1 := hF 1 (hpre 1 (by kernel_rfl))
        obtain ⟨S1, S2, hC⟩ := hI.more
        obtain ⟨b, eb, hp⟩ := hC.t2 (hpre 12 (by kernel_rfl)) hnd
        obtain ⟨A5, m5, c5, e5, hm5, hH5, _, _⟩ := hC.hs (14, 28, lw) (by simp [HL]) (hpre 14 (by kernel_rfl))
        obtain ⟨A7, m7, c7, e7, hm7, hH7, _, ho7⟩ := hC.hs (16, 30, ll) (by simp [HL]) (hpre 16 (by kernel_rfl))
        have hcall := refDput_any b [] S2 _ _ _ _ A5 m5 c5 lw A7 m7 c7 ll wy hp (by simp) (hX3.out.later hC.below) (by omega) hH5 hH7 ho7 (by omega) (by omega) hshort.out
        rw [← hYe.out] at hcall
        exact wpOp_call4d rfl (wanted_by (d := 15) rfl _ rfl rfl g1) 9 _ _ _ _ _ rfl _ _ _ _ (hF 10 (hpre 10 (by kernel_rfl))) eb e5 e7 (enters_rput20 _ _) hcall (fun e w' h => by
          obtain ⟨r, S', rfl, hown, hof, hst⟩ := h
          exact ⟨_, rfl, hI.put (by decide) (by decide) (fun j _ _ h => dqF_any h) trivial ⟨S1, S', hC.rput (by rw [hI.size]; decide) hown hof hst⟩ (below_none20 hI.below hst.alt)⟩)
      · have g1 := hF 1 (hpre 1 (by kernel_rfl))
        obtain ⟨S1, S2, hC⟩ := hI.more
        obtain ⟨A5, m5, c5, e5, hY5, _, _⟩ := hC.bs (17, 31) (by decide) (hpre 17 (by kernel_rfl))
        have ht := run_text (P := Try.prog) 22 9 5 Try.underlying22 Try.underlying5 Try.underlying9 hY5
        rw [← hz'.out] at ht
        exact wpOp_convert rfl (wanted_by (d := 15) rfl _ rfl rfl g1) _ _ _ rfl _ _ e5 ht (hI.put (by decide) (by decide) (fun j _ _ h => dqF_any h) rfl (DX.pure ⟨S1, S2, hC⟩ _ (by decide) (by decide)) hI.below)
      · have g1 := hF 1 (hpre 1 (by kernel_rfl))
        exact wpOp_bin rfl (wanted_by (d := 15) rfl _ rfl rfl g1) _ _ _ _ _ rfl _ _ _ (hF 9 (hpre 9 (by kernel_rfl))) (hF 18 (hpre 18 (by kernel_rfl))) (run_eqS20 _ _ z wy) (hI.put (by decide) (by decide) (fun j _ _ h => dqF_any h) rfl (hI.more.pure _ (by decide) (by decide)) hI.below)
      · exact wpOp_pick rfl (wanted_free rfl) _ _ _ rfl true (hF 1 (hpre 1 (by kernel_rfl))) _ (hF 19 (hpre 19 (by kernel_rfl))) (hI.put (by decide) (by decide) (fun j _ _ h => dqF_any h) rfl (hI.more.pure _ (by decide) (by decide)) hI.below)
      · exact wpOp_assign rfl (wanted_free rfl) _ rfl _ (hF 20 (hpre 20 (by kernel_rfl))) (hI.put (by decide) (by decide) (fun j _ _ h => dqF_any h) rfl (hI.more.pure _ (by decide) (by decide)) hI.below)
    · intro D a w9 hI hall
      have e6 : a.eval (.tmp 6) = .bool true := hI.fact 21 (hall 21 (by decide))
      have hd := hI.defs
      have hB9 := Lib.hid (DX.below hI.more)
      clear hI hall
      go_wp2
      refine bodyPost_ret (results_tmp rfl _ _ _) hd ⟨congrArg Ending.returned e6, hB9.out⟩
end Go.Proofs.Ytkjnpdnihfohoaa
