/-
  The walk of the statement MemoPlays: for any number and list of deeds it returns true, and nothing that was there is changed. No condition.
-/
import Derived.Test.YthojnhdnflakiaaMemoPair
namespace Go.Proofs.Ythojnhdnflakiaa
open Go.RowKit Go.Lib Go.Shelf

set_option maxHeartbeats 16000000 in
set_option maxRecDepth 100000 in
theorem memoPlays_law (z : Int) (_hz : z ≤ 9223372036854775807) (A : Option Addr) (n0 c : Nat) (l0 : List Deed) (w : World) (H : Dds w A n0 c l0) (J : ∀ q ∈ l0, q.kind < 256 ∧ Six4 q.what.til ∧ Six4 q.now) :
    Calls Try.prog 3 #[.int .i64 z, .slice A n0 c] w (Yes w) := by
  by_cases hno : z < 1 ∨ 64 < z
  · have hn := Lib.hid (fun W => new_no z hno W)
    have hr := Lib.hid (fun W => refNew_no z hno W)
    clear H J
    go_enter Try.func3, Try.ntmps3
    go_wp2_with (first
      | (go_at_call 6; refine (hn.out _).mono ?_; rintro e w' ⟨rfl, hw⟩; subst hw)
      | (go_at_call 7; refine (hr.out _).mono ?_; rintro e w' ⟨rfl, hw⟩; subst hw)
      | (go_at_call 8; refine (awake15_any _).mono ?_; rintro e w4 ⟨rfl, hb4⟩))
    go_ret
    exact ⟨ret_bool (by simp), hb4⟩
  · obtain ⟨most, rfl⟩ : ∃ most : Nat, z = (most : Int) := ⟨z.toNat, by omega⟩
    have hm1' : 1 ≤ most := by omega
    have hm64 : most ≤ 64 := by omega
    have hn63 : n0 ≤ 9223372036854775807 := by have h1 := H.cap; have h2 := H.room; unfold maxLen at h2; omega
    have hn := Lib.hid (new_yes most hm1' hm64 w)
    have hr := Lib.hid (fun W => refNew_yes most hm1' hm64 W)
    have hl := Lib.hid H.len
    have hH := Lib.hid H
    have hJ := Lib.hid J
    clear H J hno _hz
    go_enter Try.func3, Try.ntmps3
    go_wp2_with (first
      | (go_at_call 6; refine hn.out.mono ?_; rintro e w1 ⟨rfl, hP1, hb1⟩; have hP1' := Lib.hid hP1; clear hP1)
      | (go_at_call 7; refine (hr.out _).mono ?_; rintro e w2 ⟨rfl, hR2, hb2⟩; have hQ2 := Lib.hid (show Pair w w2 w.heap.size w1.heap.size most (.slice Option.none 0 0) (.slice Option.none 0 0) [] [] from ⟨hP1'.out.later hb2, hR2, (fun e => by cases e), (fun k e => by cases e), hP1'.out.lt, Nat.le_refl _, below_then hb1 hb2⟩); clear hR2))
    generalize w1.heap.size = b2 at hQ2 ⊢
    go_loopw [9, 10] (fun i _ wr => ∃ (k : Nat) (v1 v2 : Value) (l : List Ent), k ≤ n0 ∧ k ≤ 60 ∧ i = .int .i64 k ∧ Hid (Pair w wr w.heap.size b2 most v1 v2 l l) ∧ l.length ≤ most) (fun i _ _ => n0 - (RowKit.intOf i).toNat)
    case atStart => exact ⟨0, _, _, [], Nat.zero_le _, by omega, rfl, hQ2, Nat.zero_le _⟩
    case round =>
      obtain ⟨k, v1, v2, l, hk, hk6, rfl, hP, hlen⟩ := hrel
      by_cases hlt : k < n0
      · by_cases hlt6 : k < 60
        · have hpr := hP
          have hbw := Lib.hid hP.out.below
          obtain ⟨d, hd⟩ : ∃ d, d = l0[k]'(by rw [hl.out]; exact hlt) := ⟨_, rfl⟩
          obtain ⟨g, off, rfl, hgl, h0, h1, h2, h3, h4, h5, h6, h7⟩ := (hH.out.later hbw.out).eight hlt hd
          have hdk := hJ.out d (by rw [hd]; exact List.getElem_mem _)
          clear hd
          have hba := Lib.hid (below_box wr (.cells (dcell d).toArray 34))
          have hed0 := Lib.hid (eight_new wr d 34)
          have hpd0 := Lib.hid (hP.out.calm hba.out)
          have hgd0 := Lib.hid (show wr.heap.size < (wr.alloc (.cells (dcell d).toArray 34)).heap.size by simp)
          have hwd0 : Hid (wr.alloc (.cells #[.int .u8 (d.kind : Int), .string d.what.fr, .string d.what.at_, .bool d.what.cred, .string d.what.me, .string d.what.he, .int .i64 d.what.til, .int .i64 d.now] 34) = wr.alloc (.cells (dcell d).toArray 34)) := Lib.hid rfl
          have hrem : (d.kind : Int) % 4 = 0 ∨ (d.kind : Int) % 4 = 1 ∨ (d.kind : Int) % 4 = 2 ∨ (d.kind : Int) % 4 = 3 := by omega
          rcases hrem with hq | hq | hq | hq
          · have hed := hed0
            have hpd := hpd0
            have hgd := hgd0
            have hm1 := Lib.hid (fun W (h : PM W w.heap.size most v1 l) => drop_any15 w.heap.size most v1 l d.what.fr d.what.at_ W h)
            have hr1 := Lib.hid (fun W (h : RM W b2 most v2 l) => refDrop_any b2 most v2 l d.what.fr d.what.at_ W h (by omega))
            have hlen2 := Lib.hid (show (drop l d.what.fr d.what.at_).length ≤ most from Nat.le_trans (drop_len _ _ _) hlen)
            obtain ⟨l', hl'⟩ : ∃ l', l' = drop l d.what.fr d.what.at_ := ⟨_, rfl⟩
            rw [← hl'] at hm1 hr1 hlen2
            clear hl'
            obtain ⟨dk, ⟨d1, d2, d3, d4, d5, d6⟩, dn⟩ := d
            obtain ⟨c0, c1, c2, c3, c4, c5, c6, c7⟩ := hed.out; simp only at c0 c1 c2 c3 c4 c5 c6 c7
            simp only at hm1 hr1
            go_wp2_with (first
              | (go_at_call 9; refine (hm1.out _ hpd.out.m).mono ?_; rintro e w5 ⟨rfl, v1', hP5, hV, hT⟩; have hQ5 := Lib.hid (hpd.out.turn hP5 (Or.inl hV) hT); have hed5 := Lib.hid (hed.out.block (hT.block wr.heap.size hgd.out (by have := hpr.out.m.lt; omega) (fun e => by have := (World.ownsRow.lt hpr.out.m.own _ e).2; omega))); obtain ⟨k0, k1, k2, k3, k4, k5, k6, k7⟩ := hed5.out; simp only at k0 k1 k2 k3 k4 k5 k6 k7; clear hP5 hV hT)
              | (go_at_call 10; refine (hr1.out _ hQ5.out.r).mono ?_; rintro e w6 ⟨rfl, ⟨v2', hR6, hF6⟩, hG6⟩; have hQ6 := Lib.hid (hQ5.out.ref hR6 hF6 hG6); clear hR6 hF6 hG6))
            obtain ⟨Ar, nr, cr, hvr⟩ : ∃ Ar nr cr, v2' = .slice Ar nr cr := by
              obtain ⟨A, c, e, _⟩ := hQ6.out.r.own.eds
              exact ⟨A, _, c, e⟩
            subst hvr
            refine wp_region_each (RInv 106 [97, 98, 99, 100, 101, 102, 103, 104] _ (cpF w.heap.size b2 Ar nr cr l') w6 NoMore) (by kernel_rfl) (by kernel_rfl) (RInv.start rfl trivial (Below.refl _ _).drew) ?_ ?_
            · intro i hi D a wy hI hcl hnd hpre
              have hi' : i < 8 := hi
              have hcase : i = 0 ∨ i = 1 ∨ i = 2 ∨ i = 3 ∨ i = 4 ∨ i = 5 ∨ i = 6 ∨ i = 7 := by omega
              have hF := hI.fact
              rcases hcase with rfl | rfl | rfl | rfl | rfl | rfl | rfl | rfl
              · exact wpOp_move rfl (wanted_free rfl) _ rfl _ (hI.same 5 (by decide)) (hI.add (by decide) cpF_later (by decide) (Below.refl _ _) rfl)
              · exact wpOp_call1 rfl (wanted_free rfl) 16 _ _ rfl _ (hF 0 (hpre 0 (by kernel_rfl))) (enters_list _ _) (list15_any _ most _ l' wy (hQ6.out.m.later hI.below) (by have := hlen2.out; omega)) (fun e w' h => by
                  obtain ⟨u, he, ho, hb⟩ := h
                  exact ⟨u, he, hI.add (by decide) cpF_later (by decide) hb (GivesE.reads ho)⟩)
              · exact wpOp_move rfl (wanted_free rfl) _ rfl _ (hI.same 7 (by decide)) (hI.add (by decide) cpF_later (by decide) (Below.refl _ _) rfl)
              · exact wpOp_nil rfl (wanted_free rfl) _ rfl _ (hF 2 (hpre 2 (by kernel_rfl))) (hI.add (by decide) cpF_later (by decide) (Below.refl _ _) rfl)
              · exact wpOp_field rfl (wanted_free rfl) _ _ _ rfl _ _ (hF 3 (hpre 3 (by kernel_rfl))) (run_fieldM wy _) (hI.add (by decide) cpF_later (by decide) (Below.refl _ _) rfl)
              · exact wpOp_load rfl (wanted_free rfl) _ _ rfl _ _ (hF 4 (hpre 4 (by kernel_rfl))) (run_loadM wy _ 1 _ _ _ (hQ6.out.r.later hI.below).cells.2) (hI.add (by decide) cpF_later (by decide) (Below.refl _ _) rfl)
              · obtain ⟨A8, n8, c8, e8, hE8⟩ := hF 1 (hpre 1 (by kernel_rfl))
                have hE9 := (hQ6.out.r.later hI.below).view.eds
                exact wpOp_call2 rfl (wanted_free rfl) 15 _ _ _ rfl _ _ e8 (hF 5 (hpre 5 (by kernel_rfl))) (enters_Same15 _ _) (same15_any A8 _ n8 _ c8 _ l' wy hE8 hE9) (fun e w' h => ⟨_, h.1, hI.add (by decide) cpF_later (by decide) h.2 rfl⟩)
              · exact wpOp_unary rfl (wanted_free rfl) _ _ _ rfl _ _ (hF 6 (hpre 6 (by kernel_rfl))) (run_not15 wy _) (hI.add (by decide) cpF_later (by decide) (Below.refl _ _) rfl)
            · intro D a w9 hI hall
              have hB9 := Lib.hid hI.below
              obtain ⟨fs, rfl, hfs⟩ := hI.done (by decide) rfl (fun i hi => hall i hi)
              have e7 : fs 104 = .bool false := hfs 7 (by decide)
              clear hI hall hfs
              simp only [putAll, List.map_cons, List.map_nil, Act.put, List.setIfInBounds_toArray, List.set_cons_zero, List.set_cons_succ]
              rw [e7]
              clear e7
              generalize fs 97 = u97
              generalize fs 98 = u98
              generalize fs 99 = u99
              generalize fs 100 = u100
              generalize fs 101 = u101
              generalize fs 102 = u102
              generalize fs 103 = u103
              have hQ9 := Lib.hid (hQ6.out.calm hB9.out)
              go_wp2
              go_roundw
              case rel => exact ⟨k + 1, _, _, l', by omega, by omega, by go_num, hQ9, hlen2.out⟩
              case measure => simp [RowKit.intOf]; omega
          · have hE := hed0.out
            obtain ⟨c0, c1, c2, c3, c4, c5, c6, c7⟩ := hE
            go_wp2
            rw [hwd0.out]
            generalize hwd : wr.alloc (.cells (dcell d).toArray 34) = wd at hed0 hpd0 hgd0 hwd0 ⊢
            clear hwd c0 c1 c2 c3 c4 c5 c6 c7
            have hed := hed0
            have hpd := hpd0
            refine wp_region_each (RInv 106 [84, 85, 86, 87, 88, 89, 90, 91, 92, 93, 94, 95, 96] _ (bhF w.heap.size b2 wr.heap.size d (has l d.what d.now)) wd NoMore) (by kernel_rfl) (by kernel_rfl) (RInv.start rfl trivial (Below.refl _ _).drew) ?_ ?_
            · intro i hi D a wy hI hcl hnd hpre
              have hi' : i < 13 := hi
              have hcase : i = 0 ∨ i = 1 ∨ i = 2 ∨ i = 3 ∨ i = 4 ∨ i = 5 ∨ i = 6 ∨ i = 7 ∨ i = 8 ∨ i = 9 ∨ i = 10 ∨ i = 11 ∨ i = 12 := by omega
              have hF := hI.fact
              rcases hcase with rfl | rfl | rfl | rfl | rfl | rfl | rfl | rfl | rfl | rfl | rfl | rfl | rfl
              · exact wpOp_move rfl (wanted_free rfl) _ rfl _ (hI.same 5 (by decide)) (hI.add (by decide) bhF_later (by decide) (Below.refl _ _) rfl)
              · exact wpOp_field rfl (wanted_free rfl) _ _ _ rfl _ _ (hI.same 10 (by decide)) (run_fieldD1 wy wr.heap.size 0) (hI.add (by decide) bhF_later (by decide) (Below.refl _ _) rfl)
              · exact wpOp_load rfl (wanted_free rfl) _ _ rfl _ _ (hF 1 (hpre 1 (by kernel_rfl))) (run_loadE wy wr.heap.size (0 + 1) d.what ((hed.out.later hI.below).2.1) ((hed.out.later hI.below).2.2.1) ((hed.out.later hI.below).2.2.2.1) ((hed.out.later hI.below).2.2.2.2.1) ((hed.out.later hI.below).2.2.2.2.2.1) ((hed.out.later hI.below).2.2.2.2.2.2.1)) (hI.add (by decide) bhF_later (by decide) (Below.refl _ _) rfl)
              · exact wpOp_field rfl (wanted_free rfl) _ _ _ rfl _ _ (hI.same 10 (by decide)) (run_fieldD2 wy wr.heap.size 0) (hI.add (by decide) bhF_later (by decide) (Below.refl _ _) rfl)
              · exact wpOp_load rfl (wanted_free rfl) _ _ rfl _ _ (hF 3 (hpre 3 (by kernel_rfl))) (run_loadI wy wr.heap.size (0 + 7) _ ((hed.out.later hI.below).2.2.2.2.2.2.2)) (hI.add (by decide) bhF_later (by decide) (Below.refl _ _) rfl)
              · exact wpOp_call3' rfl (wanted_free rfl) 11 _ _ _ _ rfl _ _ _ (hF 0 (hpre 0 (by kernel_rfl))) (hF 2 (hpre 2 (by kernel_rfl))) (hF 4 (hpre 4 (by kernel_rfl))) (enters_has _ _) (has_any w.heap.size most v1 l d.what d.now wy (hpd.out.m.later hI.below)) (fun e w' h => ⟨_, h.1, hI.add (by decide) bhF_later (by decide) h.2 rfl⟩)
              · exact wpOp_move rfl (wanted_free rfl) _ rfl _ (hI.same 7 (by decide)) (hI.add (by decide) bhF_later (by decide) (Below.refl _ _) rfl)
              · exact wpOp_field rfl (wanted_free rfl) _ _ _ rfl _ _ (hI.same 10 (by decide)) (run_fieldD1 wy wr.heap.size 0) (hI.add (by decide) bhF_later (by decide) (Below.refl _ _) rfl)
              · exact wpOp_load rfl (wanted_free rfl) _ _ rfl _ _ (hF 7 (hpre 7 (by kernel_rfl))) (run_loadE wy wr.heap.size (0 + 1) d.what ((hed.out.later hI.below).2.1) ((hed.out.later hI.below).2.2.1) ((hed.out.later hI.below).2.2.2.1) ((hed.out.later hI.below).2.2.2.2.1) ((hed.out.later hI.below).2.2.2.2.2.1) ((hed.out.later hI.below).2.2.2.2.2.2.1)) (hI.add (by decide) bhF_later (by decide) (Below.refl _ _) rfl)
              · exact wpOp_field rfl (wanted_free rfl) _ _ _ rfl _ _ (hI.same 10 (by decide)) (run_fieldD2 wy wr.heap.size 0) (hI.add (by decide) bhF_later (by decide) (Below.refl _ _) rfl)
              · exact wpOp_load rfl (wanted_free rfl) _ _ rfl _ _ (hF 9 (hpre 9 (by kernel_rfl))) (run_loadI wy wr.heap.size (0 + 7) _ ((hed.out.later hI.below).2.2.2.2.2.2.2)) (hI.add (by decide) bhF_later (by decide) (Below.refl _ _) rfl)
              · exact wpOp_call3' rfl (wanted_free rfl) 12 _ _ _ _ rfl _ _ _ (hF 6 (hpre 6 (by kernel_rfl))) (hF 8 (hpre 8 (by kernel_rfl))) (hF 10 (hpre 10 (by kernel_rfl))) (enters_refHas _ _) (refHas_any b2 most v2 l d.what d.now wy (hpd.out.r.later hI.below)) (fun e w' h => ⟨_, h.1, hI.add (by decide) bhF_later (by decide) h.2 rfl⟩)
              · exact wpOp_bin rfl (wanted_free rfl) _ _ _ _ _ rfl _ _ _ (hF 5 (hpre 5 (by kernel_rfl))) (hF 11 (hpre 11 (by kernel_rfl))) (run_neqB _ _ wy _ _ false (by simp)) (hI.add (by decide) bhF_later (by decide) (Below.refl _ _) rfl)
            · intro D a w8 hI hall
              have hB8 := Lib.hid hI.below
              obtain ⟨fs, rfl, hfs⟩ := hI.done (by decide) rfl (fun i hi => hall i hi)
              have e12 : fs 96 = .bool false := hfs 12 (by decide)
              clear hI hall hfs
              simp only [putAll, List.map_cons, List.map_nil, Act.put, List.setIfInBounds_toArray, List.set_cons_zero, List.set_cons_succ]
              rw [e12]
              clear e12
              generalize fs 84 = u84
              generalize fs 85 = u85
              generalize fs 86 = u86
              generalize fs 87 = u87
              generalize fs 88 = u88
              generalize fs 89 = u89
              generalize fs 90 = u90
              generalize fs 91 = u91
              generalize fs 92 = u92
              generalize fs 93 = u93
              generalize fs 94 = u94
              generalize fs 95 = u95
              have hQ8 := Lib.hid (hpd.out.calm hB8.out)
              obtain ⟨v2', hv2'⟩ : ∃ v2', v2' = v2 := ⟨_, rfl⟩
              rw [← hv2'] at hQ8
              clear hv2'
              have hlen2 := Lib.hid (show l.length ≤ most from hlen)
              go_wp2
              obtain ⟨Ar, nr, cr, hvr⟩ : ∃ Ar nr cr, v2' = .slice Ar nr cr := by
                obtain ⟨A, c, e, _⟩ := hQ8.out.r.own.eds
                exact ⟨A, _, c, e⟩
              subst hvr
              refine wp_region_each (RInv 106 [97, 98, 99, 100, 101, 102, 103, 104] _ (cpF w.heap.size b2 Ar nr cr l) w8 NoMore) (by kernel_rfl) (by kernel_rfl) (RInv.start rfl trivial (Below.refl _ _).drew) ?_ ?_
              · intro i hi D a wy hI hcl hnd hpre
                have hi' : i < 8 := hi
                have hcase : i = 0 ∨ i = 1 ∨ i = 2 ∨ i = 3 ∨ i = 4 ∨ i = 5 ∨ i = 6 ∨ i = 7 := by omega
                have hF := hI.fact
                rcases hcase with rfl | rfl | rfl | rfl | rfl | rfl | rfl | rfl
                · exact wpOp_move rfl (wanted_free rfl) _ rfl _ (hI.same 5 (by decide)) (hI.add (by decide) cpF_later (by decide) (Below.refl _ _) rfl)
                · exact wpOp_call1 rfl (wanted_free rfl) 16 _ _ rfl _ (hF 0 (hpre 0 (by kernel_rfl))) (enters_list _ _) (list15_any _ most _ l wy (hQ8.out.m.later hI.below) (by have := hlen2.out; omega)) (fun e w' h => by
                    obtain ⟨u, he, ho, hb⟩ := h
                    exact ⟨u, he, hI.add (by decide) cpF_later (by decide) hb (GivesE.reads ho)⟩)
                · exact wpOp_move rfl (wanted_free rfl) _ rfl _ (hI.same 7 (by decide)) (hI.add (by decide) cpF_later (by decide) (Below.refl _ _) rfl)
                · exact wpOp_nil rfl (wanted_free rfl) _ rfl _ (hF 2 (hpre 2 (by kernel_rfl))) (hI.add (by decide) cpF_later (by decide) (Below.refl _ _) rfl)
                · exact wpOp_field rfl (wanted_free rfl) _ _ _ rfl _ _ (hF 3 (hpre 3 (by kernel_rfl))) (run_fieldM wy _) (hI.add (by decide) cpF_later (by decide) (Below.refl _ _) rfl)
                · exact wpOp_load rfl (wanted_free rfl) _ _ rfl _ _ (hF 4 (hpre 4 (by kernel_rfl))) (run_loadM wy _ 1 _ _ _ (hQ8.out.r.later hI.below).cells.2) (hI.add (by decide) cpF_later (by decide) (Below.refl _ _) rfl)
                · obtain ⟨A8, n8, c8, e8, hE8⟩ := hF 1 (hpre 1 (by kernel_rfl))
                  have hE9 := (hQ8.out.r.later hI.below).view.eds
                  exact wpOp_call2 rfl (wanted_free rfl) 15 _ _ _ rfl _ _ e8 (hF 5 (hpre 5 (by kernel_rfl))) (enters_Same15 _ _) (same15_any A8 _ n8 _ c8 _ l wy hE8 hE9) (fun e w' h => ⟨_, h.1, hI.add (by decide) cpF_later (by decide) h.2 rfl⟩)
                · exact wpOp_unary rfl (wanted_free rfl) _ _ _ rfl _ _ (hF 6 (hpre 6 (by kernel_rfl))) (run_not15 wy _) (hI.add (by decide) cpF_later (by decide) (Below.refl _ _) rfl)
              · intro D a w9 hI hall
                have hB9 := Lib.hid hI.below
                obtain ⟨fs, rfl, hfs⟩ := hI.done (by decide) rfl (fun i hi => hall i hi)
                have e7 : fs 104 = .bool false := hfs 7 (by decide)
                clear hI hall hfs
                simp only [putAll, List.map_cons, List.map_nil, Act.put, List.setIfInBounds_toArray, List.set_cons_zero, List.set_cons_succ]
                rw [e7]
                clear e7
                generalize fs 97 = u97
                generalize fs 98 = u98
                generalize fs 99 = u99
                generalize fs 100 = u100
                generalize fs 101 = u101
                generalize fs 102 = u102
                generalize fs 103 = u103
                have hQ9 := Lib.hid (hQ8.out.calm hB9.out)
                go_wp2
                go_roundw
                case rel => exact ⟨k + 1, _, _, l, by omega, by omega, by go_num, hQ9, hlen2.out⟩
                case measure => simp [RowKit.intOf]; omega
          · have hed := hed0
            have hpd := hpd0
            have hgd := hgd0
            have hm1 := Lib.hid (fun W (h : PM W w.heap.size most v1 l) => put_any15 w.heap.size most v1 l d.what d.now W h hm1' (by omega) hlen)
            have hr1 := Lib.hid (fun W (h : RM W b2 most v2 l) => refPut_any b2 most v2 l d.what d.now W h hm1' (by omega))
            have hlen2 := Lib.hid (show (put most l d.what d.now).length ≤ most from put_len hm1' hlen d.what d.now)
            obtain ⟨l', hl'⟩ : ∃ l', l' = put most l d.what d.now := ⟨_, rfl⟩
            rw [← hl'] at hm1 hr1 hlen2
            clear hl'
            obtain ⟨dk, ⟨d1, d2, d3, d4, d5, d6⟩, dn⟩ := d
            obtain ⟨c0, c1, c2, c3, c4, c5, c6, c7⟩ := hed.out; simp only at c0 c1 c2 c3 c4 c5 c6 c7
            unfold evalue at hm1 hr1
            simp only at hm1 hr1
            go_wp2_with (first
              | (go_at_call 13; refine (hm1.out _ hpd.out.m).mono ?_; rintro e w5 ⟨rfl, v1', hP5, hV, hT⟩; have hQ5 := Lib.hid (hpd.out.turn hP5 hV hT); have hed5 := Lib.hid (hed.out.block (hT.block wr.heap.size hgd.out (by have := hpr.out.m.lt; omega) (fun e => by have := (World.ownsRow.lt hpr.out.m.own _ e).2; omega))); obtain ⟨k0, k1, k2, k3, k4, k5, k6, k7⟩ := hed5.out; simp only at k0 k1 k2 k3 k4 k5 k6 k7; clear hP5 hV hT)
              | (go_at_call 14; refine (hr1.out _ hQ5.out.r).mono ?_; rintro e w6 ⟨rfl, ⟨v2', hR6, hF6⟩, hG6⟩; have hQ6 := Lib.hid (hQ5.out.ref hR6 hF6 hG6); clear hR6 hF6 hG6))
            obtain ⟨Ar, nr, cr, hvr⟩ : ∃ Ar nr cr, v2' = .slice Ar nr cr := by
              obtain ⟨A, c, e, _⟩ := hQ6.out.r.own.eds
              exact ⟨A, _, c, e⟩
            subst hvr
            refine wp_region_each (RInv 106 [97, 98, 99, 100, 101, 102, 103, 104] _ (cpF w.heap.size b2 Ar nr cr l') w6 NoMore) (by kernel_rfl) (by kernel_rfl) (RInv.start rfl trivial (Below.refl _ _).drew) ?_ ?_
            · intro i hi D a wy hI hcl hnd hpre
              have hi' : i < 8 := hi
              have hcase : i = 0 ∨ i = 1 ∨ i = 2 ∨ i = 3 ∨ i = 4 ∨ i = 5 ∨ i = 6 ∨ i = 7 := by omega
              have hF := hI.fact
              rcases hcase with rfl | rfl | rfl | rfl | rfl | rfl | rfl | rfl
              · exact wpOp_move rfl (wanted_free rfl) _ rfl _ (hI.same 5 (by decide)) (hI.add (by decide) cpF_later (by decide) (Below.refl _ _) rfl)
              · exact wpOp_call1 rfl (wanted_free rfl) 16 _ _ rfl _ (hF 0 (hpre 0 (by kernel_rfl))) (enters_list _ _) (list15_any _ most _ l' wy (hQ6.out.m.later hI.below) (by have := hlen2.out; omega)) (fun e w' h => by
                  obtain ⟨u, he, ho, hb⟩ := h
                  exact ⟨u, he, hI.add (by decide) cpF_later (by decide) hb (GivesE.reads ho)⟩)
              · exact wpOp_move rfl (wanted_free rfl) _ rfl _ (hI.same 7 (by decide)) (hI.add (by decide) cpF_later (by decide) (Below.refl _ _) rfl)
              · exact wpOp_nil rfl (wanted_free rfl) _ rfl _ (hF 2 (hpre 2 (by kernel_rfl))) (hI.add (by decide) cpF_later (by decide) (Below.refl _ _) rfl)
              · exact wpOp_field rfl (wanted_free rfl) _ _ _ rfl _ _ (hF 3 (hpre 3 (by kernel_rfl))) (run_fieldM wy _) (hI.add (by decide) cpF_later (by decide) (Below.refl _ _) rfl)
              · exact wpOp_load rfl (wanted_free rfl) _ _ rfl _ _ (hF 4 (hpre 4 (by kernel_rfl))) (run_loadM wy _ 1 _ _ _ (hQ6.out.r.later hI.below).cells.2) (hI.add (by decide) cpF_later (by decide) (Below.refl _ _) rfl)
              · obtain ⟨A8, n8, c8, e8, hE8⟩ := hF 1 (hpre 1 (by kernel_rfl))
                have hE9 := (hQ6.out.r.later hI.below).view.eds
                exact wpOp_call2 rfl (wanted_free rfl) 15 _ _ _ rfl _ _ e8 (hF 5 (hpre 5 (by kernel_rfl))) (enters_Same15 _ _) (same15_any A8 _ n8 _ c8 _ l' wy hE8 hE9) (fun e w' h => ⟨_, h.1, hI.add (by decide) cpF_later (by decide) h.2 rfl⟩)
              · exact wpOp_unary rfl (wanted_free rfl) _ _ _ rfl _ _ (hF 6 (hpre 6 (by kernel_rfl))) (run_not15 wy _) (hI.add (by decide) cpF_later (by decide) (Below.refl _ _) rfl)
            · intro D a w9 hI hall
              have hB9 := Lib.hid hI.below
              obtain ⟨fs, rfl, hfs⟩ := hI.done (by decide) rfl (fun i hi => hall i hi)
              have e7 : fs 104 = .bool false := hfs 7 (by decide)
              clear hI hall hfs
              simp only [putAll, List.map_cons, List.map_nil, Act.put, List.setIfInBounds_toArray, List.set_cons_zero, List.set_cons_succ]
              rw [e7]
              clear e7
              generalize fs 97 = u97
              generalize fs 98 = u98
              generalize fs 99 = u99
              generalize fs 100 = u100
              generalize fs 101 = u101
              generalize fs 102 = u102
              generalize fs 103 = u103
              have hQ9 := Lib.hid (hQ6.out.calm hB9.out)
              go_wp2
              go_roundw
              case rel => exact ⟨k + 1, _, _, l', by omega, by omega, by go_num, hQ9, hlen2.out⟩
              case measure => simp [RowKit.intOf]; omega
          · have hed := hed0
            have hpd := hpd0
            have hgd := hgd0
            have hm1 := Lib.hid (fun W (h : PM W w.heap.size most v1 l) => put_any15 w.heap.size most v1 l d.what d.now W h hm1' (by omega) hlen)
            have hr1 := Lib.hid (fun W (h : RM W b2 most v2 l) => refPut_any b2 most v2 l d.what d.now W h hm1' (by omega))
            have hlen2 := Lib.hid (show (put most l d.what d.now).length ≤ most from put_len hm1' hlen d.what d.now)
            obtain ⟨l', hl'⟩ : ∃ l', l' = put most l d.what d.now := ⟨_, rfl⟩
            rw [← hl'] at hm1 hr1 hlen2
            clear hl'
            obtain ⟨dk, ⟨d1, d2, d3, d4, d5, d6⟩, dn⟩ := d
            obtain ⟨c0, c1, c2, c3, c4, c5, c6, c7⟩ := hed.out; simp only at c0 c1 c2 c3 c4 c5 c6 c7
            unfold evalue at hm1 hr1
            simp only at hm1 hr1
            go_wp2_with (first
              | (go_at_call 13; refine (hm1.out _ hpd.out.m).mono ?_; rintro e w5 ⟨rfl, v1', hP5, hV, hT⟩; have hQ5 := Lib.hid (hpd.out.turn hP5 hV hT); have hed5 := Lib.hid (hed.out.block (hT.block wr.heap.size hgd.out (by have := hpr.out.m.lt; omega) (fun e => by have := (World.ownsRow.lt hpr.out.m.own _ e).2; omega))); obtain ⟨k0, k1, k2, k3, k4, k5, k6, k7⟩ := hed5.out; simp only at k0 k1 k2 k3 k4 k5 k6 k7; clear hP5 hV hT)
              | (go_at_call 14; refine (hr1.out _ hQ5.out.r).mono ?_; rintro e w6 ⟨rfl, ⟨v2', hR6, hF6⟩, hG6⟩; have hQ6 := Lib.hid (hQ5.out.ref hR6 hF6 hG6); clear hR6 hF6 hG6))
            obtain ⟨Ar, nr, cr, hvr⟩ : ∃ Ar nr cr, v2' = .slice Ar nr cr := by
              obtain ⟨A, c, e, _⟩ := hQ6.out.r.own.eds
              exact ⟨A, _, c, e⟩
            subst hvr
            refine wp_region_each (RInv 106 [97, 98, 99, 100, 101, 102, 103, 104] _ (cpF w.heap.size b2 Ar nr cr l') w6 NoMore) (by kernel_rfl) (by kernel_rfl) (RInv.start rfl trivial (Below.refl _ _).drew) ?_ ?_
            · intro i hi D a wy hI hcl hnd hpre
              have hi' : i < 8 := hi
              have hcase : i = 0 ∨ i = 1 ∨ i = 2 ∨ i = 3 ∨ i = 4 ∨ i = 5 ∨ i = 6 ∨ i = 7 := by omega
              have hF := hI.fact
              rcases hcase with rfl | rfl | rfl | rfl | rfl | rfl | rfl | rfl
              · exact wpOp_move rfl (wanted_free rfl) _ rfl _ (hI.same 5 (by decide)) (hI.add (by decide) cpF_later (by decide) (Below.refl _ _) rfl)
              · exact wpOp_call1 rfl (wanted_free rfl) 16 _ _ rfl _ (hF 0 (hpre 0 (by kernel_rfl))) (enters_list _ _) (list15_any _ most _ l' wy (hQ6.out.m.later hI.below) (by have := hlen2.out; omega)) (fun e w' h => by
                  obtain ⟨u, he, ho, hb⟩ := h
                  exact ⟨u, he, hI.add (by decide) cpF_later (by decide) hb (GivesE.reads ho)⟩)
              · exact wpOp_move rfl (wanted_free rfl) _ rfl _ (hI.same 7 (by decide)) (hI.add (by decide) cpF_later (by decide) (Below.refl _ _) rfl)
              · exact wpOp_nil rfl (wanted_free rfl) _ rfl _ (hF 2 (hpre 2 (by kernel_rfl))) (hI.add (by decide) cpF_later (by decide) (Below.refl _ _) rfl)
              · exact wpOp_field rfl (wanted_free rfl) _ _ _ rfl _ _ (hF 3 (hpre 3 (by kernel_rfl))) (run_fieldM wy _) (hI.add (by decide) cpF_later (by decide) (Below.refl _ _) rfl)
              · exact wpOp_load rfl (wanted_free rfl) _ _ rfl _ _ (hF 4 (hpre 4 (by kernel_rfl))) (run_loadM wy _ 1 _ _ _ (hQ6.out.r.later hI.below).cells.2) (hI.add (by decide) cpF_later (by decide) (Below.refl _ _) rfl)
              · obtain ⟨A8, n8, c8, e8, hE8⟩ := hF 1 (hpre 1 (by kernel_rfl))
                have hE9 := (hQ6.out.r.later hI.below).view.eds
                exact wpOp_call2 rfl (wanted_free rfl) 15 _ _ _ rfl _ _ e8 (hF 5 (hpre 5 (by kernel_rfl))) (enters_Same15 _ _) (same15_any A8 _ n8 _ c8 _ l' wy hE8 hE9) (fun e w' h => ⟨_, h.1, hI.add (by decide) cpF_later (by decide) h.2 rfl⟩)
              · exact wpOp_unary rfl (wanted_free rfl) _ _ _ rfl _ _ (hF 6 (hpre 6 (by kernel_rfl))) (run_not15 wy _) (hI.add (by decide) cpF_later (by decide) (Below.refl _ _) rfl)
            · intro D a w9 hI hall
              have hB9 := Lib.hid hI.below
              obtain ⟨fs, rfl, hfs⟩ := hI.done (by decide) rfl (fun i hi => hall i hi)
              have e7 : fs 104 = .bool false := hfs 7 (by decide)
              clear hI hall hfs
              simp only [putAll, List.map_cons, List.map_nil, Act.put, List.setIfInBounds_toArray, List.set_cons_zero, List.set_cons_succ]
              rw [e7]
              clear e7
              generalize fs 97 = u97
              generalize fs 98 = u98
              generalize fs 99 = u99
              generalize fs 100 = u100
              generalize fs 101 = u101
              generalize fs 102 = u102
              generalize fs 103 = u103
              have hQ9 := Lib.hid (hQ6.out.calm hB9.out)
              go_wp2
              go_roundw
              case rel => exact ⟨k + 1, _, _, l', by omega, by omega, by go_num, hQ9, hlen2.out⟩
              case measure => simp [RowKit.intOf]; omega
        · have hk6' : k = 60 := by omega
          go_wp2_with (go_at_call 8; refine (awake15_any _).mono ?_; rintro e w4 ⟨rfl, hb4⟩)
          go_ret
          exact ⟨rfl, below_then hP.out.below hb4⟩
      · have hk0' : k = n0 := by omega
        go_wp2_with (go_at_call 8; refine (awake15_any _).mono ?_; rintro e w4 ⟨rfl, hb4⟩)
        go_ret
        exact ⟨rfl, below_then hP.out.below hb4⟩
end Go.Proofs.Ythojnhdnflakiaa
