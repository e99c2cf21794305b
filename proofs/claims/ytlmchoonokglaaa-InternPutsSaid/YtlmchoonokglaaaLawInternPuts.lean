/-
  The walk of the statement InternPuts: for any bytes and any texts it returns true, and nothing that was there is changed.
-/
import Derived.Test.YtlmchoonokglaaaTabPutsX
namespace Go.Proofs.Ytlmchoonokglaaa
open Go.RowKit Go.Lib Go.Maps Go.WideMaps Leb

set_option maxHeartbeats 16000000 in
set_option maxRecDepth 100000 in
theorem internPuts_law (A : Option Addr) (n c : Nat) (X : List Int) (B : Option Addr) (m d : Nat) (l0 : List (List UInt8)) (w : World) (hX : Holds w A n c X) (hl : Txs w B m d l0) :
    Calls Try.prog 3 #[.slice A n c, .slice B m d] w fun e w' => e = .returned (.bool true) ∧ Below w.heap.size w w' := by
  have hl' := Lib.hid hl
  have hX' := Lib.hid hX
  have hcap := hX.cap
  have hroom := hX.room
  unfold maxLen at hroom
  have hfl := fewT_len l0
  have hfs := Lib.hid (fewT_short l0)
  obtain ⟨L, hL⟩ : ∃ L, L = fewT l0 := ⟨_, rfl⟩
  rw [← hL] at hfl hfs
  have hL' := Lib.hid hL.symm
  clear hl hX hL
  by_cases h3 : 300 < n
  · have hd3 : decide ((300 : Int) < (n : Int)) = true := decide_eq_true (by omega)
    have h3' := Lib.hid h3
    clear h3
    go_enter Try.func3, Try.ntmps3
    go_wp2_with (go_at_call 6; refine (newP_any w).mono ?_; rintro e w1 ⟨b1, S1, rfl, hp1, hlo1, hb1⟩; have hb1' := Lib.hid hb1; have hD2 := Lib.hid (duo_new hp1 hlo1 hb1); have hB2 := Lib.hid (hb1.alloc hb1.size (.cells #[.slice Option.none 0 0] 28)); have hT2 := Lib.hid (hl'.out.later hB2.out); clear hp1 hlo1 hb1)
    refine wp_region_tail 5 8 (by decide) (by kernel_rfl) (RInv 61 [19, 20, 21, 22, 7] _ (fxF A n c) _ NoMore) (by kernel_rfl) (by kernel_rfl) (RInv.start rfl trivial (Below.refl _ _).drew) ?_ ?_
    · intro i hi D a wy hI hcl hnd hpre
      have hi' : i < 5 := hi
      have hcase : i = 0 ∨ i = 1 ∨ i = 2 ∨ i = 3 ∨ i = 4 := by omega
      have hF := hI.fact
      rcases hcase with rfl | rfl | rfl | rfl | rfl
      · exact wpOp_move rfl (wanted_free rfl) _ rfl _ (hI.same 0 (by decide)) (hI.add (by decide) fxF_later (by decide) (Below.refl _ _) rfl)
      · exact wpOp_slice rfl (wanted_free rfl) _ _ _ _ _ rfl _ _ _ _ _ (hF 0 (hpre 0 (by kernel_rfl))) rfl rfl rfl (run_front9 wy A n c 300 (Nat.le_of_lt h3'.out) hcap) (hI.add (by decide) fxF_later (by decide) (Below.refl _ _) rfl)
      · exact wpOp_move rfl (wanted_free rfl) _ rfl _ (hI.same 0 (by decide)) (hI.add (by decide) fxF_later (by decide) (Below.refl _ _) rfl)
      · exact wpOp_slice rfl (wanted_free rfl) _ _ _ _ _ rfl _ _ _ _ _ (hF 2 (hpre 2 (by kernel_rfl))) rfl rfl rfl (run_front9 wy A n c 300 (Nat.le_of_lt h3'.out) hcap) (hI.add (by decide) fxF_later (by decide) (Below.refl _ _) rfl)
      · exact wpOp_assign rfl (wanted_free rfl) _ rfl _ (hF 1 (hpre 1 (by kernel_rfl))) (hI.add (by decide) fxF_later (by decide) (Below.refl _ _) rfl)
    · intro D a wz hI hall
      have hBz := Lib.hid hI.below
      obtain ⟨fs, rfl, hfs⟩ := hI.done (by decide) rfl (fun i hi => hall i hi)
      have e22 : fs 22 = .slice A (300 : Nat) c := hfs 3 (by decide)
      have e7 : fs 7 = .slice A (300 : Nat) c := hfs 4 (by decide)
      clear hI hall hfs
      simp only [putAll, List.map_cons, List.map_nil, Act.put, List.setIfInBounds_toArray, List.set_cons_zero, List.set_cons_succ]
      rw [e22, e7]
      clear e22 e7
      generalize fs 19 = u19
      generalize fs 20 = u20
      generalize fs 21 = u21
      show wpOps _ _ _ [5] _ wz
      rw [wpOps_cons]
      refine wpOp_assign rfl (wanted_free rfl) _ rfl _ rfl ?_
      rw [wpOps]
      simp only [Act.put, List.setIfInBounds_toArray]
      have hD2 := Lib.hid (hD2.out.later hBz.out)
      have hB2 := Lib.hid (belowB hB2.out hBz.out hB2.out.size)
      have hT2 := Lib.hid (hl'.out.later hB2.out)
      go_wp2_with (go_at_call 7; refine (few19_any B m d l0 _ hT2.out).mono ?_; rintro e w3 ⟨v3, rfl, ho3, hb3⟩; have hD3 := Lib.hid (hD2.out.later hb3); have hB3 := Lib.hid (belowB hB2.out hb3 hB2.out.size); rw [hL'.out] at ho3; obtain ⟨A3, c3, rfl, hL3⟩ := lst_own ho3 hD2.out.p.low hD2.out.r.low; obtain ⟨m3, hm3⟩ : ∃ m3, m3 = L.length := ⟨_, rfl⟩; rw [← hm3] at hL3; have hL3' := Lib.hid hL3; rw [← hm3]; rw [← hm3] at hfl; clear hm3; clear ho3 hb3 hL3)
      have hxl := Lib.hid (show (X.take 300).length ≤ 300 + 311 * 0 by have := List.length_take_le 300 X; omega)
      go_loopw [7, 8, 10] (fun x y i wr => ∃ (k : Nat) (T : List (List UInt8)) (Y : List Int) (S1 S2 : Nat → Prop), k ≤ m3 ∧ i = .int .i64 k ∧ Duo w.heap.size wr b1 T S1 w1.heap.size T S2 ∧ T.length ≤ k ∧ Lst wr A3 m3 L S1 S2 ∧ Below w.heap.size w wr ∧ Bts wr x Y S1 S2 ∧ Bts wr y Y S1 S2 ∧ Y.length ≤ 300 + 311 * k) (fun _ _ i _ => m3 - (RowKit.intOf i).toNat)
      case atStart => exact ⟨0, [], (X.take 300), _, _, Nat.zero_le _, rfl, hD3.out, Nat.zero_le _, hL3'.out, hB3.out, bts_arg (hX'.out.front (k := 300) (Nat.le_of_lt h3'.out)) hB3.out hD3.out.lo1 hD3.out.lo2, bts_arg (hX'.out.front (k := 300) (Nat.le_of_lt h3'.out)) hB3.out hD3.out.lo1 hD3.out.lo2, hxl.out⟩
      case round =>
        obtain ⟨k, T, Y, S1', S2', hk, rfl, hD, hTl, hL, hB, hbx, hby, hYl⟩ := hrel
        have hD := Lib.hid hD
        have hL := Lib.hid hL
        have hB := Lib.hid hB
        by_cases hk : k < m3
        · obtain ⟨g, p, rfl, hy, h1⟩ := lst_at hL.out hk
          have hys : p.length ≤ 300 := hfs.out p (List.mem_of_getElem? hy)
          have hpl := Lib.hid (putL_len T p)
          have hbl := putB_len T p (by omega) (by omega)
          have hYl' := Lib.hid (show (Y ++ putB T p).length ≤ 300 + 311 * (k + 1) by rw [List.length_append]; omega)
          obtain ⟨Ax, cx, rfl, _⟩ := hbx.rd
          obtain ⟨Ay, cy, rfl, _⟩ := hby.rd
          have hbx := Lib.hid hbx
          have hby := Lib.hid hby
          have hputP := Lib.hid (fun W S (h : PTab W b1 T S) (hh : Holds W Ax Y.length cx Y) (ho : Off S Ax Y.length) => putP_any b1 T S Ax Y.length cx Y p W h (by omega) hh ho (by omega))
          have hputR := Lib.hid (fun W S (h : RTab W w1.heap.size T S) (hh : Holds W Ay Y.length cy Y) => putR_any w1.heap.size T S Ay Y.length cy Y p W h (by omega) hh (by omega))
          have hy' := Lib.hid hy
          obtain ⟨s, hs⟩ : ∃ s, s = mk p := ⟨_, rfl⟩
          have hs' := Lib.hid hs
          rw [← hs] at h1 hputP hputR
          obtain ⟨ny, hny⟩ : ∃ ny, ny = Y.length := ⟨_, rfl⟩
          rw [← hny] at hbx hby hputP hputR ⊢
          obtain ⟨Y', hY'⟩ : ∃ Y', Y' = Y ++ putB T p := ⟨_, rfl⟩
          obtain ⟨T', hT'⟩ : ∃ T', T' = putL T p := ⟨_, rfl⟩
          rw [← hY', ← hT'] at hputP hputR
          rw [← hY'] at hYl'
          rw [← hT'] at hpl
          clear hy hs hys hbl hYl hny hY' hT'
          go_wp2
          refine wp_region_tail 14 18 (by decide) (by kernel_rfl) (RInv 61 [31, 32, 33, 34, 35, 36, 37, 38, 39, 40, 41, 42, 43, 44] _ (pxF b1 w1.heap.size (.slice Ax ny cx) (.slice Ay ny cy) (.slice (some ⟨g, 0, Option.none⟩) m3 c3) k g s) { wr with heap := #[] } (IX w.heap.size w (some ⟨g, 0, Option.none⟩) m3 L b1 w1.heap.size T T' Y Y' (.slice Ax ny cx) (.slice Ay ny cy))) (by kernel_rfl) (by kernel_rfl) (RInv.start rfl ⟨S1', S2', T, T, hD.out.later (Below.refl _ _).drew, hL.out.later (Below.refl _ _).drew, hB.out.drew, hB.out.size, fun _ => ⟨rfl, hbx.out.later (Below.refl _ _).drew⟩, fun h => h.elim, fun _ => ⟨rfl, hby.out.later (Below.refl _ _).drew⟩, fun h => h.elim⟩ ⟨rfl, rfl, rfl, Nat.zero_le _, fun k hk => absurd hk (by simp)⟩) ?_ ?_
          · intro i hi D a wy hI hcl hnd hpre
            have hi' : i < 14 := hi
            have hcase : i = 0 ∨ i = 1 ∨ i = 2 ∨ i = 3 ∨ i = 4 ∨ i = 5 ∨ i = 6 ∨ i = 7 ∨ i = 8 ∨ i = 9 ∨ i = 10 ∨ i = 11 ∨ i = 12 ∨ i = 13 := by omega
            have hF := hI.fact
            rcases hcase with rfl | rfl | rfl | rfl | rfl | rfl | rfl | rfl | rfl | rfl | rfl | rfl | rfl | rfl
            · exact wpOp_move rfl (wanted_free rfl) _ rfl _ (hI.same 5 (by decide)) (hI.put (by decide) (by decide) (fun j _ _ h => pxF_any h) rfl (hI.more.pure _ (by decide) (by decide) (by decide) (by decide)) hI.below)
            · exact wpOp_move rfl (wanted_free rfl) _ rfl _ (hI.same 7 (by decide)) (hI.put (by decide) (by decide) (fun j _ _ h => pxF_any h) rfl (hI.more.pure _ (by decide) (by decide) (by decide) (by decide)) hI.below)
            · exact wpOp_move rfl (wanted_free rfl) _ rfl _ (hI.same 9 (by decide)) (hI.put (by decide) (by decide) (fun j _ _ h => pxF_any h) rfl (hI.more.pure _ (by decide) (by decide) (by decide) (by decide)) hI.below)
            · exact wpOp_move rfl (wanted_free rfl) _ rfl _ (hI.same 10 (by decide)) (hI.put (by decide) (by decide) (fun j _ _ h => pxF_any h) rfl (hI.more.pure _ (by decide) (by decide) (by decide) (by decide)) hI.below)
            · exact wpOp_index rfl (wanted_free rfl) _ _ _ rfl _ _ _ (hF 2 (hpre 2 (by kernel_rfl))) (hF 3 (hpre 3 (by kernel_rfl))) (run_idx99 wy g m3 c3 k hk) (hI.put (by decide) (by decide) (fun j _ _ h => pxF_any h) rfl (hI.more.pure _ (by decide) (by decide) (by decide) (by decide)) hI.below)
            · exact wpOp_load rfl (wanted_free rfl) _ _ rfl _ _ (hF 4 (hpre 4 (by kernel_rfl))) (run_load99 wy g k s (by rw [hs'.out]; exact ix_cell hI.more hk hy'.out)) (hI.put (by decide) (by decide) (fun j _ _ h => pxF_any h) rfl (hI.more.pure _ (by decide) (by decide) (by decide) (by decide)) hI.below)
            · obtain ⟨S3, S4, l1, l2, hDy, hLy, hBy, hsy, n6, _, n13, _⟩ := hI.more.rd
              have hn13 : ¬ D 13 := fun h => hnd (hcl 13 h 6 (by kernel_rfl))
              obtain ⟨rfl, hxy⟩ := n6 hnd
              obtain ⟨_, hXx, ho, _⟩ := bts_holds hxy
              exact wpOp_call3 rfl (wanted_free rfl) 8 _ _ _ _ rfl _ _ _ (hF 0 (hpre 0 (by kernel_rfl))) (hF 1 (hpre 1 (by kernel_rfl))) (hF 5 (hpre 5 (by kernel_rfl))) (enters_pp _ _) (hputP.out wy S3 hDy.p hXx ho) (fun e w' h => by
                obtain ⟨r, S', rfl, hown, hof, hst⟩ := h
                exact ⟨_, rfl, hI.put (by decide) (by decide) (fun j _ _ h => pxF_any h) trivial (ix_opP hn13 (by rw [hI.size]; decide) hDy hLy hBy hsy (n13 hn13) hown hof hst) (below_none hI.below hst.alt)⟩)
            · exact wpOp_move rfl (wanted_free rfl) _ rfl _ (hI.same 6 (by decide)) (hI.put (by decide) (by decide) (fun j _ _ h => pxF_any h) rfl (hI.more.pure _ (by decide) (by decide) (by decide) (by decide)) hI.below)
            · exact wpOp_move rfl (wanted_free rfl) _ rfl _ (hI.same 8 (by decide)) (hI.put (by decide) (by decide) (fun j _ _ h => pxF_any h) rfl (hI.more.pure _ (by decide) (by decide) (by decide) (by decide)) hI.below)
            · exact wpOp_move rfl (wanted_free rfl) _ rfl _ (hI.same 9 (by decide)) (hI.put (by decide) (by decide) (fun j _ _ h => pxF_any h) rfl (hI.more.pure _ (by decide) (by decide) (by decide) (by decide)) hI.below)
            · exact wpOp_move rfl (wanted_free rfl) _ rfl _ (hI.same 10 (by decide)) (hI.put (by decide) (by decide) (fun j _ _ h => pxF_any h) rfl (hI.more.pure _ (by decide) (by decide) (by decide) (by decide)) hI.below)
            · exact wpOp_index rfl (wanted_free rfl) _ _ _ rfl _ _ _ (hF 9 (hpre 9 (by kernel_rfl))) (hF 10 (hpre 10 (by kernel_rfl))) (run_idx99 wy g m3 c3 k hk) (hI.put (by decide) (by decide) (fun j _ _ h => pxF_any h) rfl (hI.more.pure _ (by decide) (by decide) (by decide) (by decide)) hI.below)
            · exact wpOp_load rfl (wanted_free rfl) _ _ rfl _ _ (hF 11 (hpre 11 (by kernel_rfl))) (run_load99 wy g k s (by rw [hs'.out]; exact ix_cell hI.more hk hy'.out)) (hI.put (by decide) (by decide) (fun j _ _ h => pxF_any h) rfl (hI.more.pure _ (by decide) (by decide) (by decide) (by decide)) hI.below)
            · obtain ⟨S3, S4, l1, l2, hDy, hLy, hBy, hsy, _, d6, n13, _⟩ := hI.more.rd
              have hd6 : D 6 := hpre 6 (by kernel_rfl)
              obtain ⟨rfl, hyy⟩ := n13 hnd
              obtain ⟨_, hYy, _, _⟩ := bts_holds hyy
              exact wpOp_call3 rfl (wanted_free rfl) 9 _ _ _ _ rfl _ _ _ (hF 7 (hpre 7 (by kernel_rfl))) (hF 8 (hpre 8 (by kernel_rfl))) (hF 12 (hpre 12 (by kernel_rfl))) (enters_rp _ _) (hputR.out wy S4 hDy.r hYy) (fun e w' h => by
                obtain ⟨r, S', rfl, hown, hof, hst⟩ := h
                exact ⟨_, rfl, hI.put (by decide) (by decide) (fun j _ _ h => pxF_any h) trivial (ix_opR hd6 (by rw [hI.size]; decide) hDy hLy hBy hsy (d6 hd6) hown hof hst) (below_none hI.below hst.alt)⟩)
          · intro D a w5 hI hall
            obtain ⟨S3, S4, l1, l2, hD5, hL5, hB5, hs5, _, d6, _, d13⟩ := hI.more.rd
            obtain ⟨e1, hbx5⟩ := d6 (hall 6 (by decide))
            obtain ⟨e2, hby5⟩ := d13 (hall 13 (by decide))
            replace e1 := e1.symm
            replace e2 := e2.symm
            subst e1
            subst e2
            obtain ⟨fs, ha, hfs⟩ := hI.done (by decide) rfl (fun i hi => hall i hi)
            have hN : ∀ t ∈ [31, 32, 33, 34, 35, 36, 37, 38, 39, 40, 41, 42, 43, 44], t < 61 := by decide
            rw [putAll_eval ha (by decide) (fun t ht => hN t ht) (t := 37) (by decide)] at hbx5
            rw [putAll_eval ha (by decide) (fun t ht => hN t ht) (t := 44) (by decide)] at hby5
            clear hN
            subst ha
            have hD3 := Lib.hid hD5
            have hL5 := Lib.hid hL5
            have hB5 := Lib.hid hB5
            have hbx5 := Lib.hid hbx5
            have hby5 := Lib.hid hby5
            clear hI hall hfs d6 d13 hD5
            simp only [putAll, List.map_cons, List.map_nil, Act.put, List.setIfInBounds_toArray, List.set_cons_zero, List.set_cons_succ]
            generalize fs 31 = u31
            generalize fs 32 = u32
            generalize fs 33 = u33
            generalize fs 34 = u34
            generalize fs 35 = u35
            generalize fs 36 = u36
            generalize fs 37 = vx at *
            generalize fs 38 = u38
            generalize fs 39 = u39
            generalize fs 40 = u40
            generalize fs 41 = u41
            generalize fs 42 = u42
            generalize fs 43 = u43
            generalize fs 44 = vy at *
            show wpOps _ _ _ [14, 15] _ w5
            rw [wpOps_cons]
            refine wpOp_assign rfl (wanted_free rfl) _ rfl vx rfl ?_
            show wpOps _ _ _ [15] (Act.put _ (some 7) vx) w5
            rw [wpOps_cons]
            refine wpOp_assign rfl (wanted_free rfl) _ rfl vy rfl ?_
            show wpOps _ _ _ [] (Act.put _ (some 8) vy) w5
            rw [wpOps]
            simp only [Act.put, List.setIfInBounds_toArray, List.set_cons_zero, List.set_cons_succ]
            obtain ⟨A9, c9, hc⟩ := hD3.out.r.list
            have hc9 := Lib.hid hc
            clear hc
            obtain ⟨z, hz⟩ : ∃ z, z = strOfNums Y' := ⟨_, rfl⟩
            have hcv : Hid ((∀ wy, Below w5.heap.size w5 wy → (convert 22 9 vx).run Try.prog wy = .ok (.string z) wy) ∧ ∀ wy, Below w5.heap.size w5 wy → (convert 22 9 vy).run Try.prog wy = .ok (.string z) wy) := Lib.hid (by
              refine ⟨fun wy hb => ?_, fun wy hb => ?_⟩
              · obtain ⟨A7, c7, e7, h7, _⟩ := hbx5.out.rd
                rw [e7, hz]
                exact run_text (P := Try.prog) 22 9 5 Try.underlying22 Try.underlying5 Try.underlying9 (h7.later hb)
              · obtain ⟨A7, c7, e7, h7, _⟩ := hby5.out.rd
                rw [e7, hz]
                exact run_text (P := Try.prog) 22 9 5 Try.underlying22 Try.underlying5 Try.underlying9 (h7.later hb))
            clear hz
            go_wp2
            obtain ⟨b2, hb2⟩ : ∃ b2, b2 = w1.heap.size := ⟨_, rfl⟩
            rw [← hb2] at hc9 hD3 ⊢
            refine wp_region_each (RInv 61 [45, 46, 47, 48, 49, 50, 51, 52, 53, 54, 55, 56, 57, 58, 59] _ (puF9 vx vy z b1 b2 A9 T'.length c9) w5 NoMore) (by kernel_rfl) (by kernel_rfl) (RInv.start rfl trivial (Below.refl _ _).drew) ?_ ?_
            · intro i hi D a wy hI hcl hnd hpre
              have hi' : i < 15 := hi
              have hcase : i = 0 ∨ i = 1 ∨ i = 2 ∨ i = 3 ∨ i = 4 ∨ i = 5 ∨ i = 6 ∨ i = 7 ∨ i = 8 ∨ i = 9 ∨ i = 10 ∨ i = 11 ∨ i = 12 ∨ i = 13 ∨ i = 14 := by omega
              have hF := hI.fact
              rcases hcase with rfl | rfl | rfl | rfl | rfl | rfl | rfl | rfl | rfl | rfl | rfl | rfl | rfl | rfl | rfl
              · exact wpOp_move rfl (wanted_free rfl) _ rfl _ (hI.same 7 (by decide)) (hI.add (by decide) puF9_later (by decide) (Below.refl _ _) rfl)
              · exact wpOp_convert rfl (wanted_free rfl) _ _ _ rfl _ _ (hF 0 (hpre 0 (by kernel_rfl))) (hcv.out.1 wy hI.below) (hI.add (by decide) puF9_later (by decide) (Below.refl _ _) rfl)
              · exact wpOp_move rfl (wanted_free rfl) _ rfl _ (hI.same 8 (by decide)) (hI.add (by decide) puF9_later (by decide) (Below.refl _ _) rfl)
              · exact wpOp_convert rfl (wanted_free rfl) _ _ _ rfl _ _ (hF 2 (hpre 2 (by kernel_rfl))) (hcv.out.2 wy hI.below) (hI.add (by decide) puF9_later (by decide) (Below.refl _ _) rfl)
              · exact wpOp_bin rfl (wanted_free rfl) _ _ _ _ _ rfl _ _ _ (hF 1 (hpre 1 (by kernel_rfl))) (hF 3 (hpre 3 (by kernel_rfl))) (run_neqS9 _ _ _ wy) (hI.add (by decide) puF9_later (by decide) (Below.refl _ _) rfl)
              · exact wpOp_move rfl (wanted_free rfl) _ rfl _ (hF 4 (hpre 4 (by kernel_rfl))) (hI.add (by decide) puF9_later (by decide) (Below.refl _ _) rfl)
              · have g5 := hF 5 (hpre 5 (by kernel_rfl))
                exact wpOp_move rfl (wanted_by (d := 50) rfl _ rfl rfl g5) _ rfl _ (hI.same 5 (by decide)) (hI.add (by decide) puF9_later (by decide) (Below.refl _ _) rfl)
              · have g5 := hF 5 (hpre 5 (by kernel_rfl))
                exact wpOp_call1 rfl (wanted_by (d := 50) rfl _ rfl rfl g5) 10 _ _ rfl _ (hF 6 (hpre 6 (by kernel_rfl))) (enters_len _ _) (lenP_any b1 T' _ wy (hD3.out.p.later hI.below)) (fun e w' h => ⟨_, h.1, by obtain ⟨_, rfl⟩ := h; exact (hI.add (by decide) puF9_later (by decide) (Below.refl _ _) rfl)⟩)
              · have g5 := hF 5 (hpre 5 (by kernel_rfl))
                exact wpOp_move rfl (wanted_by (d := 50) rfl _ rfl rfl g5) _ rfl _ (hI.same 6 (by decide)) (hI.add (by decide) puF9_later (by decide) (Below.refl _ _) rfl)
              · have g5 := hF 5 (hpre 5 (by kernel_rfl))
                exact wpOp_nil9 rfl (wanted_by (d := 50) rfl _ rfl rfl g5) _ rfl _ (hF 8 (hpre 8 (by kernel_rfl))) (hI.add (by decide) puF9_later (by decide) (Below.refl _ _) rfl)
              · have g5 := hF 5 (hpre 5 (by kernel_rfl))
                exact wpOp_field rfl (wanted_by (d := 50) rfl _ rfl rfl g5) _ _ _ rfl _ _ (hF 9 (hpre 9 (by kernel_rfl))) (run_fieldR wy b2) (hI.add (by decide) puF9_later (by decide) (Below.refl _ _) rfl)
              · have g5 := hF 5 (hpre 5 (by kernel_rfl))
                exact wpOp_load rfl (wanted_by (d := 50) rfl _ rfl rfl g5) _ _ rfl _ _ (hF 10 (hpre 10 (by kernel_rfl))) (run_loadT1 wy b2 0 A9 _ c9 (cell_later hI.below hc9.out)) (hI.add (by decide) puF9_later (by decide) (Below.refl _ _) rfl)
              · have g5 := hF 5 (hpre 5 (by kernel_rfl))
                exact wpOp_len rfl (wanted_by (d := 50) rfl _ rfl rfl g5) _ _ rfl _ Try.underlying23 _ _ _ (hF 11 (hpre 11 (by kernel_rfl))) (hI.add (by decide) puF9_later (by decide) (Below.refl _ _) rfl)
              · have g5 := hF 5 (hpre 5 (by kernel_rfl))
                exact wpOp_bin rfl (wanted_by (d := 50) rfl _ rfl rfl g5) _ _ _ _ _ rfl _ _ _ (hF 7 (hpre 7 (by kernel_rfl))) (hF 12 (hpre 12 (by kernel_rfl))) (run_neqI9 _ _ _ wy) (hI.add (by decide) puF9_later (by decide) (Below.refl _ _) rfl)
              · exact wpOp_pick rfl (wanted_free rfl) _ _ _ rfl false (hF 5 (hpre 5 (by kernel_rfl))) _ (hF 13 (hpre 13 (by kernel_rfl))) (hI.add (by decide) puF9_later (by decide) (Below.refl _ _) rfl)
            · intro D a w9 hI hall
              have hB9 := Lib.hid hI.below
              obtain ⟨fs, rfl, hfs⟩ := hI.done (by decide) rfl (fun i hi => hall i hi)
              have e9 : fs 59 = .bool false := hfs 14 (by decide)
              clear hI hall hfs
              simp only [putAll, List.map_cons, List.map_nil, Act.put, List.setIfInBounds_toArray, List.set_cons_zero, List.set_cons_succ]
              rw [e9]
              clear e9
              generalize fs 45 = u45
              generalize fs 46 = u46
              generalize fs 47 = u47
              generalize fs 48 = u48
              generalize fs 49 = u49
              generalize fs 50 = u50
              generalize fs 51 = u51
              generalize fs 52 = u52
              generalize fs 53 = u53
              generalize fs 54 = u54
              generalize fs 55 = u55
              generalize fs 56 = u56
              generalize fs 57 = u57
              generalize fs 58 = u58
              have hD6 := Lib.hid (hD3.out.later hB9.out)
              subst hb2
              have hB6 := Lib.hid (belowB hB5.out hB9.out hs5)
              have hL6 := Lib.hid (hL5.out.later hB9.out)
              have hbx6 := Lib.hid (hbx5.out.later hB9.out)
              have hby6 := Lib.hid (hby5.out.later hB9.out)
              go_wp2
              go_roundw
              case rel => exact ⟨k + 1, T', Y', _, _, by omega, by go_num, hD6.out, Nat.le_trans hpl.out (by omega), hL6.out, hB6.out, hbx6.out, hby6.out, hYl'.out⟩
              case measure => simp [RowKit.intOf]; omega
        · obtain rfl : k = m3 := by omega
          have haw := Lib.hid (awake19_any wr)
          clear hbx hby
          go_wp2_with (go_at_call 11; refine haw.out.mono ?_; rintro e w7 ⟨rfl, hb7⟩; have hb7' := Lib.hid (belowB hB.out hb7 hB.out.size); clear hb7)
          go_ret
          exact ⟨rfl, hb7'.out⟩
  · go_enter Try.func3, Try.ntmps3
    go_wp2_with (first
      | (go_at_call 6; refine (newP_any w).mono ?_; rintro e w1 ⟨b1, S1, rfl, hp1, hlo1, hb1⟩; have hb1' := Lib.hid hb1; have hD2 := Lib.hid (duo_new hp1 hlo1 hb1); have hB2 := Lib.hid (hb1.alloc hb1.size (.cells #[.slice Option.none 0 0] 28)); have hT2 := Lib.hid (hl'.out.later hB2.out); clear hp1 hlo1 hb1)
      | (go_at_call 7; refine (few19_any B m d l0 _ hT2.out).mono ?_; rintro e w3 ⟨v3, rfl, ho3, hb3⟩; have hD3 := Lib.hid (hD2.out.later hb3); have hB3 := Lib.hid (belowB hB2.out hb3 hB2.out.size); rw [hL'.out] at ho3; obtain ⟨A3, c3, rfl, hL3⟩ := lst_own ho3 hD2.out.p.low hD2.out.r.low; obtain ⟨m3, hm3⟩ : ∃ m3, m3 = L.length := ⟨_, rfl⟩; rw [← hm3] at hL3; have hL3' := Lib.hid hL3; rw [← hm3]; rw [← hm3] at hfl; clear hm3; clear ho3 hb3 hL3))
    have hxl := Lib.hid (show X.length ≤ 300 + 311 * 0 by have := hX'.out.len; omega)
    go_loopw [7, 8, 10] (fun x y i wr => ∃ (k : Nat) (T : List (List UInt8)) (Y : List Int) (S1 S2 : Nat → Prop), k ≤ m3 ∧ i = .int .i64 k ∧ Duo w.heap.size wr b1 T S1 w1.heap.size T S2 ∧ T.length ≤ k ∧ Lst wr A3 m3 L S1 S2 ∧ Below w.heap.size w wr ∧ Bts wr x Y S1 S2 ∧ Bts wr y Y S1 S2 ∧ Y.length ≤ 300 + 311 * k) (fun _ _ i _ => m3 - (RowKit.intOf i).toNat)
    case atStart => exact ⟨0, [], X, _, _, Nat.zero_le _, rfl, hD3.out, Nat.zero_le _, hL3'.out, hB3.out, bts_arg hX'.out hB3.out hD3.out.lo1 hD3.out.lo2, bts_arg hX'.out hB3.out hD3.out.lo1 hD3.out.lo2, hxl.out⟩
    case round =>
      obtain ⟨k, T, Y, S1', S2', hk, rfl, hD, hTl, hL, hB, hbx, hby, hYl⟩ := hrel
      have hD := Lib.hid hD
      have hL := Lib.hid hL
      have hB := Lib.hid hB
      by_cases hk : k < m3
      · obtain ⟨g, p, rfl, hy, h1⟩ := lst_at hL.out hk
        have hys : p.length ≤ 300 := hfs.out p (List.mem_of_getElem? hy)
        have hpl := Lib.hid (putL_len T p)
        have hbl := putB_len T p (by omega) (by omega)
        have hYl' := Lib.hid (show (Y ++ putB T p).length ≤ 300 + 311 * (k + 1) by rw [List.length_append]; omega)
        obtain ⟨Ax, cx, rfl, _⟩ := hbx.rd
        obtain ⟨Ay, cy, rfl, _⟩ := hby.rd
        have hbx := Lib.hid hbx
        have hby := Lib.hid hby
        have hputP := Lib.hid (fun W S (h : PTab W b1 T S) (hh : Holds W Ax Y.length cx Y) (ho : Off S Ax Y.length) => putP_any b1 T S Ax Y.length cx Y p W h (by omega) hh ho (by omega))
        have hputR := Lib.hid (fun W S (h : RTab W w1.heap.size T S) (hh : Holds W Ay Y.length cy Y) => putR_any w1.heap.size T S Ay Y.length cy Y p W h (by omega) hh (by omega))
        have hy' := Lib.hid hy
        obtain ⟨s, hs⟩ : ∃ s, s = mk p := ⟨_, rfl⟩
        have hs' := Lib.hid hs
        rw [← hs] at h1 hputP hputR
        obtain ⟨ny, hny⟩ : ∃ ny, ny = Y.length := ⟨_, rfl⟩
        rw [← hny] at hbx hby hputP hputR ⊢
        obtain ⟨Y', hY'⟩ : ∃ Y', Y' = Y ++ putB T p := ⟨_, rfl⟩
        obtain ⟨T', hT'⟩ : ∃ T', T' = putL T p := ⟨_, rfl⟩
        rw [← hY', ← hT'] at hputP hputR
        rw [← hY'] at hYl'
        rw [← hT'] at hpl
        clear hy hs hys hbl hYl hny hY' hT'
        go_wp2
        refine wp_region_tail 14 18 (by decide) (by kernel_rfl) (RInv 61 [31, 32, 33, 34, 35, 36, 37, 38, 39, 40, 41, 42, 43, 44] _ (pxF b1 w1.heap.size (.slice Ax ny cx) (.slice Ay ny cy) (.slice (some ⟨g, 0, Option.none⟩) m3 c3) k g s) { wr with heap := #[] } (IX w.heap.size w (some ⟨g, 0, Option.none⟩) m3 L b1 w1.heap.size T T' Y Y' (.slice Ax ny cx) (.slice Ay ny cy))) (by kernel_rfl) (by kernel_rfl) (RInv.start rfl ⟨S1', S2', T, T, hD.out.later (Below.refl _ _).drew, hL.out.later (Below.refl _ _).drew, hB.out.drew, hB.out.size, fun _ => ⟨rfl, hbx.out.later (Below.refl _ _).drew⟩, fun h => h.elim, fun _ => ⟨rfl, hby.out.later (Below.refl _ _).drew⟩, fun h => h.elim⟩ ⟨rfl, rfl, rfl, Nat.zero_le _, fun k hk => absurd hk (by simp)⟩) ?_ ?_
        · intro i hi D a wy hI hcl hnd hpre
          have hi' : i < 14 := hi
          have hcase : i = 0 ∨ i = 1 ∨ i = 2 ∨ i = 3 ∨ i = 4 ∨ i = 5 ∨ i = 6 ∨ i = 7 ∨ i = 8 ∨ i = 9 ∨ i = 10 ∨ i = 11 ∨ i = 12 ∨ i = 13 := by omega
          have hF := hI.fact
          rcases hcase with rfl | rfl | rfl | rfl | rfl | rfl | rfl | rfl | rfl | rfl | rfl | rfl | rfl | rfl
          · exact wpOp_move rfl (wanted_free rfl) _ rfl _ (hI.same 5 (by decide)) (hI.put (by decide) (by decide) (fun j _ _ h => pxF_any h) rfl (hI.more.pure _ (by decide) (by decide) (by decide) (by decide)) hI.below)
          · exact wpOp_move rfl (wanted_free rfl) _ rfl _ (hI.same 7 (by decide)) (hI.put (by decide) (by decide) (fun j _ _ h => pxF_any h) rfl (hI.more.pure _ (by decide) (by decide) (by decide) (by decide)) hI.below)
          · exact wpOp_move rfl (wanted_free rfl) _ rfl _ (hI.same 9 (by decide)) (hI.put (by decide) (by decide) (fun j _ _ h => pxF_any h) rfl (hI.more.pure _ (by decide) (by decide) (by decide) (by decide)) hI.below)
          · exact wpOp_move rfl (wanted_free rfl) _ rfl _ (hI.same 10 (by decide)) (hI.put (by decide) (by decide) (fun j _ _ h => pxF_any h) rfl (hI.more.pure _ (by decide) (by decide) (by decide) (by decide)) hI.below)
          · exact wpOp_index rfl (wanted_free rfl) _ _ _ rfl _ _ _ (hF 2 (hpre 2 (by kernel_rfl))) (hF 3 (hpre 3 (by kernel_rfl))) (run_idx99 wy g m3 c3 k hk) (hI.put (by decide) (by decide) (fun j _ _ h => pxF_any h) rfl (hI.more.pure _ (by decide) (by decide) (by decide) (by decide)) hI.below)
          · exact wpOp_load rfl (wanted_free rfl) _ _ rfl _ _ (hF 4 (hpre 4 (by kernel_rfl))) (run_load99 wy g k s (by rw [hs'.out]; exact ix_cell hI.more hk hy'.out)) (hI.put (by decide) (by decide) (fun j _ _ h => pxF_any h) rfl (hI.more.pure _ (by decide) (by decide) (by decide) (by decide)) hI.below)
          · obtain ⟨S3, S4, l1, l2, hDy, hLy, hBy, hsy, n6, _, n13, _⟩ := hI.more.rd
            have hn13 : ¬ D 13 := fun h => hnd (hcl 13 h 6 (by kernel_rfl))
            obtain ⟨rfl, hxy⟩ := n6 hnd
            obtain ⟨_, hXx, ho, _⟩ := bts_holds hxy
            exact wpOp_call3 rfl (wanted_free rfl) 8 _ _ _ _ rfl _ _ _ (hF 0 (hpre 0 (by kernel_rfl))) (hF 1 (hpre 1 (by kernel_rfl))) (hF 5 (hpre 5 (by kernel_rfl))) (enters_pp _ _) (hputP.out wy S3 hDy.p hXx ho) (fun e w' h => by
              obtain ⟨r, S', rfl, hown, hof, hst⟩ := h
              exact ⟨_, rfl, hI.put (by decide) (by decide) (fun j _ _ h => pxF_any h) trivial (ix_opP hn13 (by rw [hI.size]; decide) hDy hLy hBy hsy (n13 hn13) hown hof hst) (below_none hI.below hst.alt)⟩)
          · exact wpOp_move rfl (wanted_free rfl) _ rfl _ (hI.same 6 (by decide)) (hI.put (by decide) (by decide) (fun j _ _ h => pxF_any h) rfl (hI.more.pure _ (by decide) (by decide) (by decide) (by decide)) hI.below)
          · exact wpOp_move rfl (wanted_free rfl) _ rfl _ (hI.same 8 (by decide)) (hI.put (by decide) (by decide) (fun j _ _ h => pxF_any h) rfl (hI.more.pure _ (by decide) (by decide) (by decide) (by decide)) hI.below)
          · exact wpOp_move rfl (wanted_free rfl) _ rfl _ (hI.same 9 (by decide)) (hI.put (by decide) (by decide) (fun j _ _ h => pxF_any h) rfl (hI.more.pure _ (by decide) (by decide) (by decide) (by decide)) hI.below)
          · exact wpOp_move rfl (wanted_free rfl) _ rfl _ (hI.same 10 (by decide)) (hI.put (by decide) (by decide) (fun j _ _ h => pxF_any h) rfl (hI.more.pure _ (by decide) (by decide) (by decide) (by decide)) hI.below)
          · exact wpOp_index rfl (wanted_free rfl) _ _ _ rfl _ _ _ (hF 9 (hpre 9 (by kernel_rfl))) (hF 10 (hpre 10 (by kernel_rfl))) (run_idx99 wy g m3 c3 k hk) (hI.put (by decide) (by decide) (fun j _ _ h => pxF_any h) rfl (hI.more.pure _ (by decide) (by decide) (by decide) (by decide)) hI.below)
          · exact wpOp_load rfl (wanted_free rfl) _ _ rfl _ _ (hF 11 (hpre 11 (by kernel_rfl))) (run_load99 wy g k s (by rw [hs'.out]; exact ix_cell hI.more hk hy'.out)) (hI.put (by decide) (by decide) (fun j _ _ h => pxF_any h) rfl (hI.more.pure _ (by decide) (by decide) (by decide) (by decide)) hI.below)
          · obtain ⟨S3, S4, l1, l2, hDy, hLy, hBy, hsy, _, d6, n13, _⟩ := hI.more.rd
            have hd6 : D 6 := hpre 6 (by kernel_rfl)
            obtain ⟨rfl, hyy⟩ := n13 hnd
            obtain ⟨_, hYy, _, _⟩ := bts_holds hyy
            exact wpOp_call3 rfl (wanted_free rfl) 9 _ _ _ _ rfl _ _ _ (hF 7 (hpre 7 (by kernel_rfl))) (hF 8 (hpre 8 (by kernel_rfl))) (hF 12 (hpre 12 (by kernel_rfl))) (enters_rp _ _) (hputR.out wy S4 hDy.r hYy) (fun e w' h => by
              obtain ⟨r, S', rfl, hown, hof, hst⟩ := h
              exact ⟨_, rfl, hI.put (by decide) (by decide) (fun j _ _ h => pxF_any h) trivial (ix_opR hd6 (by rw [hI.size]; decide) hDy hLy hBy hsy (d6 hd6) hown hof hst) (below_none hI.below hst.alt)⟩)
        · intro D a w5 hI hall
          obtain ⟨S3, S4, l1, l2, hD5, hL5, hB5, hs5, _, d6, _, d13⟩ := hI.more.rd
          obtain ⟨e1, hbx5⟩ := d6 (hall 6 (by decide))
          obtain ⟨e2, hby5⟩ := d13 (hall 13 (by decide))
          replace e1 := e1.symm
          replace e2 := e2.symm
          subst e1
          subst e2
          obtain ⟨fs, ha, hfs⟩ := hI.done (by decide) rfl (fun i hi => hall i hi)
          have hN : ∀ t ∈ [31, 32, 33, 34, 35, 36, 37, 38, 39, 40, 41, 42, 43, 44], t < 61 := by decide
          rw [putAll_eval ha (by decide) (fun t ht => hN t ht) (t := 37) (by decide)] at hbx5
          rw [putAll_eval ha (by decide) (fun t ht => hN t ht) (t := 44) (by decide)] at hby5
          clear hN
          subst ha
          have hD3 := Lib.hid hD5
          have hL5 := Lib.hid hL5
          have hB5 := Lib.hid hB5
          have hbx5 := Lib.hid hbx5
          have hby5 := Lib.hid hby5
          clear hI hall hfs d6 d13 hD5
          simp only [putAll, List.map_cons, List.map_nil, Act.put, List.setIfInBounds_toArray, List.set_cons_zero, List.set_cons_succ]
          generalize fs 31 = u31
          generalize fs 32 = u32
          generalize fs 33 = u33
          generalize fs 34 = u34
          generalize fs 35 = u35
          generalize fs 36 = u36
          generalize fs 37 = vx at *
          generalize fs 38 = u38
          generalize fs 39 = u39
          generalize fs 40 = u40
          generalize fs 41 = u41
          generalize fs 42 = u42
          generalize fs 43 = u43
          generalize fs 44 = vy at *
          show wpOps _ _ _ [14, 15] _ w5
          rw [wpOps_cons]
          refine wpOp_assign rfl (wanted_free rfl) _ rfl vx rfl ?_
          show wpOps _ _ _ [15] (Act.put _ (some 7) vx) w5
          rw [wpOps_cons]
          refine wpOp_assign rfl (wanted_free rfl) _ rfl vy rfl ?_
          show wpOps _ _ _ [] (Act.put _ (some 8) vy) w5
          rw [wpOps]
          simp only [Act.put, List.setIfInBounds_toArray, List.set_cons_zero, List.set_cons_succ]
          obtain ⟨A9, c9, hc⟩ := hD3.out.r.list
          have hc9 := Lib.hid hc
          clear hc
          obtain ⟨z, hz⟩ : ∃ z, z = strOfNums Y' := ⟨_, rfl⟩
          have hcv : Hid ((∀ wy, Below w5.heap.size w5 wy → (convert 22 9 vx).run Try.prog wy = .ok (.string z) wy) ∧ ∀ wy, Below w5.heap.size w5 wy → (convert 22 9 vy).run Try.prog wy = .ok (.string z) wy) := Lib.hid (by
            refine ⟨fun wy hb => ?_, fun wy hb => ?_⟩
            · obtain ⟨A7, c7, e7, h7, _⟩ := hbx5.out.rd
              rw [e7, hz]
              exact run_text (P := Try.prog) 22 9 5 Try.underlying22 Try.underlying5 Try.underlying9 (h7.later hb)
            · obtain ⟨A7, c7, e7, h7, _⟩ := hby5.out.rd
              rw [e7, hz]
              exact run_text (P := Try.prog) 22 9 5 Try.underlying22 Try.underlying5 Try.underlying9 (h7.later hb))
          clear hz
          go_wp2
          obtain ⟨b2, hb2⟩ : ∃ b2, b2 = w1.heap.size := ⟨_, rfl⟩
          rw [← hb2] at hc9 hD3 ⊢
          refine wp_region_each (RInv 61 [45, 46, 47, 48, 49, 50, 51, 52, 53, 54, 55, 56, 57, 58, 59] _ (puF9 vx vy z b1 b2 A9 T'.length c9) w5 NoMore) (by kernel_rfl) (by kernel_rfl) (RInv.start rfl trivial (Below.refl _ _).drew) ?_ ?_
          · intro i hi D a wy hI hcl hnd hpre
            have hi' : i < 15 := hi
            have hcase : i = 0 ∨ i = 1 ∨ i = 2 ∨ i = 3 ∨ i = 4 ∨ i = 5 ∨ i = 6 ∨ i = 7 ∨ i = 8 ∨ i = 9 ∨ i = 10 ∨ i = 11 ∨ i = 12 ∨ i = 13 ∨ i = 14 := by omega
            have hF := hI.fact
            rcases hcase with rfl | rfl | rfl | rfl | rfl | rfl | rfl | rfl | rfl | rfl | rfl | rfl | rfl | rfl | rfl
            · exact wpOp_move rfl (wanted_free rfl) _ rfl _ (hI.same 7 (by decide)) (hI.add (by decide) puF9_later (by decide) (Below.refl _ _) rfl)
            · exact wpOp_convert rfl (wanted_free rfl) _ _ _ rfl _ _ (hF 0 (hpre 0 (by kernel_rfl))) (hcv.out.1 wy hI.below) (hI.add (by decide) puF9_later (by decide) (Below.refl _ _) rfl)
            · exact wpOp_move rfl (wanted_free rfl) _ rfl _ (hI.same 8 (by decide)) (hI.add (by decide) puF9_later (by decide) (Below.refl _ _) rfl)
            · exact wpOp_convert rfl (wanted_free rfl) _ _ _ rfl _ _ (hF 2 (hpre 2 (by kernel_rfl))) (hcv.out.2 wy hI.below) (hI.add (by decide) puF9_later (by decide) (Below.refl _ _) rfl)
            · exact wpOp_bin rfl (wanted_free rfl) _ _ _ _ _ rfl _ _ _ (hF 1 (hpre 1 (by kernel_rfl))) (hF 3 (hpre 3 (by kernel_rfl))) (run_neqS9 _ _ _ wy) (hI.add (by decide) puF9_later (by decide) (Below.refl _ _) rfl)
            · exact wpOp_move rfl (wanted_free rfl) _ rfl _ (hF 4 (hpre 4 (by kernel_rfl))) (hI.add (by decide) puF9_later (by decide) (Below.refl _ _) rfl)
            · have g5 := hF 5 (hpre 5 (by kernel_rfl))
              exact wpOp_move rfl (wanted_by (d := 50) rfl _ rfl rfl g5) _ rfl _ (hI.same 5 (by decide)) (hI.add (by decide) puF9_later (by decide) (Below.refl _ _) rfl)
            · have g5 := hF 5 (hpre 5 (by kernel_rfl))
              exact wpOp_call1 rfl (wanted_by (d := 50) rfl _ rfl rfl g5) 10 _ _ rfl _ (hF 6 (hpre 6 (by kernel_rfl))) (enters_len _ _) (lenP_any b1 T' _ wy (hD3.out.p.later hI.below)) (fun e w' h => ⟨_, h.1, by obtain ⟨_, rfl⟩ := h; exact (hI.add (by decide) puF9_later (by decide) (Below.refl _ _) rfl)⟩)
            · have g5 := hF 5 (hpre 5 (by kernel_rfl))
              exact wpOp_move rfl (wanted_by (d := 50) rfl _ rfl rfl g5) _ rfl _ (hI.same 6 (by decide)) (hI.add (by decide) puF9_later (by decide) (Below.refl _ _) rfl)
            · have g5 := hF 5 (hpre 5 (by kernel_rfl))
              exact wpOp_nil9 rfl (wanted_by (d := 50) rfl _ rfl rfl g5) _ rfl _ (hF 8 (hpre 8 (by kernel_rfl))) (hI.add (by decide) puF9_later (by decide) (Below.refl _ _) rfl)
            · have g5 := hF 5 (hpre 5 (by kernel_rfl))
              exact wpOp_field rfl (wanted_by (d := 50) rfl _ rfl rfl g5) _ _ _ rfl _ _ (hF 9 (hpre 9 (by kernel_rfl))) (run_fieldR wy b2) (hI.add (by decide) puF9_later (by decide) (Below.refl _ _) rfl)
            · have g5 := hF 5 (hpre 5 (by kernel_rfl))
              exact wpOp_load rfl (wanted_by (d := 50) rfl _ rfl rfl g5) _ _ rfl _ _ (hF 10 (hpre 10 (by kernel_rfl))) (run_loadT1 wy b2 0 A9 _ c9 (cell_later hI.below hc9.out)) (hI.add (by decide) puF9_later (by decide) (Below.refl _ _) rfl)
            · have g5 := hF 5 (hpre 5 (by kernel_rfl))
              exact wpOp_len rfl (wanted_by (d := 50) rfl _ rfl rfl g5) _ _ rfl _ Try.underlying23 _ _ _ (hF 11 (hpre 11 (by kernel_rfl))) (hI.add (by decide) puF9_later (by decide) (Below.refl _ _) rfl)
            · have g5 := hF 5 (hpre 5 (by kernel_rfl))
              exact wpOp_bin rfl (wanted_by (d := 50) rfl _ rfl rfl g5) _ _ _ _ _ rfl _ _ _ (hF 7 (hpre 7 (by kernel_rfl))) (hF 12 (hpre 12 (by kernel_rfl))) (run_neqI9 _ _ _ wy) (hI.add (by decide) puF9_later (by decide) (Below.refl _ _) rfl)
            · exact wpOp_pick rfl (wanted_free rfl) _ _ _ rfl false (hF 5 (hpre 5 (by kernel_rfl))) _ (hF 13 (hpre 13 (by kernel_rfl))) (hI.add (by decide) puF9_later (by decide) (Below.refl _ _) rfl)
          · intro D a w9 hI hall
            have hB9 := Lib.hid hI.below
            obtain ⟨fs, rfl, hfs⟩ := hI.done (by decide) rfl (fun i hi => hall i hi)
            have e9 : fs 59 = .bool false := hfs 14 (by decide)
            clear hI hall hfs
            simp only [putAll, List.map_cons, List.map_nil, Act.put, List.setIfInBounds_toArray, List.set_cons_zero, List.set_cons_succ]
            rw [e9]
            clear e9
            generalize fs 45 = u45
            generalize fs 46 = u46
            generalize fs 47 = u47
            generalize fs 48 = u48
            generalize fs 49 = u49
            generalize fs 50 = u50
            generalize fs 51 = u51
            generalize fs 52 = u52
            generalize fs 53 = u53
            generalize fs 54 = u54
            generalize fs 55 = u55
            generalize fs 56 = u56
            generalize fs 57 = u57
            generalize fs 58 = u58
            have hD6 := Lib.hid (hD3.out.later hB9.out)
            subst hb2
            have hB6 := Lib.hid (belowB hB5.out hB9.out hs5)
            have hL6 := Lib.hid (hL5.out.later hB9.out)
            have hbx6 := Lib.hid (hbx5.out.later hB9.out)
            have hby6 := Lib.hid (hby5.out.later hB9.out)
            go_wp2
            go_roundw
            case rel => exact ⟨k + 1, T', Y', _, _, by omega, by go_num, hD6.out, Nat.le_trans hpl.out (by omega), hL6.out, hB6.out, hbx6.out, hby6.out, hYl'.out⟩
            case measure => simp [RowKit.intOf]; omega
      · obtain rfl : k = m3 := by omega
        have haw := Lib.hid (awake19_any wr)
        clear hbx hby
        go_wp2_with (go_at_call 11; refine haw.out.mono ?_; rintro e w7 ⟨rfl, hb7⟩; have hb7' := Lib.hid (belowB hB.out hb7 hB.out.size); clear hb7)
        go_ret
        exact ⟨rfl, hb7'.out⟩
end Go.Proofs.Ytlmchoonokglaaa
