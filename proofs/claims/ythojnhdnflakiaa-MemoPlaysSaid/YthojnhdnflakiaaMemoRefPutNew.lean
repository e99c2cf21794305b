/-
  The reference's Put of layer 15 where no entry has the key. Conditions: those that each theorem states.
-/
import Derived.Test.YthojnhdnflakiaaMemoRefPutX
namespace Go.Proofs.Ythojnhdnflakiaa
open Go.RowKit Go.Lib Go.Shelf

set_option maxHeartbeats 16000000 in
set_option maxRecDepth 100000 in
theorem refPutRoom_any (b most : Nat) (v : Value) (l : List Ent) (x : Ent) (now : Int) (w : World) (h : RM w b most v l) (hll : l.length ≤ 1000) (hsp : spot l x = l.length) (hmn : l.length < most) :
    Calls Try.prog 14 #[.pointer (some ⟨b, 0, Option.none⟩), evalue x, .int .i64 now] w fun e w' => e = .returned (.tuple #[]) ∧ (∃ v', RM w' b most v' (put most l x now) ∧ Fresh w.heap.size v') ∧ w.grownBy w' (some b) := by
  obtain ⟨i0, hi0, hi1, hi2, hi3⟩ := info_parts Try.infoE
  obtain ⟨A, c, rfl, hE⟩ := h.own.eds
  have hput := Lib.hid (show put most l x now = l ++ [x] by
    have h1 : ¬ spot l x < l.length := by omega
    have h2 : ¬ most ≤ l.length := by omega
    unfold put room
    simp only [if_neg h1, if_neg h2])
  have hlf := Lib.hid (show l.length ≤ 1000 by omega)
  obtain ⟨n, hn⟩ : ∃ n, n = l.length := ⟨_, rfl⟩
  rw [← hn] at hE hmn h
  have hnm : n ≤ 1000 := by omega
  have hmn' := Lib.hid hmn
  have hl := Lib.hid hE.len
  have hM := Lib.hid h
  have hE' := Lib.hid hE
  have hltb := Lib.hid h.lt
  have hbx := Lib.hid (six_new w x 32)
  have hb0 := Lib.hid (below_box w (.cells (ecell x).toArray 32))
  have hslt := Lib.hid (fun k (h2 : k < l.length) => spot_lt (x := x) (by omega : k < spot l x) h2)
  obtain ⟨w0, hw0⟩ : ∃ w0, w0 = w.alloc (.cells (ecell x).toArray 32) := ⟨_, rfl⟩
  have hsz0 := Lib.hid (show w.heap.size < w0.heap.size by rw [hw0]; simp)
  rw [← hw0] at hbx hb0
  have hw0' : Hid (w.alloc (.cells #[.string x.fr, .string x.at_, .bool x.cred, .string x.me, .string x.he, .int .i64 x.til] 32) = w0) := Lib.hid hw0.symm
  clear h hE hw0 hn hll hsp hmn
  have hev : evalue x = .agg #[.string x.fr, .string x.at_, .bool x.cred, .string x.me, .string x.he, .int .i64 x.til] := rfl
  rw [hev]
  clear hev
  go_enter Try.func14, Try.ntmps14
  go_wp2
  rw [hw0'.out]
  go_loopw [6] (fun i wr => ∃ q : Nat, q ≤ n ∧ i = .int .i64 q ∧ Below w0.heap.size w0 wr) (fun i _ => n - (RowKit.intOf i).toNat)
  case atStart => exact ⟨0, Nat.zero_le _, rfl, Below.refl _ _⟩
  case round =>
    obtain ⟨q, hq, rfl, hbe⟩ := hrel
    have hbw := Lib.hid (below_then hb0.out hbe)
    have hzr := Lib.hid (hbx.out.later hbe)
    have m1 := (hM.out.later hbw.out).cells.2
    by_cases hlt : q < n
    · have hql : q < l.length := by rw [hl.out]; exact hlt
      obtain ⟨y, hy⟩ : ∃ y, y = l[q] := ⟨_, rfl⟩
      obtain ⟨g, off, rfl, h1, h2, h3, h4, h5, h6⟩ := (hE'.out.later hbw.out).six hlt hy
      have hsk : Hid (sameKey y x = false) := Lib.hid (by rw [hy]; exact hslt.out q hql)
      clear hy
      go_wp2
      refine wp_region_each (RInv 119 [18, 19, 20, 21, 22, 23, 24, 25, 26] _ (mkF b q (some ⟨g, off, Option.none⟩) n c g off x y) wr NoMore) (by kernel_rfl) (by kernel_rfl) (RInv.start rfl trivial (Below.refl _ _).drew) ?_ ?_
      · intro i hi D a wx hI hcl hnd hpre
        have hi' : i < 9 := hi
        have hcase : i = 0 ∨ i = 1 ∨ i = 2 ∨ i = 3 ∨ i = 4 ∨ i = 5 ∨ i = 6 ∨ i = 7 ∨ i = 8 := by omega
        have hF := hI.fact
        rcases hcase with rfl | rfl | rfl | rfl | rfl | rfl | rfl | rfl | rfl
        · exact wpOp_move rfl (wanted_free rfl) _ rfl _ (hI.same 0 (by decide)) (hI.add (by decide) mkF_later (by decide) (Below.refl _ _) rfl)
        · exact wpOp_nil rfl (wanted_free rfl) _ rfl _ (hF 0 (hpre 0 (by kernel_rfl))) (hI.add (by decide) mkF_later (by decide) (Below.refl _ _) rfl)
        · exact wpOp_field rfl (wanted_free rfl) _ _ _ rfl _ _ (hF 1 (hpre 1 (by kernel_rfl))) (run_fieldM wx b) (hI.add (by decide) mkF_later (by decide) (Below.refl _ _) rfl)
        · exact wpOp_load rfl (wanted_free rfl) _ _ rfl _ _ (hF 2 (hpre 2 (by kernel_rfl))) (run_loadM wx b 1 _ _ _ (cell_later hI.below m1)) (hI.add (by decide) mkF_later (by decide) (Below.refl _ _) rfl)
        · exact wpOp_move rfl (wanted_free rfl) _ rfl _ (hI.same 6 (by decide)) (hI.add (by decide) mkF_later (by decide) (Below.refl _ _) rfl)
        · exact wpOp_index rfl (wanted_free rfl) _ _ _ rfl _ _ _ (hF 3 (hpre 3 (by kernel_rfl))) (hF 4 (hpre 4 (by kernel_rfl))) (run_idxE wx g off n c q hlt) (hI.add (by decide) mkF_later (by decide) (Below.refl _ _) rfl)
        · exact wpOp_load rfl (wanted_free rfl) _ _ rfl _ _ (hF 5 (hpre 5 (by kernel_rfl))) (run_loadE wx g _ y (cell_later hI.below h1) (cell_later hI.below h2) (cell_later hI.below h3) (cell_later hI.below h4) (cell_later hI.below h5) (cell_later hI.below h6)) (hI.add (by decide) mkF_later (by decide) (Below.refl _ _) rfl)
        · exact wpOp_load rfl (wanted_free rfl) _ _ rfl _ _ (hI.same 4 (by decide)) (run_loadS wx w.heap.size x (hzr.out.later hI.below)) (hI.add (by decide) mkF_later (by decide) (Below.refl _ _) rfl)
        · exact wpOp_call2 rfl (wanted_free rfl) 27 _ _ _ rfl _ _ (hF 6 (hpre 6 (by kernel_rfl))) (hF 7 (hpre 7 (by kernel_rfl))) (enters_same15 _ _) (refKey_any y x wx) (fun e w' h => ⟨_, h.1, hI.add (by decide) mkF_later (by decide) h.2 rfl⟩)
      · intro D a wx hI hall
        have hB := Lib.hid hI.below
        obtain ⟨fs, rfl, hfs⟩ := hI.done (by decide) rfl (fun i hi => hall i hi)
        have h26 : fs 26 = .bool false := (hfs 8 (by decide)).trans (congrArg Value.bool hsk.out)
        clear hI hall hfs
        simp only [putAll, List.map_cons, List.map_nil, Act.put, List.setIfInBounds_toArray, List.set_cons_zero, List.set_cons_succ]
        rw [h26]
        clear h26
        generalize fs 18 = u18
        generalize fs 19 = u19
        generalize fs 20 = u20
        generalize fs 21 = u21
        generalize fs 22 = u22
        generalize fs 23 = u23
        generalize fs 24 = u24
        generalize fs 25 = u25
        go_wp2
        go_roundw
        case rel => exact ⟨q + 1, by omega, by go_num, below_then hbe hB.out⟩
        case measure => simp [RowKit.intOf]; omega
    · have e : n = q := by omega
      subst e
      have hMr := Lib.hid ((hM.out.later hbw.out).view)
      have hrr := Lib.hid (show decide ((most : Int) ≤ (n : Int)) = false from decide_eq_false (by have := hmn'.out; omega))
      go_wp2
      refine wp_region_each (RInv 119 [45, 46, 47, 48, 49, 50, 51, 52, 53, 54] _ (rmF b most A n c false) wr NoMore) (by kernel_rfl) (by kernel_rfl) (RInv.start rfl trivial (Below.refl _ _).drew) ?_ ?_
      · intro i hi D a wy hI hcl hnd hpre
        have hi' : i < 10 := hi
        have hcase : i = 0 ∨ i = 1 ∨ i = 2 ∨ i = 3 ∨ i = 4 ∨ i = 5 ∨ i = 6 ∨ i = 7 ∨ i = 8 ∨ i = 9 := by omega
        have hF := hI.fact
        rcases hcase with rfl | rfl | rfl | rfl | rfl | rfl | rfl | rfl | rfl | rfl
        · exact wpOp_move rfl (wanted_free rfl) _ rfl _ (hI.same 0 (by decide)) (hI.add (by decide) rmF_later (by decide) (Below.refl _ _) rfl)
        · exact wpOp_nil rfl (wanted_free rfl) _ rfl _ (hF 0 (hpre 0 (by kernel_rfl))) (hI.add (by decide) rmF_later (by decide) (Below.refl _ _) rfl)
        · exact wpOp_field rfl (wanted_free rfl) _ _ _ rfl _ _ (hF 1 (hpre 1 (by kernel_rfl))) (run_fieldM wy b) (hI.add (by decide) rmF_later (by decide) (Below.refl _ _) rfl)
        · exact wpOp_load rfl (wanted_free rfl) _ _ rfl _ _ (hF 2 (hpre 2 (by kernel_rfl))) (run_loadM wy b 1 _ _ _ (hMr.out.later hI.below).cells.2) (hI.add (by decide) rmF_later (by decide) (Below.refl _ _) rfl)
        · exact wpOp_len rfl (wanted_free rfl) _ _ rfl _ Try.underlying39 _ _ _ (hF 3 (hpre 3 (by kernel_rfl))) (hI.add (by decide) rmF_later (by decide) (Below.refl _ _) rfl)
        · exact wpOp_move rfl (wanted_free rfl) _ rfl _ (hI.same 0 (by decide)) (hI.add (by decide) rmF_later (by decide) (Below.refl _ _) rfl)
        · exact wpOp_nil rfl (wanted_free rfl) _ rfl _ (hF 5 (hpre 5 (by kernel_rfl))) (hI.add (by decide) rmF_later (by decide) (Below.refl _ _) rfl)
        · exact wpOp_field rfl (wanted_free rfl) _ _ _ rfl _ _ (hF 6 (hpre 6 (by kernel_rfl))) (run_fieldM0 wy b) (hI.add (by decide) rmF_later (by decide) (Below.refl _ _) rfl)
        · exact wpOp_load rfl (wanted_free rfl) _ _ rfl _ _ (hF 7 (hpre 7 (by kernel_rfl))) (run_loadI wy b 0 _ (hMr.out.later hI.below).cells.1) (hI.add (by decide) rmF_later (by decide) (Below.refl _ _) rfl)
        · exact wpOp_bin rfl (wanted_free rfl) _ _ _ _ _ rfl _ _ _ (hF 4 (hpre 4 (by kernel_rfl))) (hF 8 (hpre 8 (by kernel_rfl))) (run_geq _ _ wy _ _ false hrr.out) (hI.add (by decide) rmF_later (by decide) (Below.refl _ _) rfl)
      · intro D a w2 hI hall
        have hB_w2 := Lib.hid hI.below
        obtain ⟨fs, rfl, hfs⟩ := hI.done (by decide) rfl (fun i hi => hall i hi)
        have hl9 : fs 54 = .bool false := hfs 9 (by decide)
        clear hI hall hfs
        simp only [putAll, List.map_cons, List.map_nil, Act.put, List.setIfInBounds_toArray, List.set_cons_zero, List.set_cons_succ]
        rw [hl9]
        clear hl9
        generalize fs 45 = u45
        generalize fs 46 = u46
        generalize fs 47 = u47
        generalize fs 48 = u48
        generalize fs 49 = u49
        generalize fs 50 = u50
        generalize fs 51 = u51
        generalize fs 52 = u52
        generalize fs 53 = u53
        have hM2 := Lib.hid (hMr.out.later hB_w2.out)
        have hz2 := Lib.hid (hzr.out.later hB_w2.out)
        have hG2 := Lib.hid (below_grows (below_then hbw.out hB_w2.out) (some b))
        go_wp2
        refine wp_region_each (RInv 119 [89, 90, 91, 92, 93, 94, 95, 96, 97, 98] _ (rmF b most A n c false) w2 NoMore) (by kernel_rfl) (by kernel_rfl) (RInv.start rfl trivial (Below.refl _ _).drew) ?_ ?_
        · intro i hi D a wy hI hcl hnd hpre
          have hi' : i < 10 := hi
          have hcase : i = 0 ∨ i = 1 ∨ i = 2 ∨ i = 3 ∨ i = 4 ∨ i = 5 ∨ i = 6 ∨ i = 7 ∨ i = 8 ∨ i = 9 := by omega
          have hF := hI.fact
          rcases hcase with rfl | rfl | rfl | rfl | rfl | rfl | rfl | rfl | rfl | rfl
          · exact wpOp_move rfl (wanted_free rfl) _ rfl _ (hI.same 0 (by decide)) (hI.add (by decide) rmF_later (by decide) (Below.refl _ _) rfl)
          · exact wpOp_nil rfl (wanted_free rfl) _ rfl _ (hF 0 (hpre 0 (by kernel_rfl))) (hI.add (by decide) rmF_later (by decide) (Below.refl _ _) rfl)
          · exact wpOp_field rfl (wanted_free rfl) _ _ _ rfl _ _ (hF 1 (hpre 1 (by kernel_rfl))) (run_fieldM wy b) (hI.add (by decide) rmF_later (by decide) (Below.refl _ _) rfl)
          · exact wpOp_load rfl (wanted_free rfl) _ _ rfl _ _ (hF 2 (hpre 2 (by kernel_rfl))) (run_loadM wy b 1 _ _ _ (hM2.out.later hI.below).cells.2) (hI.add (by decide) rmF_later (by decide) (Below.refl _ _) rfl)
          · exact wpOp_len rfl (wanted_free rfl) _ _ rfl _ Try.underlying39 _ _ _ (hF 3 (hpre 3 (by kernel_rfl))) (hI.add (by decide) rmF_later (by decide) (Below.refl _ _) rfl)
          · exact wpOp_move rfl (wanted_free rfl) _ rfl _ (hI.same 0 (by decide)) (hI.add (by decide) rmF_later (by decide) (Below.refl _ _) rfl)
          · exact wpOp_nil rfl (wanted_free rfl) _ rfl _ (hF 5 (hpre 5 (by kernel_rfl))) (hI.add (by decide) rmF_later (by decide) (Below.refl _ _) rfl)
          · exact wpOp_field rfl (wanted_free rfl) _ _ _ rfl _ _ (hF 6 (hpre 6 (by kernel_rfl))) (run_fieldM0 wy b) (hI.add (by decide) rmF_later (by decide) (Below.refl _ _) rfl)
          · exact wpOp_load rfl (wanted_free rfl) _ _ rfl _ _ (hF 7 (hpre 7 (by kernel_rfl))) (run_loadI wy b 0 _ (hM2.out.later hI.below).cells.1) (hI.add (by decide) rmF_later (by decide) (Below.refl _ _) rfl)
          · exact wpOp_bin rfl (wanted_free rfl) _ _ _ _ _ rfl _ _ _ (hF 4 (hpre 4 (by kernel_rfl))) (hF 8 (hpre 8 (by kernel_rfl))) (run_geq _ _ wy _ _ false hrr.out) (hI.add (by decide) rmF_later (by decide) (Below.refl _ _) rfl)
        · intro D a w3 hI hall
          have hB_w3 := Lib.hid hI.below
          obtain ⟨fs, rfl, hfs⟩ := hI.done (by decide) rfl (fun i hi => hall i hi)
          have hl9 : fs 98 = .bool false := hfs 9 (by decide)
          clear hI hall hfs
          simp only [putAll, List.map_cons, List.map_nil, Act.put, List.setIfInBounds_toArray, List.set_cons_zero, List.set_cons_succ]
          rw [hl9]
          clear hl9
          generalize fs 89 = u89
          generalize fs 90 = u90
          generalize fs 91 = u91
          generalize fs 92 = u92
          generalize fs 93 = u93
          generalize fs 94 = u94
          generalize fs 95 = u95
          generalize fs 96 = u96
          generalize fs 97 = u97
          have hM3 := Lib.hid (hM2.out.later hB_w3.out)
          have hz3 := Lib.hid (hz2.out.later hB_w3.out)
          have hG3 := Lib.hid (grown_then hG2.out (below_grows hB_w3.out (some b)))
          go_wp2
          refine wp_region_tail 10 14 (by decide) (by kernel_rfl) (RInv 119 [107, 108, 109, 110, 111, 112, 113, 114, 115, 116] _ (enF b A n c x) w3 (PQ w3 l x)) (by kernel_rfl) (by kernel_rfl) (RInv.start rfl ⟨Nat.le_refl _, fun h => h.elim, fun h => h.elim, fun h => h.elim, fun h => h.elim⟩ (Below.refl _ _).drew) ?_ ?_
          · intro i hi D a wy hI hcl hnd hpre
            have hi' : i < 10 := hi
            have hcase : i = 0 ∨ i = 1 ∨ i = 2 ∨ i = 3 ∨ i = 4 ∨ i = 5 ∨ i = 6 ∨ i = 7 ∨ i = 8 ∨ i = 9 := by omega
            have hF := hI.fact
            have h96 : D 9 → D 6 := fun h => hcl 9 h 6 (by kernel_rfl)
            have h98 : D 9 → D 8 := fun h => hcl 9 h 8 (by kernel_rfl)
            have h61 : D 6 → D 1 := fun h => hcl 6 h 1 (by kernel_rfl)
            rcases hcase with rfl | rfl | rfl | rfl | rfl | rfl | rfl | rfl | rfl | rfl
            · exact wpOp_move rfl (wanted_free rfl) _ rfl _ (hI.same 0 (by decide)) (hI.put (by decide) (by decide) (fun j _ _ h => enF_any h) rfl (hI.more.pure _ (by decide) (by decide) (by decide) (by decide) (by decide)) hI.below)
            · exact wpOp_build rfl (wanted_free rfl) _ _ _ rfl #[] (by simp) _ (run_build0 wy) (hI.put (by decide) (by decide) (fun j _ _ h => enF_any h) trivial (hI.more.op1 (by rw [hI.size]; decide) (fun h => hnd (h61 h)) (fun h => hnd (h61 (h96 h)))) (hI.below.alloc hI.below.size _))
            · exact wpOp_move rfl (wanted_free rfl) _ rfl _ (hI.same 0 (by decide)) (hI.put (by decide) (by decide) (fun j _ _ h => enF_any h) rfl (hI.more.pure _ (by decide) (by decide) (by decide) (by decide) (by decide)) hI.below)
            · exact wpOp_nil rfl (wanted_free rfl) _ rfl _ (hF 2 (hpre 2 (by kernel_rfl))) (hI.put (by decide) (by decide) (fun j _ _ h => enF_any h) rfl (hI.more.pure _ (by decide) (by decide) (by decide) (by decide) (by decide)) hI.below)
            · exact wpOp_field rfl (wanted_free rfl) _ _ _ rfl _ _ (hF 3 (hpre 3 (by kernel_rfl))) (run_fieldM wy b) (hI.put (by decide) (by decide) (fun j _ _ h => enF_any h) rfl (hI.more.pure _ (by decide) (by decide) (by decide) (by decide) (by decide)) hI.below)
            · exact wpOp_load rfl (wanted_free rfl) _ _ rfl _ _ (hF 4 (hpre 4 (by kernel_rfl))) (run_loadM wy b 1 _ _ _ (hM3.out.later hI.below).cells.2) (hI.put (by decide) (by decide) (fun j _ _ h => enF_any h) rfl (hI.more.pure _ (by decide) (by decide) (by decide) (by decide) (by decide)) hI.below)
            · obtain ⟨v6, e108, ho6⟩ := hI.more.row1 (hpre 1 (by kernel_rfl)) hnd
              obtain ⟨v7, w7, hrun, hO7, hg7, hm7⟩ := run_append_eds (P := Try.prog) w3.heap.size 39 39 i0 Try.underlying39 hi0 hi1 hi2 hi3 ho6 (hM3.out.later hI.below).eds (by have := hlf.out; have := hM3.out.eds.len; show 0 + n ≤ 1000000; omega) hI.below.size
              rw [List.nil_append] at hO7
              have hB7 := hI.below.grown hg7 hI.below.size (fun k hk => (World.ownsRow.lt ho6 k hk).1)
              exact wpOp_appendR rfl (wanted_free rfl) _ _ _ rfl _ _ _ e108 (hF 5 (hpre 5 (by kernel_rfl))) hrun (hI.put (by decide) (by decide) (fun j _ _ h => enF_any h) trivial (hI.more.op6 (by rw [hI.size]; decide) e108 (hpre 1 (by kernel_rfl)) hnd (fun h => hnd (h96 h)) hO7 hg7 hm7) hB7)
            · exact wpOp_load rfl (wanted_free rfl) _ _ rfl _ _ (hI.same 4 (by decide)) (run_loadS wy w.heap.size x (hz3.out.later hI.below)) (hI.put (by decide) (by decide) (fun j _ _ h => enF_any h) rfl (hI.more.pure _ (by decide) (by decide) (by decide) (by decide) (by decide)) hI.below)
            · refine wpOp_build rfl (wanted_free rfl) _ _ _ rfl #[(0, evalue x)] ?_ _ (run_buildE wy x) (hI.put (by decide) (by decide) (fun j _ _ h => enF_any h) trivial (hI.more.op8 (by rw [hI.size]; decide) (fun h => hnd (h98 h))) (hI.below.alloc hI.below.size _))
              have e5 : a.eval (.tmp 114) = evalue x := hF 7 (hpre 7 (by kernel_rfl))
              simp [e5]
            · obtain ⟨v6, e113, ho6⟩ := hI.more.row2 (hpre 6 (by kernel_rfl)) hnd
              obtain ⟨gx, e115, _, hEx, _⟩ := hI.more.one (hpre 8 (by kernel_rfl)) hnd
              obtain ⟨v7, w7, hrun, hO7, hg7, _⟩ := run_append_eds (P := Try.prog) w3.heap.size 39 39 i0 Try.underlying39 hi0 hi1 hi2 hi3 ho6 hEx (by have := hlf.out; omega) hI.below.size
              have hB7 := hI.below.grown hg7 hI.below.size (fun k hk => (World.ownsRow.lt ho6 k hk).1)
              exact wpOp_appendR rfl (wanted_free rfl) _ _ _ rfl _ _ _ e113 e115 hrun (hI.put (by decide) (by decide) (fun j _ _ h => enF_any h) trivial (hI.more.op9 (by rw [hI.size]; decide) (hpre 6 (by kernel_rfl)) hO7 hB7.size) hB7)
          · intro D a wy hI hall
            obtain ⟨v9, e116, hO9⟩ := hI.more.full (hall 9 (by decide))
            have hd : a.defers = [] := hI.defs
            have e107 : a.eval (.tmp 107) = .pointer (some ⟨b, 0, Option.none⟩) := hI.fact 0 (hall 0 (by decide))
            have hsz := hI.size
            have hB9 := hI.below
            clear hI hall
            obtain ⟨A9, c9, rfl, hE9⟩ := hO9.eds
            have hVy := hM3.out.later hB9
            have hfin := hM3.out.fin hB9 hO9 hG3.out
            clear hO9 hE9
            generalize (l ++ [x]).length = n9 at hfin e116
            show wpOps _ _ _ [10, 11, 12] a wy
            rw [wpOps_cons]
            refine wpOp_nil rfl (wanted_free rfl) _ rfl _ e107 ?_
            rw [wpOps_cons]
            refine wpOp_field rfl (wanted_free rfl) _ _ _ rfl _ _ (eval_put_same a 117 _ (by rw [hsz]; decide)) (run_fieldM _ b) ?_
            rw [wpOps_cons]
            refine wpOp_store rfl (wanted_free rfl) _ _ _ rfl _ _ (eval_put_same _ 118 _ (by show 118 < (a.put (some 117) _).tmps.size; rw [size_put, hsz]; decide)) ((eval_put_other _ _ (by decide)).trans ((eval_put_other _ _ (by decide)).trans e116)) (run_storeP wy b _ _ _ _ hVy.cells.2 hVy.free) ?_
            rw [wpOps]
            clear hVy
            go_wp2
            refine bodyPost_end (results_none rfl _ _ _) (by first | exact hd | rfl) ⟨rfl, ⟨_, ?_, hfin.1.2⟩, hfin.2⟩
            rw [hput.out]
            exact hfin.1.1

set_option maxHeartbeats 16000000 in
set_option maxRecDepth 100000 in
theorem refPutFullA_any (b most : Nat) (v : Value) (l : List Ent) (x : Ent) (now : Int) (w : World) (h : RM w b most v l) (hll : l.length ≤ 1000) (hsp : spot l x = l.length) (hm1 : 1 ≤ most) (hmn : most ≤ l.length) (hq : most ≤ (live l now).length) :
    Calls Try.prog 14 #[.pointer (some ⟨b, 0, Option.none⟩), evalue x, .int .i64 now] w fun e w' => e = .returned (.tuple #[]) ∧ (∃ v', RM w' b most v' (put most l x now) ∧ Fresh w.heap.size v') ∧ w.grownBy w' (some b) := by
  obtain ⟨i0, hi0, hi1, hi2, hi3⟩ := info_parts Try.infoE
  obtain ⟨A, c, rfl, hE⟩ := h.own.eds
  obtain ⟨l3, hl3⟩ : ∃ l3, l3 = live l now := ⟨_, rfl⟩
  rw [← hl3] at hq
  have hle : l3.length ≤ l.length := hl3 ▸ List.length_filter_le _ _
  have hl3' := Lib.hid hl3
  have hq3 := Lib.hid hq
  obtain ⟨L5, hL5⟩ : ∃ L5, L5 = l3.drop 1 := ⟨_, rfl⟩
  have hput := Lib.hid (show put most l x now = L5 ++ [x] by
    have h1 : ¬ spot l x < l.length := by omega
    rw [hL5]
    unfold put room
    simp only [if_neg h1, if_pos hmn, ← hl3, if_pos hq])
  have hlf := Lib.hid (show L5.length ≤ 1000 by rw [hL5, List.length_drop]; omega)
  have hpos3 := Lib.hid (show 1 ≤ l3.length by omega)
  have hL5' := Lib.hid hL5
  obtain ⟨n, hn⟩ : ∃ n, n = l.length := ⟨_, rfl⟩
  rw [← hn] at hE hmn h
  have hnm : n ≤ 1000 := by omega
  have hmn' := Lib.hid hmn
  have hl := Lib.hid hE.len
  have hM := Lib.hid h
  have hE' := Lib.hid hE
  have hltb := Lib.hid h.lt
  have hbx := Lib.hid (six_new w x 32)
  have hb0 := Lib.hid (below_box w (.cells (ecell x).toArray 32))
  have hslt := Lib.hid (fun k (h2 : k < l.length) => spot_lt (x := x) (by omega : k < spot l x) h2)
  obtain ⟨w0, hw0⟩ : ∃ w0, w0 = w.alloc (.cells (ecell x).toArray 32) := ⟨_, rfl⟩
  have hsz0 := Lib.hid (show w.heap.size < w0.heap.size by rw [hw0]; simp)
  rw [← hw0] at hbx hb0
  have hw0' : Hid (w.alloc (.cells #[.string x.fr, .string x.at_, .bool x.cred, .string x.me, .string x.he, .int .i64 x.til] 32) = w0) := Lib.hid hw0.symm
  clear h hE hw0 hn hll hsp hmn hq hle hl3 hL5 hm1
  have hev : evalue x = .agg #[.string x.fr, .string x.at_, .bool x.cred, .string x.me, .string x.he, .int .i64 x.til] := rfl
  rw [hev]
  clear hev
  go_enter Try.func14, Try.ntmps14
  go_wp2
  rw [hw0'.out]
  go_loopw [6] (fun i wr => ∃ q : Nat, q ≤ n ∧ i = .int .i64 q ∧ Below w0.heap.size w0 wr) (fun i _ => n - (RowKit.intOf i).toNat)
  case atStart => exact ⟨0, Nat.zero_le _, rfl, Below.refl _ _⟩
  case round =>
    obtain ⟨q, hq, rfl, hbe⟩ := hrel
    have hbw := Lib.hid (below_then hb0.out hbe)
    have hzr := Lib.hid (hbx.out.later hbe)
    have m1 := (hM.out.later hbw.out).cells.2
    by_cases hlt : q < n
    · have hql : q < l.length := by rw [hl.out]; exact hlt
      obtain ⟨y, hy⟩ : ∃ y, y = l[q] := ⟨_, rfl⟩
      obtain ⟨g, off, rfl, h1, h2, h3, h4, h5, h6⟩ := (hE'.out.later hbw.out).six hlt hy
      have hsk : Hid (sameKey y x = false) := Lib.hid (by rw [hy]; exact hslt.out q hql)
      clear hy
      go_wp2
      refine wp_region_each (RInv 119 [18, 19, 20, 21, 22, 23, 24, 25, 26] _ (mkF b q (some ⟨g, off, Option.none⟩) n c g off x y) wr NoMore) (by kernel_rfl) (by kernel_rfl) (RInv.start rfl trivial (Below.refl _ _).drew) ?_ ?_
      · intro i hi D a wx hI hcl hnd hpre
        have hi' : i < 9 := hi
        have hcase : i = 0 ∨ i = 1 ∨ i = 2 ∨ i = 3 ∨ i = 4 ∨ i = 5 ∨ i = 6 ∨ i = 7 ∨ i = 8 := by omega
        have hF := hI.fact
        rcases hcase with rfl | rfl | rfl | rfl | rfl | rfl | rfl | rfl | rfl
        · exact wpOp_move rfl (wanted_free rfl) _ rfl _ (hI.same 0 (by decide)) (hI.add (by decide) mkF_later (by decide) (Below.refl _ _) rfl)
        · exact wpOp_nil rfl (wanted_free rfl) _ rfl _ (hF 0 (hpre 0 (by kernel_rfl))) (hI.add (by decide) mkF_later (by decide) (Below.refl _ _) rfl)
        · exact wpOp_field rfl (wanted_free rfl) _ _ _ rfl _ _ (hF 1 (hpre 1 (by kernel_rfl))) (run_fieldM wx b) (hI.add (by decide) mkF_later (by decide) (Below.refl _ _) rfl)
        · exact wpOp_load rfl (wanted_free rfl) _ _ rfl _ _ (hF 2 (hpre 2 (by kernel_rfl))) (run_loadM wx b 1 _ _ _ (cell_later hI.below m1)) (hI.add (by decide) mkF_later (by decide) (Below.refl _ _) rfl)
        · exact wpOp_move rfl (wanted_free rfl) _ rfl _ (hI.same 6 (by decide)) (hI.add (by decide) mkF_later (by decide) (Below.refl _ _) rfl)
        · exact wpOp_index rfl (wanted_free rfl) _ _ _ rfl _ _ _ (hF 3 (hpre 3 (by kernel_rfl))) (hF 4 (hpre 4 (by kernel_rfl))) (run_idxE wx g off n c q hlt) (hI.add (by decide) mkF_later (by decide) (Below.refl _ _) rfl)
        · exact wpOp_load rfl (wanted_free rfl) _ _ rfl _ _ (hF 5 (hpre 5 (by kernel_rfl))) (run_loadE wx g _ y (cell_later hI.below h1) (cell_later hI.below h2) (cell_later hI.below h3) (cell_later hI.below h4) (cell_later hI.below h5) (cell_later hI.below h6)) (hI.add (by decide) mkF_later (by decide) (Below.refl _ _) rfl)
        · exact wpOp_load rfl (wanted_free rfl) _ _ rfl _ _ (hI.same 4 (by decide)) (run_loadS wx w.heap.size x (hzr.out.later hI.below)) (hI.add (by decide) mkF_later (by decide) (Below.refl _ _) rfl)
        · exact wpOp_call2 rfl (wanted_free rfl) 27 _ _ _ rfl _ _ (hF 6 (hpre 6 (by kernel_rfl))) (hF 7 (hpre 7 (by kernel_rfl))) (enters_same15 _ _) (refKey_any y x wx) (fun e w' h => ⟨_, h.1, hI.add (by decide) mkF_later (by decide) h.2 rfl⟩)
      · intro D a wx hI hall
        have hB := Lib.hid hI.below
        obtain ⟨fs, rfl, hfs⟩ := hI.done (by decide) rfl (fun i hi => hall i hi)
        have h26 : fs 26 = .bool false := (hfs 8 (by decide)).trans (congrArg Value.bool hsk.out)
        clear hI hall hfs
        simp only [putAll, List.map_cons, List.map_nil, Act.put, List.setIfInBounds_toArray, List.set_cons_zero, List.set_cons_succ]
        rw [h26]
        clear h26
        generalize fs 18 = u18
        generalize fs 19 = u19
        generalize fs 20 = u20
        generalize fs 21 = u21
        generalize fs 22 = u22
        generalize fs 23 = u23
        generalize fs 24 = u24
        generalize fs 25 = u25
        go_wp2
        go_roundw
        case rel => exact ⟨q + 1, by omega, by go_num, below_then hbe hB.out⟩
        case measure => simp [RowKit.intOf]; omega
    · have e : n = q := by omega
      subst e
      have hMr := Lib.hid ((hM.out.later hbw.out).view)
      have hrr := Lib.hid (show decide ((most : Int) ≤ (n : Int)) = true from decide_eq_true (by have := hmn'.out; omega))
      go_wp2
      refine wp_region_each (RInv 119 [45, 46, 47, 48, 49, 50, 51, 52, 53, 54] _ (rmF b most A n c true) wr NoMore) (by kernel_rfl) (by kernel_rfl) (RInv.start rfl trivial (Below.refl _ _).drew) ?_ ?_
      · intro i hi D a wy hI hcl hnd hpre
        have hi' : i < 10 := hi
        have hcase : i = 0 ∨ i = 1 ∨ i = 2 ∨ i = 3 ∨ i = 4 ∨ i = 5 ∨ i = 6 ∨ i = 7 ∨ i = 8 ∨ i = 9 := by omega
        have hF := hI.fact
        rcases hcase with rfl | rfl | rfl | rfl | rfl | rfl | rfl | rfl | rfl | rfl
        · exact wpOp_move rfl (wanted_free rfl) _ rfl _ (hI.same 0 (by decide)) (hI.add (by decide) rmF_later (by decide) (Below.refl _ _) rfl)
        · exact wpOp_nil rfl (wanted_free rfl) _ rfl _ (hF 0 (hpre 0 (by kernel_rfl))) (hI.add (by decide) rmF_later (by decide) (Below.refl _ _) rfl)
        · exact wpOp_field rfl (wanted_free rfl) _ _ _ rfl _ _ (hF 1 (hpre 1 (by kernel_rfl))) (run_fieldM wy b) (hI.add (by decide) rmF_later (by decide) (Below.refl _ _) rfl)
        · exact wpOp_load rfl (wanted_free rfl) _ _ rfl _ _ (hF 2 (hpre 2 (by kernel_rfl))) (run_loadM wy b 1 _ _ _ (hMr.out.later hI.below).cells.2) (hI.add (by decide) rmF_later (by decide) (Below.refl _ _) rfl)
        · exact wpOp_len rfl (wanted_free rfl) _ _ rfl _ Try.underlying39 _ _ _ (hF 3 (hpre 3 (by kernel_rfl))) (hI.add (by decide) rmF_later (by decide) (Below.refl _ _) rfl)
        · exact wpOp_move rfl (wanted_free rfl) _ rfl _ (hI.same 0 (by decide)) (hI.add (by decide) rmF_later (by decide) (Below.refl _ _) rfl)
        · exact wpOp_nil rfl (wanted_free rfl) _ rfl _ (hF 5 (hpre 5 (by kernel_rfl))) (hI.add (by decide) rmF_later (by decide) (Below.refl _ _) rfl)
        · exact wpOp_field rfl (wanted_free rfl) _ _ _ rfl _ _ (hF 6 (hpre 6 (by kernel_rfl))) (run_fieldM0 wy b) (hI.add (by decide) rmF_later (by decide) (Below.refl _ _) rfl)
        · exact wpOp_load rfl (wanted_free rfl) _ _ rfl _ _ (hF 7 (hpre 7 (by kernel_rfl))) (run_loadI wy b 0 _ (hMr.out.later hI.below).cells.1) (hI.add (by decide) rmF_later (by decide) (Below.refl _ _) rfl)
        · exact wpOp_bin rfl (wanted_free rfl) _ _ _ _ _ rfl _ _ _ (hF 4 (hpre 4 (by kernel_rfl))) (hF 8 (hpre 8 (by kernel_rfl))) (run_geq _ _ wy _ _ true hrr.out) (hI.add (by decide) rmF_later (by decide) (Below.refl _ _) rfl)
      · intro D a w2 hI hall
        have hB_w2 := Lib.hid hI.below
        obtain ⟨fs, rfl, hfs⟩ := hI.done (by decide) rfl (fun i hi => hall i hi)
        have hl9 : fs 54 = .bool true := hfs 9 (by decide)
        clear hI hall hfs
        simp only [putAll, List.map_cons, List.map_nil, Act.put, List.setIfInBounds_toArray, List.set_cons_zero, List.set_cons_succ]
        rw [hl9]
        clear hl9
        generalize fs 45 = u45
        generalize fs 46 = u46
        generalize fs 47 = u47
        generalize fs 48 = u48
        generalize fs 49 = u49
        generalize fs 50 = u50
        generalize fs 51 = u51
        generalize fs 52 = u52
        generalize fs 53 = u53
        have hM2 := Lib.hid (hMr.out.later hB_w2.out)
        have hz2 := Lib.hid (hzr.out.later hB_w2.out)
        have hG2 := Lib.hid (below_grows (below_then hbw.out hB_w2.out) (some b))
        have hE2 := Lib.hid (hE'.out.later (below_then hbw.out hB_w2.out))
        have h00 := Lib.hid (owns_zero w2)
        have hone := Lib.hid (fun W (y : Ent) => eds_new W (ecells [y]).toArray [y] rfl (tiny (by simp)))
        clear hrr
        go_wp2
        go_loopw [7, 8] (fun o i wr => ∃ q : Nat, q ≤ n ∧ i = .int .i64 q ∧ OwnsE wr w2.heap.size o (live (l.take q) now) ∧ Below w2.heap.size w2 wr) (fun _ i _ => n - (RowKit.intOf i).toNat)
        case atStart => exact ⟨0, Nat.zero_le _, rfl, h00.out, below_box _ _⟩
        case round =>
          obtain ⟨q, hq2, rfl, hown, hbe2⟩ := hrel
          have hVw := Lib.hid (hM2.out.later hbe2)
          have n1 := hVw.out.cells.2
          have hown' := Lib.hid hown
          have hdl : (live (l.take q) now).length ≤ 1000 := by have := List.length_filter_le (fun y => decide (now < y.til)) (l.take q); rw [List.length_take, hl.out] at this; show (List.filter _ _).length ≤ _; omega
          have hB1 := hbe2.size
          clear hown
          by_cases hlt1 : q < n
          · have hql : q < l.length := by rw [hl.out]; exact hlt1
            obtain ⟨y, hy⟩ : ∃ y, y = l[q] := ⟨_, rfl⟩
            obtain ⟨g, off, rfl, h1, h2, h3, h4, h5, h6⟩ := (hE2.out.later hbe2).six hlt1 hy
            have hst := Lib.hid (show live (l.take (q + 1)) now = live (l.take q) now ++ (if decide (now < l[q].til) then [l[q]] else []) from filter_step hql)
            rw [← hy] at hst
            clear hy
            obtain ⟨y1, y2, y3, y4, y5, y6⟩ := y
            simp only at h1 h2 h3 h4 h5 h6 hst
            have hyO := Lib.hid (hone.out wr ⟨y1, y2, y3, y4, y5, y6⟩)
            by_cases ht : now < y6
            · have hs := Lib.hid (show live (l.take (q + 1)) now = live (l.take q) now ++ [⟨y1, y2, y3, y4, y5, y6⟩] by rw [hst.out, decide_eq_true ht]; rfl)
              clear hst
              go_wp2_with (at_builtin; refine wpList_append_eds rfl (.tmp 75) (.tmp 83) 39 rfl w2.heap.size i0 Try.underlying39 hi0 hi1 hi2 hi3 _ _ rfl (hown'.out.alloc _) _ _ _ _ rfl hyO.out (by simp; omega) (by simp; omega) ?_; intro v2 w5 hown2 hg2 _; have hb2 := Lib.hid ((hown'.out.alloc _).below (hbe2.alloc hB1 _) hg2 (by simp; omega)))
              go_roundw
              case rel => exact ⟨q + 1, by omega, by go_num, by rw [hs.out]; exact hown2, hb2.out⟩
              case measure => simp [RowKit.intOf]; omega
            · have hs := Lib.hid (show live (l.take (q + 1)) now = live (l.take q) now by rw [hst.out, decide_eq_false ht]; exact List.append_nil _)
              clear hst
              go_wp2
              go_roundw
              case rel => exact ⟨q + 1, by omega, by go_num, by rw [hs.out]; exact hown'.out, hbe2⟩
              case measure => simp [RowKit.intOf]; omega
          · have e : n = q := by omega
            subst e
            have htk : l.take n = l := by rw [← hl.out, List.take_length]
            have hownl := hown'.out
            rw [htk] at hownl
            rw [← hl3'.out] at hownl
            clear hown' hdl htk
            obtain ⟨A3, c3, rfl, hE3⟩ := hownl.eds
            have hfr := hVw.out.free
            have hp3 := hM2.out.fin hbe2 hownl hG2.out
            obtain ⟨n3, hn3⟩ : ∃ n3, n3 = l3.length := ⟨_, rfl⟩
            rw [← hn3] at hp3 hE3 hownl ⊢
            have hn3' := Lib.hid hn3
            have hM3 := Lib.hid hp3.1.1.view
            have hG3 := Lib.hid hp3.2
            have hz3 := Lib.hid ((hz2.out.later hbe2).block (heap_setCell_other wr ⟨b, 1, Option.none⟩ w.heap.size (.slice A3 n3 c3) (by have := hltb.out; show w.heap.size ≠ b; omega)))
            have hcap3 := hE3.cap
            have hc63 : c3 ≤ 9223372036854775807 := by have := hE3.room; unfold maxLen at this; omega
            have hA3 : ∃ g3, A3 = some ⟨g3, 0, Option.none⟩ := by
              have hpos : 0 < n3 := by have := hpos3.out; omega
              obtain ⟨g3, cap3, e3, _, _, _⟩ := hownl.form hn3.symm hpos
              injection e3 with e3
              exact ⟨g3, e3⟩
            clear hp3 hownl hn3 hE3
            go_wp2
            clear hfr n1 m1
            clear hVw
            generalize wr.setCell ⟨b, 1, Option.none⟩ (.slice A3 n3 c3) = w5 at hM3 hG3 hz3 ⊢
            have hrr := Lib.hid (show decide ((most : Int) ≤ (n3 : Int)) = true from decide_eq_true (by have := hq3.out; have := hn3'.out; omega))
            refine wp_region_each (RInv 119 [89, 90, 91, 92, 93, 94, 95, 96, 97, 98] _ (rmF b most A3 n3 c3 true) w5 NoMore) (by kernel_rfl) (by kernel_rfl) (RInv.start rfl trivial (Below.refl _ _).drew) ?_ ?_
            · intro i hi D a wy hI hcl hnd hpre
              have hi' : i < 10 := hi
              have hcase : i = 0 ∨ i = 1 ∨ i = 2 ∨ i = 3 ∨ i = 4 ∨ i = 5 ∨ i = 6 ∨ i = 7 ∨ i = 8 ∨ i = 9 := by omega
              have hF := hI.fact
              rcases hcase with rfl | rfl | rfl | rfl | rfl | rfl | rfl | rfl | rfl | rfl
              · exact wpOp_move rfl (wanted_free rfl) _ rfl _ (hI.same 0 (by decide)) (hI.add (by decide) rmF_later (by decide) (Below.refl _ _) rfl)
              · exact wpOp_nil rfl (wanted_free rfl) _ rfl _ (hF 0 (hpre 0 (by kernel_rfl))) (hI.add (by decide) rmF_later (by decide) (Below.refl _ _) rfl)
              · exact wpOp_field rfl (wanted_free rfl) _ _ _ rfl _ _ (hF 1 (hpre 1 (by kernel_rfl))) (run_fieldM wy b) (hI.add (by decide) rmF_later (by decide) (Below.refl _ _) rfl)
              · exact wpOp_load rfl (wanted_free rfl) _ _ rfl _ _ (hF 2 (hpre 2 (by kernel_rfl))) (run_loadM wy b 1 _ _ _ (hM3.out.later hI.below).cells.2) (hI.add (by decide) rmF_later (by decide) (Below.refl _ _) rfl)
              · exact wpOp_len rfl (wanted_free rfl) _ _ rfl _ Try.underlying39 _ _ _ (hF 3 (hpre 3 (by kernel_rfl))) (hI.add (by decide) rmF_later (by decide) (Below.refl _ _) rfl)
              · exact wpOp_move rfl (wanted_free rfl) _ rfl _ (hI.same 0 (by decide)) (hI.add (by decide) rmF_later (by decide) (Below.refl _ _) rfl)
              · exact wpOp_nil rfl (wanted_free rfl) _ rfl _ (hF 5 (hpre 5 (by kernel_rfl))) (hI.add (by decide) rmF_later (by decide) (Below.refl _ _) rfl)
              · exact wpOp_field rfl (wanted_free rfl) _ _ _ rfl _ _ (hF 6 (hpre 6 (by kernel_rfl))) (run_fieldM0 wy b) (hI.add (by decide) rmF_later (by decide) (Below.refl _ _) rfl)
              · exact wpOp_load rfl (wanted_free rfl) _ _ rfl _ _ (hF 7 (hpre 7 (by kernel_rfl))) (run_loadI wy b 0 _ (hM3.out.later hI.below).cells.1) (hI.add (by decide) rmF_later (by decide) (Below.refl _ _) rfl)
              · exact wpOp_bin rfl (wanted_free rfl) _ _ _ _ _ rfl _ _ _ (hF 4 (hpre 4 (by kernel_rfl))) (hF 8 (hpre 8 (by kernel_rfl))) (run_geq _ _ wy _ _ true hrr.out) (hI.add (by decide) rmF_later (by decide) (Below.refl _ _) rfl)
            · intro D a w6 hI hall
              have hB_w6 := Lib.hid hI.below
              obtain ⟨fs, rfl, hfs⟩ := hI.done (by decide) rfl (fun i hi => hall i hi)
              have hl9 : fs 98 = .bool true := hfs 9 (by decide)
              clear hI hall hfs
              simp only [putAll, List.map_cons, List.map_nil, Act.put, List.setIfInBounds_toArray, List.set_cons_zero, List.set_cons_succ]
              rw [hl9]
              clear hl9
              generalize fs 89 = u89
              generalize fs 90 = u90
              generalize fs 91 = u91
              generalize fs 92 = u92
              generalize fs 93 = u93
              generalize fs 94 = u94
              generalize fs 95 = u95
              generalize fs 96 = u96
              generalize fs 97 = u97
              have hM6 := Lib.hid (hM3.out.later hB_w6.out)
              have hz6 := Lib.hid (hz3.out.later hB_w6.out)
              have hG6 := Lib.hid (grown_then hG3.out (below_grows hB_w6.out (some b)))
              obtain ⟨g3, rfl⟩ := hA3
              have hn1 : 1 ≤ n3 := by have := hpos3.out; have := hn3'.out; omega
              have i1 := hM6.out.cells.2
              have i2 := hM6.out.free
              have hbk := Lib.hid (hM6.out.eds.backAny (k := 1) hn1)
              by_cases hc : c3 = 1
              · subst hc
                obtain rfl : n3 = 1 := by omega
                have hbk' : Eds w6 (some ⟨g3, 0, Option.none⟩) 0 0 (l3.drop 1) := hbk.out
                rw [← hL5'.out] at hbk'
                have hp7 := hM6.out.put hbk' (fun a ha => by injection ha with ha; subst ha; exact hM6.out.away _ rfl)
                have hM7 := Lib.hid hp7.1
                have hG7 := Lib.hid (grown_then hG6.out hp7.2)
                have hz7 := Lib.hid (hz6.out.block (heap_setCell_other w6 ⟨b, 1, Option.none⟩ w.heap.size (.slice (some ⟨g3, 0, Option.none⟩) 0 0) (by have := hltb.out; show w.heap.size ≠ b; omega)))
                clear hp7 hbk' hbk
                go_wp2
                clear i1 i2
                generalize w6.setCell ⟨b, 1, Option.none⟩ (.slice (some ⟨g3, 0, Option.none⟩) 0 0) = w7 at hM7 hG7 hz7 ⊢
                refine wp_region_tail 10 14 (by decide) (by kernel_rfl) (RInv 119 [107, 108, 109, 110, 111, 112, 113, 114, 115, 116] _ (enF b (some ⟨g3, 0, Option.none⟩) 0 0 x) w7 (PQ w7 L5 x)) (by kernel_rfl) (by kernel_rfl) (RInv.start rfl ⟨Nat.le_refl _, fun h => h.elim, fun h => h.elim, fun h => h.elim, fun h => h.elim⟩ (Below.refl _ _).drew) ?_ ?_
                · intro i hi D a wy hI hcl hnd hpre
                  have hi' : i < 10 := hi
                  have hcase : i = 0 ∨ i = 1 ∨ i = 2 ∨ i = 3 ∨ i = 4 ∨ i = 5 ∨ i = 6 ∨ i = 7 ∨ i = 8 ∨ i = 9 := by omega
                  have hF := hI.fact
                  have h96 : D 9 → D 6 := fun h => hcl 9 h 6 (by kernel_rfl)
                  have h98 : D 9 → D 8 := fun h => hcl 9 h 8 (by kernel_rfl)
                  have h61 : D 6 → D 1 := fun h => hcl 6 h 1 (by kernel_rfl)
                  rcases hcase with rfl | rfl | rfl | rfl | rfl | rfl | rfl | rfl | rfl | rfl
                  · exact wpOp_move rfl (wanted_free rfl) _ rfl _ (hI.same 0 (by decide)) (hI.put (by decide) (by decide) (fun j _ _ h => enF_any h) rfl (hI.more.pure _ (by decide) (by decide) (by decide) (by decide) (by decide)) hI.below)
                  · exact wpOp_build rfl (wanted_free rfl) _ _ _ rfl #[] (by simp) _ (run_build0 wy) (hI.put (by decide) (by decide) (fun j _ _ h => enF_any h) trivial (hI.more.op1 (by rw [hI.size]; decide) (fun h => hnd (h61 h)) (fun h => hnd (h61 (h96 h)))) (hI.below.alloc hI.below.size _))
                  · exact wpOp_move rfl (wanted_free rfl) _ rfl _ (hI.same 0 (by decide)) (hI.put (by decide) (by decide) (fun j _ _ h => enF_any h) rfl (hI.more.pure _ (by decide) (by decide) (by decide) (by decide) (by decide)) hI.below)
                  · exact wpOp_nil rfl (wanted_free rfl) _ rfl _ (hF 2 (hpre 2 (by kernel_rfl))) (hI.put (by decide) (by decide) (fun j _ _ h => enF_any h) rfl (hI.more.pure _ (by decide) (by decide) (by decide) (by decide) (by decide)) hI.below)
                  · exact wpOp_field rfl (wanted_free rfl) _ _ _ rfl _ _ (hF 3 (hpre 3 (by kernel_rfl))) (run_fieldM wy b) (hI.put (by decide) (by decide) (fun j _ _ h => enF_any h) rfl (hI.more.pure _ (by decide) (by decide) (by decide) (by decide) (by decide)) hI.below)
                  · exact wpOp_load rfl (wanted_free rfl) _ _ rfl _ _ (hF 4 (hpre 4 (by kernel_rfl))) (run_loadM wy b 1 _ _ _ (hM7.out.later hI.below).cells.2) (hI.put (by decide) (by decide) (fun j _ _ h => enF_any h) rfl (hI.more.pure _ (by decide) (by decide) (by decide) (by decide) (by decide)) hI.below)
                  · obtain ⟨v6, e108, ho6⟩ := hI.more.row1 (hpre 1 (by kernel_rfl)) hnd
                    obtain ⟨v7, w7, hrun, hO7, hg7, hm7⟩ := run_append_eds (P := Try.prog) w7.heap.size 39 39 i0 Try.underlying39 hi0 hi1 hi2 hi3 ho6 (hM7.out.later hI.below).eds (by have := hlf.out; have := hM7.out.eds.len; show 0 + 0 ≤ 1000000; omega) hI.below.size
                    rw [List.nil_append] at hO7
                    have hB7 := hI.below.grown hg7 hI.below.size (fun k hk => (World.ownsRow.lt ho6 k hk).1)
                    exact wpOp_appendR rfl (wanted_free rfl) _ _ _ rfl _ _ _ e108 (hF 5 (hpre 5 (by kernel_rfl))) hrun (hI.put (by decide) (by decide) (fun j _ _ h => enF_any h) trivial (hI.more.op6 (by rw [hI.size]; decide) e108 (hpre 1 (by kernel_rfl)) hnd (fun h => hnd (h96 h)) hO7 hg7 hm7) hB7)
                  · exact wpOp_load rfl (wanted_free rfl) _ _ rfl _ _ (hI.same 4 (by decide)) (run_loadS wy w.heap.size x (hz7.out.later hI.below)) (hI.put (by decide) (by decide) (fun j _ _ h => enF_any h) rfl (hI.more.pure _ (by decide) (by decide) (by decide) (by decide) (by decide)) hI.below)
                  · refine wpOp_build rfl (wanted_free rfl) _ _ _ rfl #[(0, evalue x)] ?_ _ (run_buildE wy x) (hI.put (by decide) (by decide) (fun j _ _ h => enF_any h) trivial (hI.more.op8 (by rw [hI.size]; decide) (fun h => hnd (h98 h))) (hI.below.alloc hI.below.size _))
                    have e5 : a.eval (.tmp 114) = evalue x := hF 7 (hpre 7 (by kernel_rfl))
                    simp [e5]
                  · obtain ⟨v6, e113, ho6⟩ := hI.more.row2 (hpre 6 (by kernel_rfl)) hnd
                    obtain ⟨gx, e115, _, hEx, _⟩ := hI.more.one (hpre 8 (by kernel_rfl)) hnd
                    obtain ⟨v7, w7, hrun, hO7, hg7, _⟩ := run_append_eds (P := Try.prog) w7.heap.size 39 39 i0 Try.underlying39 hi0 hi1 hi2 hi3 ho6 hEx (by have := hlf.out; omega) hI.below.size
                    have hB7 := hI.below.grown hg7 hI.below.size (fun k hk => (World.ownsRow.lt ho6 k hk).1)
                    exact wpOp_appendR rfl (wanted_free rfl) _ _ _ rfl _ _ _ e113 e115 hrun (hI.put (by decide) (by decide) (fun j _ _ h => enF_any h) trivial (hI.more.op9 (by rw [hI.size]; decide) (hpre 6 (by kernel_rfl)) hO7 hB7.size) hB7)
                · intro D a wy hI hall
                  obtain ⟨v9, e116, hO9⟩ := hI.more.full (hall 9 (by decide))
                  have hd : a.defers = [] := hI.defs
                  have e107 : a.eval (.tmp 107) = .pointer (some ⟨b, 0, Option.none⟩) := hI.fact 0 (hall 0 (by decide))
                  have hsz := hI.size
                  have hB9 := hI.below
                  clear hI hall
                  obtain ⟨A9, c9, rfl, hE9⟩ := hO9.eds
                  have hVy := hM7.out.later hB9
                  have hfin := hM7.out.fin hB9 hO9 hG7.out
                  clear hO9 hE9
                  generalize (L5 ++ [x]).length = n9 at hfin e116
                  show wpOps _ _ _ [10, 11, 12] a wy
                  rw [wpOps_cons]
                  refine wpOp_nil rfl (wanted_free rfl) _ rfl _ e107 ?_
                  rw [wpOps_cons]
                  refine wpOp_field rfl (wanted_free rfl) _ _ _ rfl _ _ (eval_put_same a 117 _ (by rw [hsz]; decide)) (run_fieldM _ b) ?_
                  rw [wpOps_cons]
                  refine wpOp_store rfl (wanted_free rfl) _ _ _ rfl _ _ (eval_put_same _ 118 _ (by show 118 < (a.put (some 117) _).tmps.size; rw [size_put, hsz]; decide)) ((eval_put_other _ _ (by decide)).trans ((eval_put_other _ _ (by decide)).trans e116)) (run_storeP wy b _ _ _ _ hVy.cells.2 hVy.free) ?_
                  rw [wpOps]
                  clear hVy
                  go_wp2
                  refine bodyPost_end (results_none rfl _ _ _) (by first | exact hd | rfl) ⟨rfl, ⟨_, ?_, hfin.1.2⟩, hfin.2⟩
                  rw [hput.out]
                  exact hfin.1.1
              · have hbk' : Eds w6 (some ⟨g3, 6, Option.none⟩) (n3 - 1) (c3 - 1) (l3.drop 1) := by
                  have := hbk.out
                  rw [if_neg hc] at this
                  simpa [addr_add] using this
                rw [← hL5'.out] at hbk'
                obtain ⟨n7, hn7⟩ : ∃ n7, n7 = n3 - 1 := ⟨_, rfl⟩
                obtain ⟨c7, hc7⟩ : ∃ c7, c7 = c3 - 1 := ⟨_, rfl⟩
                have hn7' := Lib.hid hn7
                have hc7' := Lib.hid hc7
                rw [← hn7, ← hc7] at hbk'
                have hp7 := hM6.out.put hbk' (fun a ha => by injection ha with ha; subst ha; exact hM6.out.away ⟨g3, 0, Option.none⟩ rfl)
                have hM7 := Lib.hid hp7.1
                have hG7 := Lib.hid (grown_then hG6.out hp7.2)
                have hz7 := Lib.hid (hz6.out.block (heap_setCell_other w6 ⟨b, 1, Option.none⟩ w.heap.size (.slice (some ⟨g3, 6, Option.none⟩) n7 c7) (by have := hltb.out; show w.heap.size ≠ b; omega)))
                clear hp7 hbk' hbk hn7 hc7
                go_wp2
                clear i1 i2
                rw [← hn7'.out, ← hc7'.out]
                generalize w6.setCell ⟨b, 1, Option.none⟩ (.slice (some ⟨g3, 6, Option.none⟩) n7 c7) = w7 at hM7 hG7 hz7 ⊢
                refine wp_region_tail 10 14 (by decide) (by kernel_rfl) (RInv 119 [107, 108, 109, 110, 111, 112, 113, 114, 115, 116] _ (enF b (some ⟨g3, 6, Option.none⟩) n7 c7 x) w7 (PQ w7 L5 x)) (by kernel_rfl) (by kernel_rfl) (RInv.start rfl ⟨Nat.le_refl _, fun h => h.elim, fun h => h.elim, fun h => h.elim, fun h => h.elim⟩ (Below.refl _ _).drew) ?_ ?_
                · intro i hi D a wy hI hcl hnd hpre
                  have hi' : i < 10 := hi
                  have hcase : i = 0 ∨ i = 1 ∨ i = 2 ∨ i = 3 ∨ i = 4 ∨ i = 5 ∨ i = 6 ∨ i = 7 ∨ i = 8 ∨ i = 9 := by omega
                  have hF := hI.fact
                  have h96 : D 9 → D 6 := fun h => hcl 9 h 6 (by kernel_rfl)
                  have h98 : D 9 → D 8 := fun h => hcl 9 h 8 (by kernel_rfl)
                  have h61 : D 6 → D 1 := fun h => hcl 6 h 1 (by kernel_rfl)
                  rcases hcase with rfl | rfl | rfl | rfl | rfl | rfl | rfl | rfl | rfl | rfl
                  · exact wpOp_move rfl (wanted_free rfl) _ rfl _ (hI.same 0 (by decide)) (hI.put (by decide) (by decide) (fun j _ _ h => enF_any h) rfl (hI.more.pure _ (by decide) (by decide) (by decide) (by decide) (by decide)) hI.below)
                  · exact wpOp_build rfl (wanted_free rfl) _ _ _ rfl #[] (by simp) _ (run_build0 wy) (hI.put (by decide) (by decide) (fun j _ _ h => enF_any h) trivial (hI.more.op1 (by rw [hI.size]; decide) (fun h => hnd (h61 h)) (fun h => hnd (h61 (h96 h)))) (hI.below.alloc hI.below.size _))
                  · exact wpOp_move rfl (wanted_free rfl) _ rfl _ (hI.same 0 (by decide)) (hI.put (by decide) (by decide) (fun j _ _ h => enF_any h) rfl (hI.more.pure _ (by decide) (by decide) (by decide) (by decide) (by decide)) hI.below)
                  · exact wpOp_nil rfl (wanted_free rfl) _ rfl _ (hF 2 (hpre 2 (by kernel_rfl))) (hI.put (by decide) (by decide) (fun j _ _ h => enF_any h) rfl (hI.more.pure _ (by decide) (by decide) (by decide) (by decide) (by decide)) hI.below)
                  · exact wpOp_field rfl (wanted_free rfl) _ _ _ rfl _ _ (hF 3 (hpre 3 (by kernel_rfl))) (run_fieldM wy b) (hI.put (by decide) (by decide) (fun j _ _ h => enF_any h) rfl (hI.more.pure _ (by decide) (by decide) (by decide) (by decide) (by decide)) hI.below)
                  · exact wpOp_load rfl (wanted_free rfl) _ _ rfl _ _ (hF 4 (hpre 4 (by kernel_rfl))) (run_loadM wy b 1 _ _ _ (hM7.out.later hI.below).cells.2) (hI.put (by decide) (by decide) (fun j _ _ h => enF_any h) rfl (hI.more.pure _ (by decide) (by decide) (by decide) (by decide) (by decide)) hI.below)
                  · obtain ⟨v6, e108, ho6⟩ := hI.more.row1 (hpre 1 (by kernel_rfl)) hnd
                    obtain ⟨v7, w7, hrun, hO7, hg7, hm7⟩ := run_append_eds (P := Try.prog) w7.heap.size 39 39 i0 Try.underlying39 hi0 hi1 hi2 hi3 ho6 (hM7.out.later hI.below).eds (by have := hlf.out; have := hM7.out.eds.len; show 0 + n7 ≤ 1000000; omega) hI.below.size
                    rw [List.nil_append] at hO7
                    have hB7 := hI.below.grown hg7 hI.below.size (fun k hk => (World.ownsRow.lt ho6 k hk).1)
                    exact wpOp_appendR rfl (wanted_free rfl) _ _ _ rfl _ _ _ e108 (hF 5 (hpre 5 (by kernel_rfl))) hrun (hI.put (by decide) (by decide) (fun j _ _ h => enF_any h) trivial (hI.more.op6 (by rw [hI.size]; decide) e108 (hpre 1 (by kernel_rfl)) hnd (fun h => hnd (h96 h)) hO7 hg7 hm7) hB7)
                  · exact wpOp_load rfl (wanted_free rfl) _ _ rfl _ _ (hI.same 4 (by decide)) (run_loadS wy w.heap.size x (hz7.out.later hI.below)) (hI.put (by decide) (by decide) (fun j _ _ h => enF_any h) rfl (hI.more.pure _ (by decide) (by decide) (by decide) (by decide) (by decide)) hI.below)
                  · refine wpOp_build rfl (wanted_free rfl) _ _ _ rfl #[(0, evalue x)] ?_ _ (run_buildE wy x) (hI.put (by decide) (by decide) (fun j _ _ h => enF_any h) trivial (hI.more.op8 (by rw [hI.size]; decide) (fun h => hnd (h98 h))) (hI.below.alloc hI.below.size _))
                    have e5 : a.eval (.tmp 114) = evalue x := hF 7 (hpre 7 (by kernel_rfl))
                    simp [e5]
                  · obtain ⟨v6, e113, ho6⟩ := hI.more.row2 (hpre 6 (by kernel_rfl)) hnd
                    obtain ⟨gx, e115, _, hEx, _⟩ := hI.more.one (hpre 8 (by kernel_rfl)) hnd
                    obtain ⟨v7, w7, hrun, hO7, hg7, _⟩ := run_append_eds (P := Try.prog) w7.heap.size 39 39 i0 Try.underlying39 hi0 hi1 hi2 hi3 ho6 hEx (by have := hlf.out; omega) hI.below.size
                    have hB7 := hI.below.grown hg7 hI.below.size (fun k hk => (World.ownsRow.lt ho6 k hk).1)
                    exact wpOp_appendR rfl (wanted_free rfl) _ _ _ rfl _ _ _ e113 e115 hrun (hI.put (by decide) (by decide) (fun j _ _ h => enF_any h) trivial (hI.more.op9 (by rw [hI.size]; decide) (hpre 6 (by kernel_rfl)) hO7 hB7.size) hB7)
                · intro D a wy hI hall
                  obtain ⟨v9, e116, hO9⟩ := hI.more.full (hall 9 (by decide))
                  have hd : a.defers = [] := hI.defs
                  have e107 : a.eval (.tmp 107) = .pointer (some ⟨b, 0, Option.none⟩) := hI.fact 0 (hall 0 (by decide))
                  have hsz := hI.size
                  have hB9 := hI.below
                  clear hI hall
                  obtain ⟨A9, c9, rfl, hE9⟩ := hO9.eds
                  have hVy := hM7.out.later hB9
                  have hfin := hM7.out.fin hB9 hO9 hG7.out
                  clear hO9 hE9
                  generalize (L5 ++ [x]).length = n9 at hfin e116
                  show wpOps _ _ _ [10, 11, 12] a wy
                  rw [wpOps_cons]
                  refine wpOp_nil rfl (wanted_free rfl) _ rfl _ e107 ?_
                  rw [wpOps_cons]
                  refine wpOp_field rfl (wanted_free rfl) _ _ _ rfl _ _ (eval_put_same a 117 _ (by rw [hsz]; decide)) (run_fieldM _ b) ?_
                  rw [wpOps_cons]
                  refine wpOp_store rfl (wanted_free rfl) _ _ _ rfl _ _ (eval_put_same _ 118 _ (by show 118 < (a.put (some 117) _).tmps.size; rw [size_put, hsz]; decide)) ((eval_put_other _ _ (by decide)).trans ((eval_put_other _ _ (by decide)).trans e116)) (run_storeP wy b _ _ _ _ hVy.cells.2 hVy.free) ?_
                  rw [wpOps]
                  clear hVy
                  go_wp2
                  refine bodyPost_end (results_none rfl _ _ _) (by first | exact hd | rfl) ⟨rfl, ⟨_, ?_, hfin.1.2⟩, hfin.2⟩
                  rw [hput.out]
                  exact hfin.1.1

set_option maxHeartbeats 16000000 in
set_option maxRecDepth 100000 in
theorem refPutFullB_any (b most : Nat) (v : Value) (l : List Ent) (x : Ent) (now : Int) (w : World) (h : RM w b most v l) (hll : l.length ≤ 1000) (hsp : spot l x = l.length) (hmn : most ≤ l.length) (hq : (live l now).length < most) :
    Calls Try.prog 14 #[.pointer (some ⟨b, 0, Option.none⟩), evalue x, .int .i64 now] w fun e w' => e = .returned (.tuple #[]) ∧ (∃ v', RM w' b most v' (put most l x now) ∧ Fresh w.heap.size v') ∧ w.grownBy w' (some b) := by
  obtain ⟨i0, hi0, hi1, hi2, hi3⟩ := info_parts Try.infoE
  obtain ⟨A, c, rfl, hE⟩ := h.own.eds
  obtain ⟨l3, hl3⟩ : ∃ l3, l3 = live l now := ⟨_, rfl⟩
  rw [← hl3] at hq
  have hle : l3.length ≤ l.length := hl3 ▸ List.length_filter_le _ _
  have hl3' := Lib.hid hl3
  have hq3 := Lib.hid hq
  have hq2 : ¬ most ≤ l3.length := by omega
  have hput := Lib.hid (show put most l x now = l3 ++ [x] by
    have h1 : ¬ spot l x < l.length := by omega
    unfold put room
    simp only [if_neg h1, if_pos hmn, ← hl3, if_neg hq2])
  have hlf := Lib.hid (show l3.length ≤ 1000 by omega)
  obtain ⟨n, hn⟩ : ∃ n, n = l.length := ⟨_, rfl⟩
  rw [← hn] at hE hmn h
  have hnm : n ≤ 1000 := by omega
  have hmn' := Lib.hid hmn
  have hl := Lib.hid hE.len
  have hM := Lib.hid h
  have hE' := Lib.hid hE
  have hltb := Lib.hid h.lt
  have hbx := Lib.hid (six_new w x 32)
  have hb0 := Lib.hid (below_box w (.cells (ecell x).toArray 32))
  have hslt := Lib.hid (fun k (h2 : k < l.length) => spot_lt (x := x) (by omega : k < spot l x) h2)
  obtain ⟨w0, hw0⟩ : ∃ w0, w0 = w.alloc (.cells (ecell x).toArray 32) := ⟨_, rfl⟩
  have hsz0 := Lib.hid (show w.heap.size < w0.heap.size by rw [hw0]; simp)
  rw [← hw0] at hbx hb0
  have hw0' : Hid (w.alloc (.cells #[.string x.fr, .string x.at_, .bool x.cred, .string x.me, .string x.he, .int .i64 x.til] 32) = w0) := Lib.hid hw0.symm
  clear h hE hw0 hn hll hsp hmn hq hle hl3 hq2
  have hev : evalue x = .agg #[.string x.fr, .string x.at_, .bool x.cred, .string x.me, .string x.he, .int .i64 x.til] := rfl
  rw [hev]
  clear hev
  go_enter Try.func14, Try.ntmps14
  go_wp2
  rw [hw0'.out]
  go_loopw [6] (fun i wr => ∃ q : Nat, q ≤ n ∧ i = .int .i64 q ∧ Below w0.heap.size w0 wr) (fun i _ => n - (RowKit.intOf i).toNat)
  case atStart => exact ⟨0, Nat.zero_le _, rfl, Below.refl _ _⟩
  case round =>
    obtain ⟨q, hq, rfl, hbe⟩ := hrel
    have hbw := Lib.hid (below_then hb0.out hbe)
    have hzr := Lib.hid (hbx.out.later hbe)
    have m1 := (hM.out.later hbw.out).cells.2
    by_cases hlt : q < n
    · have hql : q < l.length := by rw [hl.out]; exact hlt
      obtain ⟨y, hy⟩ : ∃ y, y = l[q] := ⟨_, rfl⟩
      obtain ⟨g, off, rfl, h1, h2, h3, h4, h5, h6⟩ := (hE'.out.later hbw.out).six hlt hy
      have hsk : Hid (sameKey y x = false) := Lib.hid (by rw [hy]; exact hslt.out q hql)
      clear hy
      go_wp2
      refine wp_region_each (RInv 119 [18, 19, 20, 21, 22, 23, 24, 25, 26] _ (mkF b q (some ⟨g, off, Option.none⟩) n c g off x y) wr NoMore) (by kernel_rfl) (by kernel_rfl) (RInv.start rfl trivial (Below.refl _ _).drew) ?_ ?_
      · intro i hi D a wx hI hcl hnd hpre
        have hi' : i < 9 := hi
        have hcase : i = 0 ∨ i = 1 ∨ i = 2 ∨ i = 3 ∨ i = 4 ∨ i = 5 ∨ i = 6 ∨ i = 7 ∨ i = 8 := by omega
        have hF := hI.fact
        rcases hcase with rfl | rfl | rfl | rfl | rfl | rfl | rfl | rfl | rfl
        · exact wpOp_move rfl (wanted_free rfl) _ rfl _ (hI.same 0 (by decide)) (hI.add (by decide) mkF_later (by decide) (Below.refl _ _) rfl)
        · exact wpOp_nil rfl (wanted_free rfl) _ rfl _ (hF 0 (hpre 0 (by kernel_rfl))) (hI.add (by decide) mkF_later (by decide) (Below.refl _ _) rfl)
        · exact wpOp_field rfl (wanted_free rfl) _ _ _ rfl _ _ (hF 1 (hpre 1 (by kernel_rfl))) (run_fieldM wx b) (hI.add (by decide) mkF_later (by decide) (Below.refl _ _) rfl)
        · exact wpOp_load rfl (wanted_free rfl) _ _ rfl _ _ (hF 2 (hpre 2 (by kernel_rfl))) (run_loadM wx b 1 _ _ _ (cell_later hI.below m1)) (hI.add (by decide) mkF_later (by decide) (Below.refl _ _) rfl)
        · exact wpOp_move rfl (wanted_free rfl) _ rfl _ (hI.same 6 (by decide)) (hI.add (by decide) mkF_later (by decide) (Below.refl _ _) rfl)
        · exact wpOp_index rfl (wanted_free rfl) _ _ _ rfl _ _ _ (hF 3 (hpre 3 (by kernel_rfl))) (hF 4 (hpre 4 (by kernel_rfl))) (run_idxE wx g off n c q hlt) (hI.add (by decide) mkF_later (by decide) (Below.refl _ _) rfl)
        · exact wpOp_load rfl (wanted_free rfl) _ _ rfl _ _ (hF 5 (hpre 5 (by kernel_rfl))) (run_loadE wx g _ y (cell_later hI.below h1) (cell_later hI.below h2) (cell_later hI.below h3) (cell_later hI.below h4) (cell_later hI.below h5) (cell_later hI.below h6)) (hI.add (by decide) mkF_later (by decide) (Below.refl _ _) rfl)
        · exact wpOp_load rfl (wanted_free rfl) _ _ rfl _ _ (hI.same 4 (by decide)) (run_loadS wx w.heap.size x (hzr.out.later hI.below)) (hI.add (by decide) mkF_later (by decide) (Below.refl _ _) rfl)
        · exact wpOp_call2 rfl (wanted_free rfl) 27 _ _ _ rfl _ _ (hF 6 (hpre 6 (by kernel_rfl))) (hF 7 (hpre 7 (by kernel_rfl))) (enters_same15 _ _) (refKey_any y x wx) (fun e w' h => ⟨_, h.1, hI.add (by decide) mkF_later (by decide) h.2 rfl⟩)
      · intro D a wx hI hall
        have hB := Lib.hid hI.below
        obtain ⟨fs, rfl, hfs⟩ := hI.done (by decide) rfl (fun i hi => hall i hi)
        have h26 : fs 26 = .bool false := (hfs 8 (by decide)).trans (congrArg Value.bool hsk.out)
        clear hI hall hfs
        simp only [putAll, List.map_cons, List.map_nil, Act.put, List.setIfInBounds_toArray, List.set_cons_zero, List.set_cons_succ]
        rw [h26]
        clear h26
        generalize fs 18 = u18
        generalize fs 19 = u19
        generalize fs 20 = u20
        generalize fs 21 = u21
        generalize fs 22 = u22
        generalize fs 23 = u23
        generalize fs 24 = u24
        generalize fs 25 = u25
        go_wp2
        go_roundw
        case rel => exact ⟨q + 1, by omega, by go_num, below_then hbe hB.out⟩
        case measure => simp [RowKit.intOf]; omega
    · have e : n = q := by omega
      subst e
      have hMr := Lib.hid ((hM.out.later hbw.out).view)
      have hrr := Lib.hid (show decide ((most : Int) ≤ (n : Int)) = true from decide_eq_true (by have := hmn'.out; omega))
      go_wp2
      refine wp_region_each (RInv 119 [45, 46, 47, 48, 49, 50, 51, 52, 53, 54] _ (rmF b most A n c true) wr NoMore) (by kernel_rfl) (by kernel_rfl) (RInv.start rfl trivial (Below.refl _ _).drew) ?_ ?_
      · intro i hi D a wy hI hcl hnd hpre
        have hi' : i < 10 := hi
        have hcase : i = 0 ∨ i = 1 ∨ i = 2 ∨ i = 3 ∨ i = 4 ∨ i = 5 ∨ i = 6 ∨ i = 7 ∨ i = 8 ∨ i = 9 := by omega
        have hF := hI.fact
        rcases hcase with rfl | rfl | rfl | rfl | rfl | rfl | rfl | rfl | rfl | rfl
        · exact wpOp_move rfl (wanted_free rfl) _ rfl _ (hI.same 0 (by decide)) (hI.add (by decide) rmF_later (by decide) (Below.refl _ _) rfl)
        · exact wpOp_nil rfl (wanted_free rfl) _ rfl _ (hF 0 (hpre 0 (by kernel_rfl))) (hI.add (by decide) rmF_later (by decide) (Below.refl _ _) rfl)
        · exact wpOp_field rfl (wanted_free rfl) _ _ _ rfl _ _ (hF 1 (hpre 1 (by kernel_rfl))) (run_fieldM wy b) (hI.add (by decide) rmF_later (by decide) (Below.refl _ _) rfl)
        · exact wpOp_load rfl (wanted_free rfl) _ _ rfl _ _ (hF 2 (hpre 2 (by kernel_rfl))) (run_loadM wy b 1 _ _ _ (hMr.out.later hI.below).cells.2) (hI.add (by decide) rmF_later (by decide) (Below.refl _ _) rfl)
        · exact wpOp_len rfl (wanted_free rfl) _ _ rfl _ Try.underlying39 _ _ _ (hF 3 (hpre 3 (by kernel_rfl))) (hI.add (by decide) rmF_later (by decide) (Below.refl _ _) rfl)
        · exact wpOp_move rfl (wanted_free rfl) _ rfl _ (hI.same 0 (by decide)) (hI.add (by decide) rmF_later (by decide) (Below.refl _ _) rfl)
        · exact wpOp_nil rfl (wanted_free rfl) _ rfl _ (hF 5 (hpre 5 (by kernel_rfl))) (hI.add (by decide) rmF_later (by decide) (Below.refl _ _) rfl)
        · exact wpOp_field rfl (wanted_free rfl) _ _ _ rfl _ _ (hF 6 (hpre 6 (by kernel_rfl))) (run_fieldM0 wy b) (hI.add (by decide) rmF_later (by decide) (Below.refl _ _) rfl)
        · exact wpOp_load rfl (wanted_free rfl) _ _ rfl _ _ (hF 7 (hpre 7 (by kernel_rfl))) (run_loadI wy b 0 _ (hMr.out.later hI.below).cells.1) (hI.add (by decide) rmF_later (by decide) (Below.refl _ _) rfl)
        · exact wpOp_bin rfl (wanted_free rfl) _ _ _ _ _ rfl _ _ _ (hF 4 (hpre 4 (by kernel_rfl))) (hF 8 (hpre 8 (by kernel_rfl))) (run_geq _ _ wy _ _ true hrr.out) (hI.add (by decide) rmF_later (by decide) (Below.refl _ _) rfl)
      · intro D a w2 hI hall
        have hB_w2 := Lib.hid hI.below
        obtain ⟨fs, rfl, hfs⟩ := hI.done (by decide) rfl (fun i hi => hall i hi)
        have hl9 : fs 54 = .bool true := hfs 9 (by decide)
        clear hI hall hfs
        simp only [putAll, List.map_cons, List.map_nil, Act.put, List.setIfInBounds_toArray, List.set_cons_zero, List.set_cons_succ]
        rw [hl9]
        clear hl9
        generalize fs 45 = u45
        generalize fs 46 = u46
        generalize fs 47 = u47
        generalize fs 48 = u48
        generalize fs 49 = u49
        generalize fs 50 = u50
        generalize fs 51 = u51
        generalize fs 52 = u52
        generalize fs 53 = u53
        have hM2 := Lib.hid (hMr.out.later hB_w2.out)
        have hz2 := Lib.hid (hzr.out.later hB_w2.out)
        have hG2 := Lib.hid (below_grows (below_then hbw.out hB_w2.out) (some b))
        have hE2 := Lib.hid (hE'.out.later (below_then hbw.out hB_w2.out))
        have h00 := Lib.hid (owns_zero w2)
        have hone := Lib.hid (fun W (y : Ent) => eds_new W (ecells [y]).toArray [y] rfl (tiny (by simp)))
        clear hrr
        go_wp2
        go_loopw [7, 8] (fun o i wr => ∃ q : Nat, q ≤ n ∧ i = .int .i64 q ∧ OwnsE wr w2.heap.size o (live (l.take q) now) ∧ Below w2.heap.size w2 wr) (fun _ i _ => n - (RowKit.intOf i).toNat)
        case atStart => exact ⟨0, Nat.zero_le _, rfl, h00.out, below_box _ _⟩
        case round =>
          obtain ⟨q, hq2, rfl, hown, hbe2⟩ := hrel
          have hVw := Lib.hid (hM2.out.later hbe2)
          have n1 := hVw.out.cells.2
          have hown' := Lib.hid hown
          have hdl : (live (l.take q) now).length ≤ 1000 := by have := List.length_filter_le (fun y => decide (now < y.til)) (l.take q); rw [List.length_take, hl.out] at this; show (List.filter _ _).length ≤ _; omega
          have hB1 := hbe2.size
          clear hown
          by_cases hlt1 : q < n
          · have hql : q < l.length := by rw [hl.out]; exact hlt1
            obtain ⟨y, hy⟩ : ∃ y, y = l[q] := ⟨_, rfl⟩
            obtain ⟨g, off, rfl, h1, h2, h3, h4, h5, h6⟩ := (hE2.out.later hbe2).six hlt1 hy
            have hst := Lib.hid (show live (l.take (q + 1)) now = live (l.take q) now ++ (if decide (now < l[q].til) then [l[q]] else []) from filter_step hql)
            rw [← hy] at hst
            clear hy
            obtain ⟨y1, y2, y3, y4, y5, y6⟩ := y
            simp only at h1 h2 h3 h4 h5 h6 hst
            have hyO := Lib.hid (hone.out wr ⟨y1, y2, y3, y4, y5, y6⟩)
            by_cases ht : now < y6
            · have hs := Lib.hid (show live (l.take (q + 1)) now = live (l.take q) now ++ [⟨y1, y2, y3, y4, y5, y6⟩] by rw [hst.out, decide_eq_true ht]; rfl)
              clear hst
              go_wp2_with (at_builtin; refine wpList_append_eds rfl (.tmp 75) (.tmp 83) 39 rfl w2.heap.size i0 Try.underlying39 hi0 hi1 hi2 hi3 _ _ rfl (hown'.out.alloc _) _ _ _ _ rfl hyO.out (by simp; omega) (by simp; omega) ?_; intro v2 w5 hown2 hg2 _; have hb2 := Lib.hid ((hown'.out.alloc _).below (hbe2.alloc hB1 _) hg2 (by simp; omega)))
              go_roundw
              case rel => exact ⟨q + 1, by omega, by go_num, by rw [hs.out]; exact hown2, hb2.out⟩
              case measure => simp [RowKit.intOf]; omega
            · have hs := Lib.hid (show live (l.take (q + 1)) now = live (l.take q) now by rw [hst.out, decide_eq_false ht]; exact List.append_nil _)
              clear hst
              go_wp2
              go_roundw
              case rel => exact ⟨q + 1, by omega, by go_num, by rw [hs.out]; exact hown'.out, hbe2⟩
              case measure => simp [RowKit.intOf]; omega
          · have e : n = q := by omega
            subst e
            have htk : l.take n = l := by rw [← hl.out, List.take_length]
            have hownl := hown'.out
            rw [htk] at hownl
            rw [← hl3'.out] at hownl
            clear hown' hdl htk
            obtain ⟨A3, c3, rfl, hE3⟩ := hownl.eds
            have hfr := hVw.out.free
            have hp3 := hM2.out.fin hbe2 hownl hG2.out
            obtain ⟨n3, hn3⟩ : ∃ n3, n3 = l3.length := ⟨_, rfl⟩
            rw [← hn3] at hp3 hE3 hownl ⊢
            have hn3' := Lib.hid hn3
            have hM3 := Lib.hid hp3.1.1.view
            have hG3 := Lib.hid hp3.2
            have hz3 := Lib.hid ((hz2.out.later hbe2).block (heap_setCell_other wr ⟨b, 1, Option.none⟩ w.heap.size (.slice A3 n3 c3) (by have := hltb.out; show w.heap.size ≠ b; omega)))
            have hA3 := Lib.hid (rfl : (0 : Nat) = 0)
            clear hp3 hownl hn3 hE3
            go_wp2
            clear hfr n1 m1
            clear hVw
            generalize wr.setCell ⟨b, 1, Option.none⟩ (.slice A3 n3 c3) = w5 at hM3 hG3 hz3 ⊢
            have hrr := Lib.hid (show decide ((most : Int) ≤ (n3 : Int)) = false from decide_eq_false (by have := hq3.out; have := hn3'.out; omega))
            refine wp_region_each (RInv 119 [89, 90, 91, 92, 93, 94, 95, 96, 97, 98] _ (rmF b most A3 n3 c3 false) w5 NoMore) (by kernel_rfl) (by kernel_rfl) (RInv.start rfl trivial (Below.refl _ _).drew) ?_ ?_
            · intro i hi D a wy hI hcl hnd hpre
              have hi' : i < 10 := hi
              have hcase : i = 0 ∨ i = 1 ∨ i = 2 ∨ i = 3 ∨ i = 4 ∨ i = 5 ∨ i = 6 ∨ i = 7 ∨ i = 8 ∨ i = 9 := by omega
              have hF := hI.fact
              rcases hcase with rfl | rfl | rfl | rfl | rfl | rfl | rfl | rfl | rfl | rfl
              · exact wpOp_move rfl (wanted_free rfl) _ rfl _ (hI.same 0 (by decide)) (hI.add (by decide) rmF_later (by decide) (Below.refl _ _) rfl)
              · exact wpOp_nil rfl (wanted_free rfl) _ rfl _ (hF 0 (hpre 0 (by kernel_rfl))) (hI.add (by decide) rmF_later (by decide) (Below.refl _ _) rfl)
              · exact wpOp_field rfl (wanted_free rfl) _ _ _ rfl _ _ (hF 1 (hpre 1 (by kernel_rfl))) (run_fieldM wy b) (hI.add (by decide) rmF_later (by decide) (Below.refl _ _) rfl)
              · exact wpOp_load rfl (wanted_free rfl) _ _ rfl _ _ (hF 2 (hpre 2 (by kernel_rfl))) (run_loadM wy b 1 _ _ _ (hM3.out.later hI.below).cells.2) (hI.add (by decide) rmF_later (by decide) (Below.refl _ _) rfl)
              · exact wpOp_len rfl (wanted_free rfl) _ _ rfl _ Try.underlying39 _ _ _ (hF 3 (hpre 3 (by kernel_rfl))) (hI.add (by decide) rmF_later (by decide) (Below.refl _ _) rfl)
              · exact wpOp_move rfl (wanted_free rfl) _ rfl _ (hI.same 0 (by decide)) (hI.add (by decide) rmF_later (by decide) (Below.refl _ _) rfl)
              · exact wpOp_nil rfl (wanted_free rfl) _ rfl _ (hF 5 (hpre 5 (by kernel_rfl))) (hI.add (by decide) rmF_later (by decide) (Below.refl _ _) rfl)
              · exact wpOp_field rfl (wanted_free rfl) _ _ _ rfl _ _ (hF 6 (hpre 6 (by kernel_rfl))) (run_fieldM0 wy b) (hI.add (by decide) rmF_later (by decide) (Below.refl _ _) rfl)
              · exact wpOp_load rfl (wanted_free rfl) _ _ rfl _ _ (hF 7 (hpre 7 (by kernel_rfl))) (run_loadI wy b 0 _ (hM3.out.later hI.below).cells.1) (hI.add (by decide) rmF_later (by decide) (Below.refl _ _) rfl)
              · exact wpOp_bin rfl (wanted_free rfl) _ _ _ _ _ rfl _ _ _ (hF 4 (hpre 4 (by kernel_rfl))) (hF 8 (hpre 8 (by kernel_rfl))) (run_geq _ _ wy _ _ false hrr.out) (hI.add (by decide) rmF_later (by decide) (Below.refl _ _) rfl)
            · intro D a w6 hI hall
              have hB_w6 := Lib.hid hI.below
              obtain ⟨fs, rfl, hfs⟩ := hI.done (by decide) rfl (fun i hi => hall i hi)
              have hl9 : fs 98 = .bool false := hfs 9 (by decide)
              clear hI hall hfs
              simp only [putAll, List.map_cons, List.map_nil, Act.put, List.setIfInBounds_toArray, List.set_cons_zero, List.set_cons_succ]
              rw [hl9]
              clear hl9
              generalize fs 89 = u89
              generalize fs 90 = u90
              generalize fs 91 = u91
              generalize fs 92 = u92
              generalize fs 93 = u93
              generalize fs 94 = u94
              generalize fs 95 = u95
              generalize fs 96 = u96
              generalize fs 97 = u97
              have hM6 := Lib.hid (hM3.out.later hB_w6.out)
              have hz6 := Lib.hid (hz3.out.later hB_w6.out)
              have hG6 := Lib.hid (grown_then hG3.out (below_grows hB_w6.out (some b)))
              go_wp2
              refine wp_region_tail 10 14 (by decide) (by kernel_rfl) (RInv 119 [107, 108, 109, 110, 111, 112, 113, 114, 115, 116] _ (enF b A3 n3 c3 x) w6 (PQ w6 l3 x)) (by kernel_rfl) (by kernel_rfl) (RInv.start rfl ⟨Nat.le_refl _, fun h => h.elim, fun h => h.elim, fun h => h.elim, fun h => h.elim⟩ (Below.refl _ _).drew) ?_ ?_
              · intro i hi D a wy hI hcl hnd hpre
                have hi' : i < 10 := hi
                have hcase : i = 0 ∨ i = 1 ∨ i = 2 ∨ i = 3 ∨ i = 4 ∨ i = 5 ∨ i = 6 ∨ i = 7 ∨ i = 8 ∨ i = 9 := by omega
                have hF := hI.fact
                have h96 : D 9 → D 6 := fun h => hcl 9 h 6 (by kernel_rfl)
                have h98 : D 9 → D 8 := fun h => hcl 9 h 8 (by kernel_rfl)
                have h61 : D 6 → D 1 := fun h => hcl 6 h 1 (by kernel_rfl)
                rcases hcase with rfl | rfl | rfl | rfl | rfl | rfl | rfl | rfl | rfl | rfl
                · exact wpOp_move rfl (wanted_free rfl) _ rfl _ (hI.same 0 (by decide)) (hI.put (by decide) (by decide) (fun j _ _ h => enF_any h) rfl (hI.more.pure _ (by decide) (by decide) (by decide) (by decide) (by decide)) hI.below)
                · exact wpOp_build rfl (wanted_free rfl) _ _ _ rfl #[] (by simp) _ (run_build0 wy) (hI.put (by decide) (by decide) (fun j _ _ h => enF_any h) trivial (hI.more.op1 (by rw [hI.size]; decide) (fun h => hnd (h61 h)) (fun h => hnd (h61 (h96 h)))) (hI.below.alloc hI.below.size _))
                · exact wpOp_move rfl (wanted_free rfl) _ rfl _ (hI.same 0 (by decide)) (hI.put (by decide) (by decide) (fun j _ _ h => enF_any h) rfl (hI.more.pure _ (by decide) (by decide) (by decide) (by decide) (by decide)) hI.below)
                · exact wpOp_nil rfl (wanted_free rfl) _ rfl _ (hF 2 (hpre 2 (by kernel_rfl))) (hI.put (by decide) (by decide) (fun j _ _ h => enF_any h) rfl (hI.more.pure _ (by decide) (by decide) (by decide) (by decide) (by decide)) hI.below)
                · exact wpOp_field rfl (wanted_free rfl) _ _ _ rfl _ _ (hF 3 (hpre 3 (by kernel_rfl))) (run_fieldM wy b) (hI.put (by decide) (by decide) (fun j _ _ h => enF_any h) rfl (hI.more.pure _ (by decide) (by decide) (by decide) (by decide) (by decide)) hI.below)
                · exact wpOp_load rfl (wanted_free rfl) _ _ rfl _ _ (hF 4 (hpre 4 (by kernel_rfl))) (run_loadM wy b 1 _ _ _ (hM6.out.later hI.below).cells.2) (hI.put (by decide) (by decide) (fun j _ _ h => enF_any h) rfl (hI.more.pure _ (by decide) (by decide) (by decide) (by decide) (by decide)) hI.below)
                · obtain ⟨v6, e108, ho6⟩ := hI.more.row1 (hpre 1 (by kernel_rfl)) hnd
                  obtain ⟨v7, w7, hrun, hO7, hg7, hm7⟩ := run_append_eds (P := Try.prog) w6.heap.size 39 39 i0 Try.underlying39 hi0 hi1 hi2 hi3 ho6 (hM6.out.later hI.below).eds (by have := hlf.out; have := hM6.out.eds.len; show 0 + n3 ≤ 1000000; omega) hI.below.size
                  rw [List.nil_append] at hO7
                  have hB7 := hI.below.grown hg7 hI.below.size (fun k hk => (World.ownsRow.lt ho6 k hk).1)
                  exact wpOp_appendR rfl (wanted_free rfl) _ _ _ rfl _ _ _ e108 (hF 5 (hpre 5 (by kernel_rfl))) hrun (hI.put (by decide) (by decide) (fun j _ _ h => enF_any h) trivial (hI.more.op6 (by rw [hI.size]; decide) e108 (hpre 1 (by kernel_rfl)) hnd (fun h => hnd (h96 h)) hO7 hg7 hm7) hB7)
                · exact wpOp_load rfl (wanted_free rfl) _ _ rfl _ _ (hI.same 4 (by decide)) (run_loadS wy w.heap.size x (hz6.out.later hI.below)) (hI.put (by decide) (by decide) (fun j _ _ h => enF_any h) rfl (hI.more.pure _ (by decide) (by decide) (by decide) (by decide) (by decide)) hI.below)
                · refine wpOp_build rfl (wanted_free rfl) _ _ _ rfl #[(0, evalue x)] ?_ _ (run_buildE wy x) (hI.put (by decide) (by decide) (fun j _ _ h => enF_any h) trivial (hI.more.op8 (by rw [hI.size]; decide) (fun h => hnd (h98 h))) (hI.below.alloc hI.below.size _))
                  have e5 : a.eval (.tmp 114) = evalue x := hF 7 (hpre 7 (by kernel_rfl))
                  simp [e5]
                · obtain ⟨v6, e113, ho6⟩ := hI.more.row2 (hpre 6 (by kernel_rfl)) hnd
                  obtain ⟨gx, e115, _, hEx, _⟩ := hI.more.one (hpre 8 (by kernel_rfl)) hnd
                  obtain ⟨v7, w7, hrun, hO7, hg7, _⟩ := run_append_eds (P := Try.prog) w6.heap.size 39 39 i0 Try.underlying39 hi0 hi1 hi2 hi3 ho6 hEx (by have := hlf.out; omega) hI.below.size
                  have hB7 := hI.below.grown hg7 hI.below.size (fun k hk => (World.ownsRow.lt ho6 k hk).1)
                  exact wpOp_appendR rfl (wanted_free rfl) _ _ _ rfl _ _ _ e113 e115 hrun (hI.put (by decide) (by decide) (fun j _ _ h => enF_any h) trivial (hI.more.op9 (by rw [hI.size]; decide) (hpre 6 (by kernel_rfl)) hO7 hB7.size) hB7)
              · intro D a wy hI hall
                obtain ⟨v9, e116, hO9⟩ := hI.more.full (hall 9 (by decide))
                have hd : a.defers = [] := hI.defs
                have e107 : a.eval (.tmp 107) = .pointer (some ⟨b, 0, Option.none⟩) := hI.fact 0 (hall 0 (by decide))
                have hsz := hI.size
                have hB9 := hI.below
                clear hI hall
                obtain ⟨A9, c9, rfl, hE9⟩ := hO9.eds
                have hVy := hM6.out.later hB9
                have hfin := hM6.out.fin hB9 hO9 hG6.out
                clear hO9 hE9
                generalize (l3 ++ [x]).length = n9 at hfin e116
                show wpOps _ _ _ [10, 11, 12] a wy
                rw [wpOps_cons]
                refine wpOp_nil rfl (wanted_free rfl) _ rfl _ e107 ?_
                rw [wpOps_cons]
                refine wpOp_field rfl (wanted_free rfl) _ _ _ rfl _ _ (eval_put_same a 117 _ (by rw [hsz]; decide)) (run_fieldM _ b) ?_
                rw [wpOps_cons]
                refine wpOp_store rfl (wanted_free rfl) _ _ _ rfl _ _ (eval_put_same _ 118 _ (by show 118 < (a.put (some 117) _).tmps.size; rw [size_put, hsz]; decide)) ((eval_put_other _ _ (by decide)).trans ((eval_put_other _ _ (by decide)).trans e116)) (run_storeP wy b _ _ _ _ hVy.cells.2 hVy.free) ?_
                rw [wpOps]
                clear hVy
                go_wp2
                refine bodyPost_end (results_none rfl _ _ _) (by first | exact hd | rfl) ⟨rfl, ⟨_, ?_, hfin.1.2⟩, hfin.2⟩
                rw [hput.out]
                exact hfin.1.1

/-- Put, whatever there is. -/
theorem refPut_any (b most : Nat) (v : Value) (l : List Ent) (x : Ent) (now : Int) (w : World) (h : RM w b most v l) (hm : 1 ≤ most) (hll : l.length ≤ 1000) :
    Calls Try.prog 14 #[.pointer (some ⟨b, 0, Option.none⟩), evalue x, .int .i64 now] w fun e w' => e = .returned (.tuple #[]) ∧ (∃ v', RM w' b most v' (put most l x now) ∧ Fresh w.heap.size v') ∧ w.grownBy w' (some b) := by
  by_cases hsp : spot l x < l.length
  · have hp : put most l x now = l.set (spot l x) x := by unfold put; exact if_pos hsp
    rw [hp]
    exact refPut_old b most v l x now w h hll hsp
  · have hs : spot l x = l.length := by have := spot_le l x; omega
    by_cases hlt : l.length < most
    · exact refPutRoom_any b most v l x now w h hll hs hlt
    · by_cases hq : most ≤ (live l now).length
      · exact refPutFullA_any b most v l x now w h hll hs hm (by omega) hq
      · exact refPutFullB_any b most v l x now w h hll hs (by omega) (by omega)
end Go.Proofs.Ythojnhdnflakiaa
