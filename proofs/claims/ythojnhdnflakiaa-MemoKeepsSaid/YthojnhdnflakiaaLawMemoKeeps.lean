/-
  The walk of the statement MemoKeeps: for any number, list of deeds, entry and time it returns true, and nothing that was there is changed. No condition.
-/
import Derived.Test.YthojnhdnflakiaaMemoDeeds
namespace Go.Proofs.Ythojnhdnflakiaa
open Go.RowKit Go.Lib Go.Shelf

theorem enters_put (vs : Array Value) (w : World) : (callFunc 13 vs).run Try.prog w = .ok (.enter 13 vs) w := by kernel_rfl
theorem below_thenB {B : Nat} {w a b : World} (h : Below B w a) (k : Below a.heap.size a b) (hB : B ≤ a.heap.size) : Below B w b := h.trans (k.mono hB)

set_option maxHeartbeats 16000000 in
set_option maxRecDepth 100000 in
theorem memoKeeps_law (a : Int) (ha : 0 ≤ a ∧ a < 256) (A : Option Addr) (n0 c : Nat) (l0 : List Deed) (q : Ent) (now : Int) (_hnow : now ≤ 9223372036854775807) (w : World) (H : Dds w A n0 c l0) (_J : ∀ q ∈ l0, q.kind < 256 ∧ Six4 q.what.til ∧ Six4 q.now) (_j : Six4 q.til) :
    Calls Try.prog 4 #[.int .u8 a, .slice A n0 c, evalue q, .int .i64 now] w (Yes w) := by
  obtain ⟨n, hn, hn1, hn2⟩ : ∃ n : Nat, 1 + a % 64 = (n : Int) ∧ 1 ≤ n ∧ n ≤ 64 := ⟨(1 + a % 64).toNat, by omega, by omega, by omega⟩
  obtain ⟨x1, x2, x3, x4, x5, x6⟩ := q
  have hn63 : n0 ≤ 9223372036854775807 := by have h1 := H.cap; have h2 := H.room; unfold maxLen at h2; omega
  have hl := Lib.hid H.len
  have hH := Lib.hid H
  have hsz : (w.alloc (.cells (ecell ⟨x1, x2, x3, x4, x5, x6⟩).toArray 32)).heap.size = w.heap.size + 1 := by simp
  have hbx := Lib.hid (below_box w (.cells (ecell ⟨x1, x2, x3, x4, x5, x6⟩).toArray 32))
  have hzx := Lib.hid (six_new w ⟨x1, x2, x3, x4, x5, x6⟩ 32)
  have hN := new_yes n hn1 hn2 (w.alloc (.cells (ecell ⟨x1, x2, x3, x4, x5, x6⟩).toArray 32))
  rw [hsz] at hN
  have hN' : Hid (Calls Try.prog 6 #[.int .i64 (n : Int)] (w.alloc (.cells #[.string x1, .string x2, .bool x3, .string x4, .string x5, .int .i64 x6] 32)) fun e w' => e = .returned (.tuple #[.pointer (some ⟨w.heap.size + 1, 0, Option.none⟩), .int .i64 0]) ∧ PM w' (w.heap.size + 1) n (.slice Option.none 0 0) [] ∧ Below (w.heap.size + 1) (w.alloc (.cells #[.string x1, .string x2, .bool x3, .string x4, .string x5, .int .i64 x6] 32)) w') := Lib.hid hN
  have hsz' := Lib.hid hsz
  clear H _J _j hN hsz
  unfold evalue
  simp only
  go_enter Try.func4, Try.ntmps4
  go_wp2_with (go_at_call 6; (with_reducible refine hN'.out.mono ?_); rintro e W2 ⟨rfl, hP2, hb2⟩; have hP0 := Lib.hid hP2; have hb3 := Lib.hid (show Below (w.alloc (.cells (ecell ⟨x1, x2, x3, x4, x5, x6⟩).toArray 32)).heap.size (w.alloc (.cells (ecell ⟨x1, x2, x3, x4, x5, x6⟩).toArray 32)) W2 by rw [hsz'.out]; exact hb2); have hb0 := Lib.hid (below_then hbx.out hb3.out); have hz := Lib.hid (hzx.out.later hb3.out); clear hP2 hb2)
  go_loopw [12] (fun i wr => ∃ (k : Nat) (v : Value) (l : List Ent), k ≤ n0 ∧ k ≤ 70 ∧ i = .int .i64 k ∧ Hid (PM wr (w.heap.size + 1) n v l) ∧ l.length ≤ n ∧ Hid (Uniq l) ∧ Hid (Below (w.heap.size + 1) W2 wr)) (fun i _ => n0 - (RowKit.intOf i).toNat)
  case atStart => exact ⟨0, _, [], Nat.zero_le _, by omega, rfl, hP0, Nat.zero_le _, Lib.hid List.Pairwise.nil, Lib.hid (Below.refl _ _)⟩
  case round =>
    obtain ⟨k, v, l, hk, hk7, rfl, hP, hlen, hU, hbe⟩ := hrel
    have hsr := Lib.hid (show w.heap.size + 1 < wr.heap.size from hP.out.lt)
    have hbw := Lib.hid (show Below w.heap.size w wr from hb0.out.trans (hbe.out.mono (by omega)))
    have hzr := Lib.hid (hz.out.block (hbe.out.block w.heap.size (by omega)))
    by_cases hlt : k < n0
    · by_cases hlt7 : k < 70
      · obtain ⟨d, hd⟩ : ∃ d, d = l0[k]'(by rw [hl.out]; exact hlt) := ⟨_, rfl⟩
        obtain ⟨g, off, rfl, hgl, h0, h1, h2, h3, h4, h5, h6, h7⟩ := (hH.out.later hbw.out).eight hlt hd
        clear hd
        go_wp2
        refine wp_region_tail 11 13 (by decide) (by kernel_rfl) (RInv 117 [38, 39, 40, 41, 42, 43, 44, 45, 46, 47, 48] _ (kpF (w.heap.size + 1) k g off n0 c d) wr NoMore) (by kernel_rfl) (by kernel_rfl) (RInv.start rfl trivial (Below.refl _ _).drew) ?_ ?_
        · intro i hi D a wy hI hcl hnd hpre
          have hi' : i < 11 := hi
          have hcase : i = 0 ∨ i = 1 ∨ i = 2 ∨ i = 3 ∨ i = 4 ∨ i = 5 ∨ i = 6 ∨ i = 7 ∨ i = 8 ∨ i = 9 ∨ i = 10 := by omega
          have hF := hI.fact
          rcases hcase with rfl | rfl | rfl | rfl | rfl | rfl | rfl | rfl | rfl | rfl | rfl
          · exact wpOp_move rfl (wanted_free rfl) _ rfl _ (hI.same 10 (by decide)) (hI.add (by decide) kpF_later (by decide) (Below.refl _ _) rfl)
          · exact wpOp_move rfl (wanted_free rfl) _ rfl _ (hI.same 1 (by decide)) (hI.add (by decide) kpF_later (by decide) (Below.refl _ _) rfl)
          · exact wpOp_move rfl (wanted_free rfl) _ rfl _ (hI.same 12 (by decide)) (hI.add (by decide) kpF_later (by decide) (Below.refl _ _) rfl)
          · exact wpOp_index rfl (wanted_free rfl) _ _ _ rfl _ _ _ (hF 1 (hpre 1 (by kernel_rfl))) (hF 2 (hpre 2 (by kernel_rfl))) (run_idxD wy g off n0 c k hlt) (hI.add (by decide) kpF_later (by decide) (Below.refl _ _) rfl)
          · exact wpOp_field rfl (wanted_free rfl) _ _ _ rfl _ _ (hF 3 (hpre 3 (by kernel_rfl))) (run_fieldD1 wy g _) (hI.add (by decide) kpF_later (by decide) (Below.refl _ _) rfl)
          · exact wpOp_load rfl (wanted_free rfl) _ _ rfl _ _ (hF 4 (hpre 4 (by kernel_rfl))) (run_loadE wy g _ d.what (cell_later hI.below h1) (cell_later hI.below h2) (cell_later hI.below h3) (cell_later hI.below h4) (cell_later hI.below h5) (cell_later hI.below h6)) (hI.add (by decide) kpF_later (by decide) (Below.refl _ _) rfl)
          · exact wpOp_move rfl (wanted_free rfl) _ rfl _ (hI.same 1 (by decide)) (hI.add (by decide) kpF_later (by decide) (Below.refl _ _) rfl)
          · exact wpOp_move rfl (wanted_free rfl) _ rfl _ (hI.same 12 (by decide)) (hI.add (by decide) kpF_later (by decide) (Below.refl _ _) rfl)
          · exact wpOp_index rfl (wanted_free rfl) _ _ _ rfl _ _ _ (hF 6 (hpre 6 (by kernel_rfl))) (hF 7 (hpre 7 (by kernel_rfl))) (run_idxD wy g off n0 c k hlt) (hI.add (by decide) kpF_later (by decide) (Below.refl _ _) rfl)
          · exact wpOp_field rfl (wanted_free rfl) _ _ _ rfl _ _ (hF 8 (hpre 8 (by kernel_rfl))) (run_fieldD2 wy g _) (hI.add (by decide) kpF_later (by decide) (Below.refl _ _) rfl)
          · exact wpOp_load rfl (wanted_free rfl) _ _ rfl _ _ (hF 9 (hpre 9 (by kernel_rfl))) (run_loadI wy g _ _ (cell_later hI.below h7)) (hI.add (by decide) kpF_later (by decide) (Below.refl _ _) rfl)
        · intro D a wy hI hall
          have hBy := Lib.hid hI.below
          obtain ⟨fs, rfl, hfs⟩ := hI.done (by decide) rfl (fun i hi => hall i hi)
          have e0 : fs 38 = .pointer (some ⟨w.heap.size + 1, 0, Option.none⟩) := hfs 0 (by decide)
          have e5 : fs 43 = evalue d.what := hfs 5 (by decide)
          have e10 : fs 48 = .int .i64 d.now := hfs 10 (by decide)
          clear hI hall hfs
          simp only [putAll, List.map_cons, List.map_nil, Act.put, List.setIfInBounds_toArray, List.set_cons_zero, List.set_cons_succ]
          rw [e0, e5, e10]
          clear e0 e5 e10
          generalize fs 39 = u39
          generalize fs 40 = u40
          generalize fs 41 = u41
          generalize fs 42 = u42
          generalize fs 44 = u44
          generalize fs 45 = u45
          generalize fs 46 = u46
          generalize fs 47 = u47
          show wpOps _ _ _ [11] _ wy
          rw [wpOps_cons]
          refine wpOp_call3' rfl (wanted_free rfl) 13 _ _ _ _ rfl _ _ _ rfl rfl rfl (enters_put _ _) (put_any15 (w.heap.size + 1) n v l d.what d.now wy (hP.out.later hBy.out) hn1 (by omega) hlen) ?_
          rintro e w5 ⟨rfl, v5, hP5, hV5, hT5⟩
          refine ⟨_, rfl, ?_⟩
          rw [wpOps]
          have hP5' := Lib.hid hP5
          have hB5 := Lib.hid (hT5.belowB (below_thenB hbe.out hBy.out (Nat.le_of_lt hsr.out)) (Nat.le_refl _) (Nat.le_of_lt (hP.out.later hBy.out).lt) (hP.out.fresh (Nat.le_refl _)))
          have hU5 := Lib.hid (put_uniq (most := n) hU.out d.what d.now)
          have hL5 := put_len (most := n) hn1 hlen d.what d.now
          clear hP5 hV5 hT5
          simp only [Act.put, List.setIfInBounds_toArray]
          go_wp2
          go_roundw
          case rel => exact ⟨k + 1, v5, put n l d.what d.now, by omega, by omega, by go_num, hP5', hL5, hU5, hB5⟩
          case measure => simp [RowKit.intOf]; omega
      · have hk7' : k = 70 := by omega
        have hx5 := Lib.hid (put_len (most := n) hn1 hlen (⟨x1, x2, x3, x4, x5, x6⟩ : Ent) now)
        have hl3 : (put n (put n l (⟨x1, x2, x3, x4, x5, x6⟩ : Ent) now) (⟨x1, x2, x3, x4, x5, x6⟩ : Ent) now).length ≤ n := put_len (most := n) hn1 hx5.out (⟨x1, x2, x3, x4, x5, x6⟩ : Ent) now
        have hc3 := Lib.hid (count_put (most := n) (put_uniq (most := n) hU.out (⟨x1, x2, x3, x4, x5, x6⟩ : Ent) now) (⟨x1, x2, x3, x4, x5, x6⟩ : Ent) now)
        obtain ⟨l3, hl3e⟩ : ∃ l3, l3 = put n (put n l (⟨x1, x2, x3, x4, x5, x6⟩ : Ent) now) (⟨x1, x2, x3, x4, x5, x6⟩ : Ent) now := ⟨_, rfl⟩
        have hl3' := Lib.hid hl3e
        rw [← hl3e] at hl3 hc3
        have hput1 := Lib.hid (fun W v (h : PM W (w.heap.size + 1) n v l) => put_any15 (w.heap.size + 1) n v l (⟨x1, x2, x3, x4, x5, x6⟩ : Ent) now W h hn1 (by omega) hlen)
        have hput2 := Lib.hid (fun W v (h : PM W (w.heap.size + 1) n v (put n l (⟨x1, x2, x3, x4, x5, x6⟩ : Ent) now)) => put_any15 (w.heap.size + 1) n v (put n l (⟨x1, x2, x3, x4, x5, x6⟩ : Ent) now) (⟨x1, x2, x3, x4, x5, x6⟩ : Ent) now W h hn1 (by omega) hx5.out)
        rw [← hl3e] at hput2
        have hha := Lib.hid (fun W v (h : PM W (w.heap.size + 1) n v (drop l3 x1 x2)) => (show Calls Try.prog 11 #[.pointer (some ⟨w.heap.size + 1, 0, Option.none⟩), evalue (⟨x1, x2, x3, x4, x5, x6⟩ : Ent), .int .i64 now] W fun e w' => e = .returned (.bool false) ∧ Below W.heap.size W w' by
          have := has_any (w.heap.size + 1) n v (drop l3 x1 x2) (⟨x1, x2, x3, x4, x5, x6⟩ : Ent) now W h
          rwa [has_dropped l3 (⟨x1, x2, x3, x4, x5, x6⟩ : Ent) now] at this))
        clear hl3e
        obtain ⟨m, hm⟩ : ∃ m, m = l3.length := ⟨_, rfl⟩
        have hm' := Lib.hid hm
        rw [← hm] at hl3
        clear hm
        unfold evalue at hput1 hput2 hha
        simp only at hput1 hput2 hha
        obtain ⟨z1, z2, z3, z4, z5, z6⟩ := hzr.out
        simp only at z1 z2 z3 z4 z5 z6
        go_wp2_with (first
          | (go_at_call 13; (with_reducible refine (hput1.out _ _ hP.out).mono ?_); rintro e w1 ⟨rfl, v1, hP1, hV1, hT1⟩; have hP1' := Lib.hid hP1; have hBB1 := Lib.hid (hT1.belowB hbe.out (Nat.le_refl _) (Nat.le_of_lt hP.out.lt) (hP.out.fresh (Nat.le_refl _))); have hz1 := Lib.hid (hzr.out.block (hT1.block w.heap.size (by have := hP.out.lt; omega) (by omega) (fun e => by have := hP.out.fresh (Nat.le_refl _) _ e; omega))); obtain ⟨k1, k2, k3, k4, k5, k6⟩ := hz1.out; simp only at k1 k2 k3 k4 k5 k6; clear hP1 hV1 hT1)
          | (go_at_call 13; (with_reducible refine (hput2.out _ _ hP1'.out).mono ?_); rintro e w2 ⟨rfl, v3, hP2, hV2, hT2⟩; have hP2' := Lib.hid hP2; have hBB2 := Lib.hid (hT2.belowB hBB1.out (Nat.le_refl _) (Nat.le_of_lt hP1'.out.lt) (hP1'.out.fresh (Nat.le_refl _))); have hz2 := Lib.hid (hz1.out.block (hT2.block w.heap.size (by have := hP1'.out.lt; omega) (by omega) (fun e => by have := hP1'.out.fresh (Nat.le_refl _) _ e; omega))); clear hP2 hV2 hT2)
          | (go_at_call 16; refine (list15_any _ n v3 l3 _ hP2'.out (by have := hm'.out; omega)).mono ?_; rintro e w3 ⟨u3, rfl, hO3, hb3⟩; obtain ⟨A3, c3, rfl, hE3⟩ := hO3.eds; rw [← hm'.out] at hE3 ⊢; have hE3' := Lib.hid hE3; have hBB4 := Lib.hid (below_thenB hBB2.out hb3 (Nat.le_of_lt hP2'.out.lt)); have hP4 := Lib.hid (hP2'.out.later hb3); have hz4 := Lib.hid (hz2.out.later hb3); clear hO3 hE3))
        go_loopw [14, 15, 16] (fun s i _ wr => ∃ k cnt : Nat, k ≤ m ∧ i = .int .i64 k ∧ s = .int .i64 cnt ∧ cnt ≤ k ∧ Hid (cnt = (l3.take k).countP (fun y => sameKey y (⟨x1, x2, x3, x4, x5, x6⟩ : Ent))) ∧ Below w3.heap.size w3 wr) (fun _ i _ _ => m - (RowKit.intOf i).toNat)
        case atStart => exact ⟨0, 0, Nat.zero_le _, rfl, rfl, Nat.le_refl _, Lib.hid rfl, Below.refl _ _⟩
        case round =>
          obtain ⟨k, cnt, hkm, rfl, rfl, hck, hcnt, hbl⟩ := hrel
          have hmn := hl3
          by_cases hlm : k < m
          · have hkl : k < l3.length := by rw [← hm'.out]; exact hlm
            obtain ⟨y, hy⟩ : ∃ y, y = l3[k] := ⟨_, rfl⟩
            obtain ⟨g3, o3, rfl, h1, h2, h3, h4, h5, h6⟩ := (hE3'.out.later hbl).six hlm hy
            have hst := Lib.hid (count_step (p := fun y => sameKey y (⟨x1, x2, x3, x4, x5, x6⟩ : Ent)) hkl)
            rw [← hy] at hst
            clear hy
            obtain ⟨y1, y2, y3, y4, y5, y6⟩ := y
            have hby := Lib.hid (below_box wr (.cells #[.string y1, .string y2, .bool y3, .string y4, .string y5, .int .i64 y6] 32))
            have hbx6 := Lib.hid (below_box wr (.cells #[.string y1, .string y2, .bool y3, .string y4, .string y5, .int .i64 x6] 32))
            obtain ⟨_, _, _, _, _, r6⟩ := (hz4.out.later hbl).later hby.out
            obtain ⟨j1, j2, j3, j4, j5, j6⟩ := (hz4.out.later hbl).later hbx6.out
            simp only at h1 h2 h3 h4 h5 h6 j1 j2 j3 j4 j5 j6 r6
            rcases Bool.eq_false_or_eq_true (y1.toList == x1.toList) with q1 | q1
            rotate_left
            · have hcs := Lib.hid (show (l3.take (k + 1)).countP (fun y => sameKey y (⟨x1, x2, x3, x4, x5, x6⟩ : Ent)) = (l3.take k).countP (fun y => sameKey y (⟨x1, x2, x3, x4, x5, x6⟩ : Ent))  from by
                rw [hst.out]
                have hsb : sameKey ⟨y1, y2, y3, y4, y5, y6⟩ (⟨x1, x2, x3, x4, x5, x6⟩ : Ent) = false := by unfold sameKey; simp [q1]
                rw [hsb]
                rfl)
              clear hst
              go_wp2
              go_roundw
              case rel => exact ⟨k + 1, cnt , by omega, by go_num, rfl, by omega, Lib.hid (by rw [hcs.out, ← hcnt.out]), below_then hbl (below_box _ _)⟩
              case measure => simp [RowKit.intOf]; omega
            rcases Bool.eq_false_or_eq_true (y2.toList == x2.toList) with q2 | q2
            rotate_left
            · have hcs := Lib.hid (show (l3.take (k + 1)).countP (fun y => sameKey y (⟨x1, x2, x3, x4, x5, x6⟩ : Ent)) = (l3.take k).countP (fun y => sameKey y (⟨x1, x2, x3, x4, x5, x6⟩ : Ent))  from by
                rw [hst.out]
                have hsb : sameKey ⟨y1, y2, y3, y4, y5, y6⟩ (⟨x1, x2, x3, x4, x5, x6⟩ : Ent) = false := by unfold sameKey; simp [q1, q2]
                rw [hsb]
                rfl)
              clear hst
              go_wp2
              go_roundw
              case rel => exact ⟨k + 1, cnt , by omega, by go_num, rfl, by omega, Lib.hid (by rw [hcs.out, ← hcnt.out]), below_then hbl (below_box _ _)⟩
              case measure => simp [RowKit.intOf]; omega
            rcases Bool.eq_false_or_eq_true (y3 == x3) with q3 | q3
            rotate_left
            · have hcs := Lib.hid (show (l3.take (k + 1)).countP (fun y => sameKey y (⟨x1, x2, x3, x4, x5, x6⟩ : Ent)) = (l3.take k).countP (fun y => sameKey y (⟨x1, x2, x3, x4, x5, x6⟩ : Ent))  from by
                rw [hst.out]
                have hsb : sameKey ⟨y1, y2, y3, y4, y5, y6⟩ (⟨x1, x2, x3, x4, x5, x6⟩ : Ent) = false := by unfold sameKey; simp [q1, q2, q3]
                rw [hsb]
                rfl)
              clear hst
              go_wp2
              go_roundw
              case rel => exact ⟨k + 1, cnt , by omega, by go_num, rfl, by omega, Lib.hid (by rw [hcs.out, ← hcnt.out]), below_then hbl (below_box _ _)⟩
              case measure => simp [RowKit.intOf]; omega
            rcases Bool.eq_false_or_eq_true (y4.toList == x4.toList) with q4 | q4
            rotate_left
            · have hcs := Lib.hid (show (l3.take (k + 1)).countP (fun y => sameKey y (⟨x1, x2, x3, x4, x5, x6⟩ : Ent)) = (l3.take k).countP (fun y => sameKey y (⟨x1, x2, x3, x4, x5, x6⟩ : Ent))  from by
                rw [hst.out]
                have hsb : sameKey ⟨y1, y2, y3, y4, y5, y6⟩ (⟨x1, x2, x3, x4, x5, x6⟩ : Ent) = false := by unfold sameKey; simp [q1, q2, q3, q4]
                rw [hsb]
                rfl)
              clear hst
              go_wp2
              go_roundw
              case rel => exact ⟨k + 1, cnt , by omega, by go_num, rfl, by omega, Lib.hid (by rw [hcs.out, ← hcnt.out]), below_then hbl (below_box _ _)⟩
              case measure => simp [RowKit.intOf]; omega
            rcases Bool.eq_false_or_eq_true (y5.toList == x5.toList) with q5 | q5
            rotate_left
            · have hcs := Lib.hid (show (l3.take (k + 1)).countP (fun y => sameKey y (⟨x1, x2, x3, x4, x5, x6⟩ : Ent)) = (l3.take k).countP (fun y => sameKey y (⟨x1, x2, x3, x4, x5, x6⟩ : Ent))  from by
                rw [hst.out]
                have hsb : sameKey ⟨y1, y2, y3, y4, y5, y6⟩ (⟨x1, x2, x3, x4, x5, x6⟩ : Ent) = false := by unfold sameKey; simp [q1, q2, q3, q4, q5]
                rw [hsb]
                rfl)
              clear hst
              go_wp2
              go_roundw
              case rel => exact ⟨k + 1, cnt , by omega, by go_num, rfl, by omega, Lib.hid (by rw [hcs.out, ← hcnt.out]), below_then hbl (below_box _ _)⟩
              case measure => simp [RowKit.intOf]; omega
            have hcs := Lib.hid (show (l3.take (k + 1)).countP (fun y => sameKey y (⟨x1, x2, x3, x4, x5, x6⟩ : Ent)) = (l3.take k).countP (fun y => sameKey y (⟨x1, x2, x3, x4, x5, x6⟩ : Ent)) + 1 from by
              rw [hst.out]
              have hsb : sameKey ⟨y1, y2, y3, y4, y5, y6⟩ (⟨x1, x2, x3, x4, x5, x6⟩ : Ent) = true := by unfold sameKey; simp [q1, q2, q3, q4, q5]
              rw [hsb]
              rfl)
            clear hst
            go_wp2
            go_roundw
            case rel => exact ⟨k + 1, cnt + 1, by omega, by go_num, by go_num, by omega, Lib.hid (by rw [hcs.out, ← hcnt.out]), below_then hbl (below_box _ _)⟩
            case measure => simp [RowKit.intOf]; omega
          · obtain rfl : k = m := by omega
            have htk : l3.take k = l3 := by rw [hm'.out, List.take_length]
            have hc1 : cnt = 1 := by have := hcnt.out; rw [htk, hc3.out] at this; exact this
            subst hc1
            have hP3 := Lib.hid (hP4.out.later hbl)
            have hz3 := Lib.hid (hz4.out.later hbl)
            have hBB3 := Lib.hid (below_thenB hBB4.out hbl (Nat.le_of_lt hP4.out.lt))
            have hgt := Lib.hid (show decide ((n : Int) < (k : Int)) = false from decide_eq_false (by omega))
            clear htk
            by_cases hti : now < x6
            · have hr0 : has l3 (⟨x1, x2, x3, x4, x5, x6⟩ : Ent) now = true := by rw [hl3'.out]; exact has_put (most := n) hti
              clear hl3'
              go_wp2
              have hr : Hid (has l3 (⟨x1, x2, x3, x4, x5, x6⟩ : Ent) now = true) := Lib.hid (by exact hr0)
              have hg : Hid (decide (now < x6) = true) := Lib.hid (by exact decide_eq_true hti)
              refine wp_region_each (RInv 117 [78, 79, 80, 81, 82, 83, 84, 85, 86, 87, 88, 89, 90, 91, 92, 93, 94, 95, 96, 97, 98, 99, 100, 101, 102] _ (wlF (w.heap.size + 1) w.heap.size n k A3 c3 (⟨x1, x2, x3, x4, x5, x6⟩ : Ent) now true true false undef undef undef undef) wr NoMore) (by kernel_rfl) (by kernel_rfl) (RInv.start rfl trivial (Below.refl _ _).drew) ?_ ?_
              · intro i hi D a wy hI hcl hnd hpre
                have hi' : i < 25 := hi
                have hcase : i = 0 ∨ i = 1 ∨ i = 2 ∨ i = 3 ∨ i = 4 ∨ i = 5 ∨ i = 6 ∨ i = 7 ∨ i = 8 ∨ i = 9 ∨ i = 10 ∨ i = 11 ∨ i = 12 ∨ i = 13 ∨ i = 14 ∨ i = 15 ∨ i = 16 ∨ i = 17 ∨ i = 18 ∨ i = 19 ∨ i = 20 ∨ i = 21 ∨ i = 22 ∨ i = 23 ∨ i = 24 := by omega
                have hF := hI.fact
                rcases hcase with rfl | rfl | rfl | rfl | rfl | rfl | rfl | rfl | rfl | rfl | rfl | rfl | rfl | rfl | rfl | rfl | rfl | rfl | rfl | rfl | rfl | rfl | rfl | rfl | rfl
                · exact wpOp_move rfl (wanted_free rfl) _ rfl _ (hI.same 13 (by decide)) (hI.add (by decide) wlF_later (by decide) (Below.refl _ _) rfl)
                · exact wpOp_len rfl (wanted_free rfl) _ _ rfl _ Try.underlying39 _ _ _ (hF 0 (hpre 0 (by kernel_rfl))) (hI.add (by decide) wlF_later (by decide) (Below.refl _ _) rfl)
                · exact wpOp_move rfl (wanted_free rfl) _ rfl _ (hI.same 9 (by decide)) (hI.add (by decide) wlF_later (by decide) (Below.refl _ _) rfl)
                · exact wpOp_bin rfl (wanted_free rfl) _ _ _ _ _ rfl _ _ _ (hF 1 (hpre 1 (by kernel_rfl))) (hF 2 (hpre 2 (by kernel_rfl))) (run_gtr _ _ wy _ _ false hgt.out) (hI.add (by decide) wlF_later (by decide) (Below.refl _ _) rfl)
                · exact wpOp_move rfl (wanted_free rfl) _ rfl _ (hF 3 (hpre 3 (by kernel_rfl))) (hI.add (by decide) wlF_later (by decide) (Below.refl _ _) rfl)
                · have g4 := hF 4 (hpre 4 (by kernel_rfl))
                  exact wpOp_move rfl (wanted_by (d := 82) rfl _ rfl rfl g4) _ rfl _ (hI.same 14 (by decide)) (hI.add (by decide) wlF_later (by decide) (Below.refl _ _) rfl)
                · have g4 := hF 4 (hpre 4 (by kernel_rfl))
                  exact wpOp_bin rfl (wanted_by (d := 82) rfl _ rfl rfl g4) _ _ _ _ _ rfl _ _ _ (hF 5 (hpre 5 (by kernel_rfl))) rfl (run_neqI _ _ wy) (hI.add (by decide) wlF_later (by decide) (Below.refl _ _) rfl)
                · exact wpOp_pick rfl (wanted_free rfl) _ _ _ rfl false (hF 4 (hpre 4 (by kernel_rfl))) _ (hF 6 (hpre 6 (by kernel_rfl))) (hI.add (by decide) wlF_later (by decide) (Below.refl _ _) rfl)
                · exact wpOp_move rfl (wanted_free rfl) _ rfl _ (hF 7 (hpre 7 (by kernel_rfl))) (hI.add (by decide) wlF_later (by decide) (Below.refl _ _) rfl)
                · have g8 := hF 8 (hpre 8 (by kernel_rfl))
                  exact wpOp_move rfl (wanted_by (d := 86) rfl _ rfl rfl g8) _ rfl _ (hI.same 10 (by decide)) (hI.add (by decide) wlF_later (by decide) (Below.refl _ _) rfl)
                · have g8 := hF 8 (hpre 8 (by kernel_rfl))
                  exact wpOp_load rfl (wanted_by (d := 86) rfl _ rfl rfl g8) _ _ rfl _ _ (hI.same 6 (by decide)) (run_loadS wy w.heap.size (⟨x1, x2, x3, x4, x5, x6⟩ : Ent) (hz3.out.later hI.below)) (hI.add (by decide) wlF_later (by decide) (Below.refl _ _) rfl)
                · have g8 := hF 8 (hpre 8 (by kernel_rfl))
                  exact wpOp_move rfl (wanted_by (d := 86) rfl _ rfl rfl g8) _ rfl _ (hI.same 3 (by decide)) (hI.add (by decide) wlF_later (by decide) (Below.refl _ _) rfl)
                · have g8 := hF 8 (hpre 8 (by kernel_rfl))
                  exact wpOp_call3' rfl (wanted_by (d := 86) rfl _ rfl rfl g8) 11 _ _ _ _ rfl _ _ _ (hF 9 (hpre 9 (by kernel_rfl))) (hF 10 (hpre 10 (by kernel_rfl))) (hF 11 (hpre 11 (by kernel_rfl))) (enters_has _ _) (has_any (w.heap.size + 1) n v3 l3 (⟨x1, x2, x3, x4, x5, x6⟩ : Ent) now wy (hP3.out.later hI.below)) (fun e w' h => ⟨_, h.1, hI.add (by decide) wlF_later (by decide) h.2 (congrArg Value.bool hr.out)⟩)
                · have g8 := hF 8 (hpre 8 (by kernel_rfl))
                  exact wpOp_field rfl (wanted_by (d := 86) rfl _ rfl rfl g8) _ _ _ rfl _ _ (hI.same 6 (by decide)) (run_field5 wy w.heap.size 0) (hI.add (by decide) wlF_later (by decide) (Below.refl _ _) rfl)
                · have g8 := hF 8 (hpre 8 (by kernel_rfl))
                  exact wpOp_load rfl (wanted_by (d := 86) rfl _ rfl rfl g8) _ _ rfl _ _ (hF 13 (hpre 13 (by kernel_rfl))) (run_loadI wy w.heap.size 5 _ (hz3.out.later hI.below).2.2.2.2.2) (hI.add (by decide) wlF_later (by decide) (Below.refl _ _) rfl)
                · have g8 := hF 8 (hpre 8 (by kernel_rfl))
                  exact wpOp_move rfl (wanted_by (d := 86) rfl _ rfl rfl g8) _ rfl _ (hI.same 3 (by decide)) (hI.add (by decide) wlF_later (by decide) (Below.refl _ _) rfl)
                · have g8 := hF 8 (hpre 8 (by kernel_rfl))
                  exact wpOp_bin rfl (wanted_by (d := 86) rfl _ rfl rfl g8) _ _ _ _ _ rfl _ _ _ (hF 14 (hpre 14 (by kernel_rfl))) (hF 15 (hpre 15 (by kernel_rfl))) (run_gtr _ _ wy _ _ true hg.out) (hI.add (by decide) wlF_later (by decide) (Below.refl _ _) rfl)
                · have g8 := hF 8 (hpre 8 (by kernel_rfl))
                  exact wpOp_bin rfl (wanted_by (d := 86) rfl _ rfl rfl g8) _ _ _ _ _ rfl _ _ _ (hF 12 (hpre 12 (by kernel_rfl))) (hF 16 (hpre 16 (by kernel_rfl))) (run_neqB _ _ wy _ _ false rfl) (hI.add (by decide) wlF_later (by decide) (Below.refl _ _) rfl)
                · have g8 := hF 8 (hpre 8 (by kernel_rfl))
                  exact wpOp_move rfl (wanted_by (d := 86) rfl _ rfl rfl g8) _ rfl _ (hF 17 (hpre 17 (by kernel_rfl))) (hI.add (by decide) wlF_later (by decide) (Below.refl _ _) rfl)
                · have g18 := hF 18 (hpre 18 (by kernel_rfl))
                  exact wpOp_idle rfl (wanted_off (d := 96) rfl _ rfl rfl g18 (by simp)) (hI.add (by decide) wlF_later (by decide) (Below.refl _ _) rfl)
                · have g18 := hF 18 (hpre 18 (by kernel_rfl))
                  exact wpOp_idle rfl (wanted_off (d := 96) rfl _ rfl rfl g18 (by simp)) (hI.add (by decide) wlF_later (by decide) (Below.refl _ _) rfl)
                · have g18 := hF 18 (hpre 18 (by kernel_rfl))
                  exact wpOp_idle rfl (wanted_off (d := 96) rfl _ rfl rfl g18 (by simp)) (hI.add (by decide) wlF_later (by decide) (Below.refl _ _) rfl)
                · have g18 := hF 18 (hpre 18 (by kernel_rfl))
                  exact wpOp_idle rfl (wanted_off (d := 96) rfl _ rfl rfl g18 (by simp)) (hI.add (by decide) wlF_later (by decide) (Below.refl _ _) rfl)
                · have g8 := hF 8 (hpre 8 (by kernel_rfl))
                  exact wpOp_pick rfl (wanted_by (d := 86) rfl _ rfl rfl g8) _ _ _ rfl false (hF 18 (hpre 18 (by kernel_rfl))) _ rfl (hI.add (by decide) wlF_later (by decide) (Below.refl _ _) rfl)
                · exact wpOp_pick rfl (wanted_free rfl) _ _ _ rfl false (hF 8 (hpre 8 (by kernel_rfl))) _ (hF 23 (hpre 23 (by kernel_rfl))) (hI.add (by decide) wlF_later (by decide) (Below.refl _ _) rfl)
              · intro D a w5 hI hall
                have hB5 := Lib.hid hI.below
                obtain ⟨fs, rfl, hfs⟩ := hI.done (by decide) rfl (fun i hi => hall i hi)
                have e24 : fs 102 = .bool false := hfs 24 (by decide)
                clear hI hall hfs
                simp only [putAll, List.map_cons, List.map_nil, Act.put, List.setIfInBounds_toArray, List.set_cons_zero, List.set_cons_succ]
                rw [e24]
                clear e24
                generalize fs 78 = u78
                generalize fs 79 = u79
                generalize fs 80 = u80
                generalize fs 81 = u81
                generalize fs 82 = u82
                generalize fs 83 = u83
                generalize fs 84 = u84
                generalize fs 85 = u85
                generalize fs 86 = u86
                generalize fs 87 = u87
                generalize fs 88 = u88
                generalize fs 89 = u89
                generalize fs 90 = u90
                generalize fs 91 = u91
                generalize fs 92 = u92
                generalize fs 93 = u93
                generalize fs 94 = u94
                generalize fs 95 = u95
                generalize fs 96 = u96
                generalize fs 97 = u97
                generalize fs 98 = u98
                generalize fs 99 = u99
                generalize fs 100 = u100
                generalize fs 101 = u101
                have hP5 := Lib.hid (hP3.out.later hB5.out)
                obtain ⟨y1, y2, y3, y4, y5, y6⟩ := hz3.out.later hB5.out
                simp only at y1 y2 y3 y4 y5 y6
                have hz5 := Lib.hid (hz3.out.later hB5.out)
                have hBB5 := Lib.hid (below_thenB hBB3.out hB5.out (Nat.le_of_lt hP3.out.lt))
                go_wp2_with (first
                  | (go_at_call 9; refine (drop_any15 (w.heap.size + 1) n v3 l3 x1 x2 w5 hP5.out).mono ?_; rintro e w6 ⟨rfl, v6, hP6, hV6, hT6⟩; have hP6' := Lib.hid hP6; have hB6 := Lib.hid (hT6.belowB hBB5.out (Nat.le_refl _) (Nat.le_of_lt hP5.out.lt) (hP5.out.fresh (Nat.le_refl _))); have hz6 := Lib.hid (hz5.out.block (hT6.block w.heap.size (by have := hP5.out.lt; omega) (by omega) (fun e => by have := hP5.out.fresh (Nat.le_refl _) _ e; omega))); clear hP6 hV6 hT6)
                  | (go_at_call 8; refine (awake15_any _).mono ?_; rintro e w7 ⟨rfl, hb7⟩; obtain ⟨k1, k2, k3, k4, k5, k6⟩ := hz6.out.later hb7; simp only at k1 k2 k3 k4 k5 k6)
                  | (go_at_call 11; refine (hha.out _ _ (hP6'.out.later hb7)).mono ?_; rintro e w8 ⟨rfl, hb8⟩))
                go_ret
                exact ⟨ret_bool (by simp), (hb0.out.trans (hB6.out.mono (by omega))).trans ((below_then hb7 hb8).mono (Nat.le_trans (by omega) (Nat.le_of_lt hP6'.out.lt)))⟩
            · cases hr0 : has l3 (⟨x1, x2, x3, x4, x5, x6⟩ : Ent) now with
              | false =>
                clear hl3'
                go_wp2
                have hr : Hid (has l3 (⟨x1, x2, x3, x4, x5, x6⟩ : Ent) now = false) := Lib.hid (by exact hr0)
                have hg : Hid (decide (now < x6) = false) := Lib.hid (by exact decide_eq_false (by omega))
                refine wp_region_each (RInv 117 [78, 79, 80, 81, 82, 83, 84, 85, 86, 87, 88, 89, 90, 91, 92, 93, 94, 95, 96, 97, 98, 99, 100, 101, 102] _ (wlF (w.heap.size + 1) w.heap.size n k A3 c3 (⟨x1, x2, x3, x4, x5, x6⟩ : Ent) now false false false undef undef undef undef) wr NoMore) (by kernel_rfl) (by kernel_rfl) (RInv.start rfl trivial (Below.refl _ _).drew) ?_ ?_
                · intro i hi D a wy hI hcl hnd hpre
                  have hi' : i < 25 := hi
                  have hcase : i = 0 ∨ i = 1 ∨ i = 2 ∨ i = 3 ∨ i = 4 ∨ i = 5 ∨ i = 6 ∨ i = 7 ∨ i = 8 ∨ i = 9 ∨ i = 10 ∨ i = 11 ∨ i = 12 ∨ i = 13 ∨ i = 14 ∨ i = 15 ∨ i = 16 ∨ i = 17 ∨ i = 18 ∨ i = 19 ∨ i = 20 ∨ i = 21 ∨ i = 22 ∨ i = 23 ∨ i = 24 := by omega
                  have hF := hI.fact
                  rcases hcase with rfl | rfl | rfl | rfl | rfl | rfl | rfl | rfl | rfl | rfl | rfl | rfl | rfl | rfl | rfl | rfl | rfl | rfl | rfl | rfl | rfl | rfl | rfl | rfl | rfl
                  · exact wpOp_move rfl (wanted_free rfl) _ rfl _ (hI.same 13 (by decide)) (hI.add (by decide) wlF_later (by decide) (Below.refl _ _) rfl)
                  · exact wpOp_len rfl (wanted_free rfl) _ _ rfl _ Try.underlying39 _ _ _ (hF 0 (hpre 0 (by kernel_rfl))) (hI.add (by decide) wlF_later (by decide) (Below.refl _ _) rfl)
                  · exact wpOp_move rfl (wanted_free rfl) _ rfl _ (hI.same 9 (by decide)) (hI.add (by decide) wlF_later (by decide) (Below.refl _ _) rfl)
                  · exact wpOp_bin rfl (wanted_free rfl) _ _ _ _ _ rfl _ _ _ (hF 1 (hpre 1 (by kernel_rfl))) (hF 2 (hpre 2 (by kernel_rfl))) (run_gtr _ _ wy _ _ false hgt.out) (hI.add (by decide) wlF_later (by decide) (Below.refl _ _) rfl)
                  · exact wpOp_move rfl (wanted_free rfl) _ rfl _ (hF 3 (hpre 3 (by kernel_rfl))) (hI.add (by decide) wlF_later (by decide) (Below.refl _ _) rfl)
                  · have g4 := hF 4 (hpre 4 (by kernel_rfl))
                    exact wpOp_move rfl (wanted_by (d := 82) rfl _ rfl rfl g4) _ rfl _ (hI.same 14 (by decide)) (hI.add (by decide) wlF_later (by decide) (Below.refl _ _) rfl)
                  · have g4 := hF 4 (hpre 4 (by kernel_rfl))
                    exact wpOp_bin rfl (wanted_by (d := 82) rfl _ rfl rfl g4) _ _ _ _ _ rfl _ _ _ (hF 5 (hpre 5 (by kernel_rfl))) rfl (run_neqI _ _ wy) (hI.add (by decide) wlF_later (by decide) (Below.refl _ _) rfl)
                  · exact wpOp_pick rfl (wanted_free rfl) _ _ _ rfl false (hF 4 (hpre 4 (by kernel_rfl))) _ (hF 6 (hpre 6 (by kernel_rfl))) (hI.add (by decide) wlF_later (by decide) (Below.refl _ _) rfl)
                  · exact wpOp_move rfl (wanted_free rfl) _ rfl _ (hF 7 (hpre 7 (by kernel_rfl))) (hI.add (by decide) wlF_later (by decide) (Below.refl _ _) rfl)
                  · have g8 := hF 8 (hpre 8 (by kernel_rfl))
                    exact wpOp_move rfl (wanted_by (d := 86) rfl _ rfl rfl g8) _ rfl _ (hI.same 10 (by decide)) (hI.add (by decide) wlF_later (by decide) (Below.refl _ _) rfl)
                  · have g8 := hF 8 (hpre 8 (by kernel_rfl))
                    exact wpOp_load rfl (wanted_by (d := 86) rfl _ rfl rfl g8) _ _ rfl _ _ (hI.same 6 (by decide)) (run_loadS wy w.heap.size (⟨x1, x2, x3, x4, x5, x6⟩ : Ent) (hz3.out.later hI.below)) (hI.add (by decide) wlF_later (by decide) (Below.refl _ _) rfl)
                  · have g8 := hF 8 (hpre 8 (by kernel_rfl))
                    exact wpOp_move rfl (wanted_by (d := 86) rfl _ rfl rfl g8) _ rfl _ (hI.same 3 (by decide)) (hI.add (by decide) wlF_later (by decide) (Below.refl _ _) rfl)
                  · have g8 := hF 8 (hpre 8 (by kernel_rfl))
                    exact wpOp_call3' rfl (wanted_by (d := 86) rfl _ rfl rfl g8) 11 _ _ _ _ rfl _ _ _ (hF 9 (hpre 9 (by kernel_rfl))) (hF 10 (hpre 10 (by kernel_rfl))) (hF 11 (hpre 11 (by kernel_rfl))) (enters_has _ _) (has_any (w.heap.size + 1) n v3 l3 (⟨x1, x2, x3, x4, x5, x6⟩ : Ent) now wy (hP3.out.later hI.below)) (fun e w' h => ⟨_, h.1, hI.add (by decide) wlF_later (by decide) h.2 (congrArg Value.bool hr.out)⟩)
                  · have g8 := hF 8 (hpre 8 (by kernel_rfl))
                    exact wpOp_field rfl (wanted_by (d := 86) rfl _ rfl rfl g8) _ _ _ rfl _ _ (hI.same 6 (by decide)) (run_field5 wy w.heap.size 0) (hI.add (by decide) wlF_later (by decide) (Below.refl _ _) rfl)
                  · have g8 := hF 8 (hpre 8 (by kernel_rfl))
                    exact wpOp_load rfl (wanted_by (d := 86) rfl _ rfl rfl g8) _ _ rfl _ _ (hF 13 (hpre 13 (by kernel_rfl))) (run_loadI wy w.heap.size 5 _ (hz3.out.later hI.below).2.2.2.2.2) (hI.add (by decide) wlF_later (by decide) (Below.refl _ _) rfl)
                  · have g8 := hF 8 (hpre 8 (by kernel_rfl))
                    exact wpOp_move rfl (wanted_by (d := 86) rfl _ rfl rfl g8) _ rfl _ (hI.same 3 (by decide)) (hI.add (by decide) wlF_later (by decide) (Below.refl _ _) rfl)
                  · have g8 := hF 8 (hpre 8 (by kernel_rfl))
                    exact wpOp_bin rfl (wanted_by (d := 86) rfl _ rfl rfl g8) _ _ _ _ _ rfl _ _ _ (hF 14 (hpre 14 (by kernel_rfl))) (hF 15 (hpre 15 (by kernel_rfl))) (run_gtr _ _ wy _ _ false hg.out) (hI.add (by decide) wlF_later (by decide) (Below.refl _ _) rfl)
                  · have g8 := hF 8 (hpre 8 (by kernel_rfl))
                    exact wpOp_bin rfl (wanted_by (d := 86) rfl _ rfl rfl g8) _ _ _ _ _ rfl _ _ _ (hF 12 (hpre 12 (by kernel_rfl))) (hF 16 (hpre 16 (by kernel_rfl))) (run_neqB _ _ wy _ _ false rfl) (hI.add (by decide) wlF_later (by decide) (Below.refl _ _) rfl)
                  · have g8 := hF 8 (hpre 8 (by kernel_rfl))
                    exact wpOp_move rfl (wanted_by (d := 86) rfl _ rfl rfl g8) _ rfl _ (hF 17 (hpre 17 (by kernel_rfl))) (hI.add (by decide) wlF_later (by decide) (Below.refl _ _) rfl)
                  · have g18 := hF 18 (hpre 18 (by kernel_rfl))
                    exact wpOp_idle rfl (wanted_off (d := 96) rfl _ rfl rfl g18 (by simp)) (hI.add (by decide) wlF_later (by decide) (Below.refl _ _) rfl)
                  · have g18 := hF 18 (hpre 18 (by kernel_rfl))
                    exact wpOp_idle rfl (wanted_off (d := 96) rfl _ rfl rfl g18 (by simp)) (hI.add (by decide) wlF_later (by decide) (Below.refl _ _) rfl)
                  · have g18 := hF 18 (hpre 18 (by kernel_rfl))
                    exact wpOp_idle rfl (wanted_off (d := 96) rfl _ rfl rfl g18 (by simp)) (hI.add (by decide) wlF_later (by decide) (Below.refl _ _) rfl)
                  · have g18 := hF 18 (hpre 18 (by kernel_rfl))
                    exact wpOp_idle rfl (wanted_off (d := 96) rfl _ rfl rfl g18 (by simp)) (hI.add (by decide) wlF_later (by decide) (Below.refl _ _) rfl)
                  · have g8 := hF 8 (hpre 8 (by kernel_rfl))
                    exact wpOp_pick rfl (wanted_by (d := 86) rfl _ rfl rfl g8) _ _ _ rfl false (hF 18 (hpre 18 (by kernel_rfl))) _ rfl (hI.add (by decide) wlF_later (by decide) (Below.refl _ _) rfl)
                  · exact wpOp_pick rfl (wanted_free rfl) _ _ _ rfl false (hF 8 (hpre 8 (by kernel_rfl))) _ (hF 23 (hpre 23 (by kernel_rfl))) (hI.add (by decide) wlF_later (by decide) (Below.refl _ _) rfl)
                · intro D a w5 hI hall
                  have hB5 := Lib.hid hI.below
                  obtain ⟨fs, rfl, hfs⟩ := hI.done (by decide) rfl (fun i hi => hall i hi)
                  have e24 : fs 102 = .bool false := hfs 24 (by decide)
                  clear hI hall hfs
                  simp only [putAll, List.map_cons, List.map_nil, Act.put, List.setIfInBounds_toArray, List.set_cons_zero, List.set_cons_succ]
                  rw [e24]
                  clear e24
                  generalize fs 78 = u78
                  generalize fs 79 = u79
                  generalize fs 80 = u80
                  generalize fs 81 = u81
                  generalize fs 82 = u82
                  generalize fs 83 = u83
                  generalize fs 84 = u84
                  generalize fs 85 = u85
                  generalize fs 86 = u86
                  generalize fs 87 = u87
                  generalize fs 88 = u88
                  generalize fs 89 = u89
                  generalize fs 90 = u90
                  generalize fs 91 = u91
                  generalize fs 92 = u92
                  generalize fs 93 = u93
                  generalize fs 94 = u94
                  generalize fs 95 = u95
                  generalize fs 96 = u96
                  generalize fs 97 = u97
                  generalize fs 98 = u98
                  generalize fs 99 = u99
                  generalize fs 100 = u100
                  generalize fs 101 = u101
                  have hP5 := Lib.hid (hP3.out.later hB5.out)
                  obtain ⟨y1, y2, y3, y4, y5, y6⟩ := hz3.out.later hB5.out
                  simp only at y1 y2 y3 y4 y5 y6
                  have hz5 := Lib.hid (hz3.out.later hB5.out)
                  have hBB5 := Lib.hid (below_thenB hBB3.out hB5.out (Nat.le_of_lt hP3.out.lt))
                  go_wp2_with (first
                    | (go_at_call 9; refine (drop_any15 (w.heap.size + 1) n v3 l3 x1 x2 w5 hP5.out).mono ?_; rintro e w6 ⟨rfl, v6, hP6, hV6, hT6⟩; have hP6' := Lib.hid hP6; have hB6 := Lib.hid (hT6.belowB hBB5.out (Nat.le_refl _) (Nat.le_of_lt hP5.out.lt) (hP5.out.fresh (Nat.le_refl _))); have hz6 := Lib.hid (hz5.out.block (hT6.block w.heap.size (by have := hP5.out.lt; omega) (by omega) (fun e => by have := hP5.out.fresh (Nat.le_refl _) _ e; omega))); clear hP6 hV6 hT6)
                    | (go_at_call 8; refine (awake15_any _).mono ?_; rintro e w7 ⟨rfl, hb7⟩; obtain ⟨k1, k2, k3, k4, k5, k6⟩ := hz6.out.later hb7; simp only at k1 k2 k3 k4 k5 k6)
                    | (go_at_call 11; refine (hha.out _ _ (hP6'.out.later hb7)).mono ?_; rintro e w8 ⟨rfl, hb8⟩))
                  go_ret
                  exact ⟨ret_bool (by simp), (hb0.out.trans (hB6.out.mono (by omega))).trans ((below_then hb7 hb8).mono (Nat.le_trans (by omega) (Nat.le_of_lt hP6'.out.lt)))⟩
              | true =>
                clear hl3'
                go_wp2
                have hr : Hid (has l3 (⟨x1, x2, x3, x4, x5, x6⟩ : Ent) now = true) := Lib.hid (by exact hr0)
                have hg : Hid (decide (now < x6) = false) := Lib.hid (by exact decide_eq_false (by omega))
                refine wp_region_each (RInv 117 [78, 79, 80, 81, 82, 83, 84, 85, 86, 87, 88, 89, 90, 91, 92, 93, 94, 95, 96, 97, 98, 99, 100, 101, 102] _ (wlF (w.heap.size + 1) w.heap.size n k A3 c3 (⟨x1, x2, x3, x4, x5, x6⟩ : Ent) now true false true (.pointer (some ⟨w.heap.size, 5, Option.none⟩)) (.int .i64 x6) (.int .i64 now) (.bool false)) wr NoMore) (by kernel_rfl) (by kernel_rfl) (RInv.start rfl trivial (Below.refl _ _).drew) ?_ ?_
                · intro i hi D a wy hI hcl hnd hpre
                  have hi' : i < 25 := hi
                  have hcase : i = 0 ∨ i = 1 ∨ i = 2 ∨ i = 3 ∨ i = 4 ∨ i = 5 ∨ i = 6 ∨ i = 7 ∨ i = 8 ∨ i = 9 ∨ i = 10 ∨ i = 11 ∨ i = 12 ∨ i = 13 ∨ i = 14 ∨ i = 15 ∨ i = 16 ∨ i = 17 ∨ i = 18 ∨ i = 19 ∨ i = 20 ∨ i = 21 ∨ i = 22 ∨ i = 23 ∨ i = 24 := by omega
                  have hF := hI.fact
                  rcases hcase with rfl | rfl | rfl | rfl | rfl | rfl | rfl | rfl | rfl | rfl | rfl | rfl | rfl | rfl | rfl | rfl | rfl | rfl | rfl | rfl | rfl | rfl | rfl | rfl | rfl
                  · exact wpOp_move rfl (wanted_free rfl) _ rfl _ (hI.same 13 (by decide)) (hI.add (by decide) wlF_later (by decide) (Below.refl _ _) rfl)
                  · exact wpOp_len rfl (wanted_free rfl) _ _ rfl _ Try.underlying39 _ _ _ (hF 0 (hpre 0 (by kernel_rfl))) (hI.add (by decide) wlF_later (by decide) (Below.refl _ _) rfl)
                  · exact wpOp_move rfl (wanted_free rfl) _ rfl _ (hI.same 9 (by decide)) (hI.add (by decide) wlF_later (by decide) (Below.refl _ _) rfl)
                  · exact wpOp_bin rfl (wanted_free rfl) _ _ _ _ _ rfl _ _ _ (hF 1 (hpre 1 (by kernel_rfl))) (hF 2 (hpre 2 (by kernel_rfl))) (run_gtr _ _ wy _ _ false hgt.out) (hI.add (by decide) wlF_later (by decide) (Below.refl _ _) rfl)
                  · exact wpOp_move rfl (wanted_free rfl) _ rfl _ (hF 3 (hpre 3 (by kernel_rfl))) (hI.add (by decide) wlF_later (by decide) (Below.refl _ _) rfl)
                  · have g4 := hF 4 (hpre 4 (by kernel_rfl))
                    exact wpOp_move rfl (wanted_by (d := 82) rfl _ rfl rfl g4) _ rfl _ (hI.same 14 (by decide)) (hI.add (by decide) wlF_later (by decide) (Below.refl _ _) rfl)
                  · have g4 := hF 4 (hpre 4 (by kernel_rfl))
                    exact wpOp_bin rfl (wanted_by (d := 82) rfl _ rfl rfl g4) _ _ _ _ _ rfl _ _ _ (hF 5 (hpre 5 (by kernel_rfl))) rfl (run_neqI _ _ wy) (hI.add (by decide) wlF_later (by decide) (Below.refl _ _) rfl)
                  · exact wpOp_pick rfl (wanted_free rfl) _ _ _ rfl false (hF 4 (hpre 4 (by kernel_rfl))) _ (hF 6 (hpre 6 (by kernel_rfl))) (hI.add (by decide) wlF_later (by decide) (Below.refl _ _) rfl)
                  · exact wpOp_move rfl (wanted_free rfl) _ rfl _ (hF 7 (hpre 7 (by kernel_rfl))) (hI.add (by decide) wlF_later (by decide) (Below.refl _ _) rfl)
                  · have g8 := hF 8 (hpre 8 (by kernel_rfl))
                    exact wpOp_move rfl (wanted_by (d := 86) rfl _ rfl rfl g8) _ rfl _ (hI.same 10 (by decide)) (hI.add (by decide) wlF_later (by decide) (Below.refl _ _) rfl)
                  · have g8 := hF 8 (hpre 8 (by kernel_rfl))
                    exact wpOp_load rfl (wanted_by (d := 86) rfl _ rfl rfl g8) _ _ rfl _ _ (hI.same 6 (by decide)) (run_loadS wy w.heap.size (⟨x1, x2, x3, x4, x5, x6⟩ : Ent) (hz3.out.later hI.below)) (hI.add (by decide) wlF_later (by decide) (Below.refl _ _) rfl)
                  · have g8 := hF 8 (hpre 8 (by kernel_rfl))
                    exact wpOp_move rfl (wanted_by (d := 86) rfl _ rfl rfl g8) _ rfl _ (hI.same 3 (by decide)) (hI.add (by decide) wlF_later (by decide) (Below.refl _ _) rfl)
                  · have g8 := hF 8 (hpre 8 (by kernel_rfl))
                    exact wpOp_call3' rfl (wanted_by (d := 86) rfl _ rfl rfl g8) 11 _ _ _ _ rfl _ _ _ (hF 9 (hpre 9 (by kernel_rfl))) (hF 10 (hpre 10 (by kernel_rfl))) (hF 11 (hpre 11 (by kernel_rfl))) (enters_has _ _) (has_any (w.heap.size + 1) n v3 l3 (⟨x1, x2, x3, x4, x5, x6⟩ : Ent) now wy (hP3.out.later hI.below)) (fun e w' h => ⟨_, h.1, hI.add (by decide) wlF_later (by decide) h.2 (congrArg Value.bool hr.out)⟩)
                  · have g8 := hF 8 (hpre 8 (by kernel_rfl))
                    exact wpOp_field rfl (wanted_by (d := 86) rfl _ rfl rfl g8) _ _ _ rfl _ _ (hI.same 6 (by decide)) (run_field5 wy w.heap.size 0) (hI.add (by decide) wlF_later (by decide) (Below.refl _ _) rfl)
                  · have g8 := hF 8 (hpre 8 (by kernel_rfl))
                    exact wpOp_load rfl (wanted_by (d := 86) rfl _ rfl rfl g8) _ _ rfl _ _ (hF 13 (hpre 13 (by kernel_rfl))) (run_loadI wy w.heap.size 5 _ (hz3.out.later hI.below).2.2.2.2.2) (hI.add (by decide) wlF_later (by decide) (Below.refl _ _) rfl)
                  · have g8 := hF 8 (hpre 8 (by kernel_rfl))
                    exact wpOp_move rfl (wanted_by (d := 86) rfl _ rfl rfl g8) _ rfl _ (hI.same 3 (by decide)) (hI.add (by decide) wlF_later (by decide) (Below.refl _ _) rfl)
                  · have g8 := hF 8 (hpre 8 (by kernel_rfl))
                    exact wpOp_bin rfl (wanted_by (d := 86) rfl _ rfl rfl g8) _ _ _ _ _ rfl _ _ _ (hF 14 (hpre 14 (by kernel_rfl))) (hF 15 (hpre 15 (by kernel_rfl))) (run_gtr _ _ wy _ _ false hg.out) (hI.add (by decide) wlF_later (by decide) (Below.refl _ _) rfl)
                  · have g8 := hF 8 (hpre 8 (by kernel_rfl))
                    exact wpOp_bin rfl (wanted_by (d := 86) rfl _ rfl rfl g8) _ _ _ _ _ rfl _ _ _ (hF 12 (hpre 12 (by kernel_rfl))) (hF 16 (hpre 16 (by kernel_rfl))) (run_neqB _ _ wy _ _ true rfl) (hI.add (by decide) wlF_later (by decide) (Below.refl _ _) rfl)
                  · have g8 := hF 8 (hpre 8 (by kernel_rfl))
                    exact wpOp_move rfl (wanted_by (d := 86) rfl _ rfl rfl g8) _ rfl _ (hF 17 (hpre 17 (by kernel_rfl))) (hI.add (by decide) wlF_later (by decide) (Below.refl _ _) rfl)
                  · have g18 := hF 18 (hpre 18 (by kernel_rfl))
                    exact wpOp_field rfl (wanted_by (d := 96) rfl _ rfl rfl g18) _ _ _ rfl _ _ (hI.same 6 (by decide)) (run_field5 wy w.heap.size 0) (hI.add (by decide) wlF_later (by decide) (Below.refl _ _) rfl)
                  · have g18 := hF 18 (hpre 18 (by kernel_rfl))
                    exact wpOp_load rfl (wanted_by (d := 96) rfl _ rfl rfl g18) _ _ rfl _ _ (hF 19 (hpre 19 (by kernel_rfl))) (run_loadI wy w.heap.size 5 _ (hz3.out.later hI.below).2.2.2.2.2) (hI.add (by decide) wlF_later (by decide) (Below.refl _ _) rfl)
                  · have g18 := hF 18 (hpre 18 (by kernel_rfl))
                    exact wpOp_move rfl (wanted_by (d := 96) rfl _ rfl rfl g18) _ rfl _ (hI.same 3 (by decide)) (hI.add (by decide) wlF_later (by decide) (Below.refl _ _) rfl)
                  · have g18 := hF 18 (hpre 18 (by kernel_rfl))
                    exact wpOp_bin rfl (wanted_by (d := 96) rfl _ rfl rfl g18) _ _ _ _ _ rfl _ _ _ (hF 20 (hpre 20 (by kernel_rfl))) (hF 21 (hpre 21 (by kernel_rfl))) (run_gtr _ _ wy _ _ false hg.out) (hI.add (by decide) wlF_later (by decide) (Below.refl _ _) rfl)
                  · have g8 := hF 8 (hpre 8 (by kernel_rfl))
                    exact wpOp_pick rfl (wanted_by (d := 86) rfl _ rfl rfl g8) _ _ _ rfl true (hF 18 (hpre 18 (by kernel_rfl))) _ (hF 22 (hpre 22 (by kernel_rfl))) (hI.add (by decide) wlF_later (by decide) (Below.refl _ _) rfl)
                  · exact wpOp_pick rfl (wanted_free rfl) _ _ _ rfl false (hF 8 (hpre 8 (by kernel_rfl))) _ (hF 23 (hpre 23 (by kernel_rfl))) (hI.add (by decide) wlF_later (by decide) (Below.refl _ _) rfl)
                · intro D a w5 hI hall
                  have hB5 := Lib.hid hI.below
                  obtain ⟨fs, rfl, hfs⟩ := hI.done (by decide) rfl (fun i hi => hall i hi)
                  have e24 : fs 102 = .bool false := hfs 24 (by decide)
                  clear hI hall hfs
                  simp only [putAll, List.map_cons, List.map_nil, Act.put, List.setIfInBounds_toArray, List.set_cons_zero, List.set_cons_succ]
                  rw [e24]
                  clear e24
                  generalize fs 78 = u78
                  generalize fs 79 = u79
                  generalize fs 80 = u80
                  generalize fs 81 = u81
                  generalize fs 82 = u82
                  generalize fs 83 = u83
                  generalize fs 84 = u84
                  generalize fs 85 = u85
                  generalize fs 86 = u86
                  generalize fs 87 = u87
                  generalize fs 88 = u88
                  generalize fs 89 = u89
                  generalize fs 90 = u90
                  generalize fs 91 = u91
                  generalize fs 92 = u92
                  generalize fs 93 = u93
                  generalize fs 94 = u94
                  generalize fs 95 = u95
                  generalize fs 96 = u96
                  generalize fs 97 = u97
                  generalize fs 98 = u98
                  generalize fs 99 = u99
                  generalize fs 100 = u100
                  generalize fs 101 = u101
                  have hP5 := Lib.hid (hP3.out.later hB5.out)
                  obtain ⟨y1, y2, y3, y4, y5, y6⟩ := hz3.out.later hB5.out
                  simp only at y1 y2 y3 y4 y5 y6
                  have hz5 := Lib.hid (hz3.out.later hB5.out)
                  have hBB5 := Lib.hid (below_thenB hBB3.out hB5.out (Nat.le_of_lt hP3.out.lt))
                  go_wp2_with (first
                    | (go_at_call 9; refine (drop_any15 (w.heap.size + 1) n v3 l3 x1 x2 w5 hP5.out).mono ?_; rintro e w6 ⟨rfl, v6, hP6, hV6, hT6⟩; have hP6' := Lib.hid hP6; have hB6 := Lib.hid (hT6.belowB hBB5.out (Nat.le_refl _) (Nat.le_of_lt hP5.out.lt) (hP5.out.fresh (Nat.le_refl _))); have hz6 := Lib.hid (hz5.out.block (hT6.block w.heap.size (by have := hP5.out.lt; omega) (by omega) (fun e => by have := hP5.out.fresh (Nat.le_refl _) _ e; omega))); clear hP6 hV6 hT6)
                    | (go_at_call 8; refine (awake15_any _).mono ?_; rintro e w7 ⟨rfl, hb7⟩; obtain ⟨k1, k2, k3, k4, k5, k6⟩ := hz6.out.later hb7; simp only at k1 k2 k3 k4 k5 k6)
                    | (go_at_call 11; refine (hha.out _ _ (hP6'.out.later hb7)).mono ?_; rintro e w8 ⟨rfl, hb8⟩))
                  go_ret
                  exact ⟨ret_bool (by simp), (hb0.out.trans (hB6.out.mono (by omega))).trans ((below_then hb7 hb8).mono (Nat.le_trans (by omega) (Nat.le_of_lt hP6'.out.lt)))⟩
    · have hk0' : k = n0 := by omega
      have hx5 := Lib.hid (put_len (most := n) hn1 hlen (⟨x1, x2, x3, x4, x5, x6⟩ : Ent) now)
      have hl3 : (put n (put n l (⟨x1, x2, x3, x4, x5, x6⟩ : Ent) now) (⟨x1, x2, x3, x4, x5, x6⟩ : Ent) now).length ≤ n := put_len (most := n) hn1 hx5.out (⟨x1, x2, x3, x4, x5, x6⟩ : Ent) now
      have hc3 := Lib.hid (count_put (most := n) (put_uniq (most := n) hU.out (⟨x1, x2, x3, x4, x5, x6⟩ : Ent) now) (⟨x1, x2, x3, x4, x5, x6⟩ : Ent) now)
      obtain ⟨l3, hl3e⟩ : ∃ l3, l3 = put n (put n l (⟨x1, x2, x3, x4, x5, x6⟩ : Ent) now) (⟨x1, x2, x3, x4, x5, x6⟩ : Ent) now := ⟨_, rfl⟩
      have hl3' := Lib.hid hl3e
      rw [← hl3e] at hl3 hc3
      have hput1 := Lib.hid (fun W v (h : PM W (w.heap.size + 1) n v l) => put_any15 (w.heap.size + 1) n v l (⟨x1, x2, x3, x4, x5, x6⟩ : Ent) now W h hn1 (by omega) hlen)
      have hput2 := Lib.hid (fun W v (h : PM W (w.heap.size + 1) n v (put n l (⟨x1, x2, x3, x4, x5, x6⟩ : Ent) now)) => put_any15 (w.heap.size + 1) n v (put n l (⟨x1, x2, x3, x4, x5, x6⟩ : Ent) now) (⟨x1, x2, x3, x4, x5, x6⟩ : Ent) now W h hn1 (by omega) hx5.out)
      rw [← hl3e] at hput2
      have hha := Lib.hid (fun W v (h : PM W (w.heap.size + 1) n v (drop l3 x1 x2)) => (show Calls Try.prog 11 #[.pointer (some ⟨w.heap.size + 1, 0, Option.none⟩), evalue (⟨x1, x2, x3, x4, x5, x6⟩ : Ent), .int .i64 now] W fun e w' => e = .returned (.bool false) ∧ Below W.heap.size W w' by
        have := has_any (w.heap.size + 1) n v (drop l3 x1 x2) (⟨x1, x2, x3, x4, x5, x6⟩ : Ent) now W h
        rwa [has_dropped l3 (⟨x1, x2, x3, x4, x5, x6⟩ : Ent) now] at this))
      clear hl3e
      obtain ⟨m, hm⟩ : ∃ m, m = l3.length := ⟨_, rfl⟩
      have hm' := Lib.hid hm
      rw [← hm] at hl3
      clear hm
      unfold evalue at hput1 hput2 hha
      simp only at hput1 hput2 hha
      obtain ⟨z1, z2, z3, z4, z5, z6⟩ := hzr.out
      simp only at z1 z2 z3 z4 z5 z6
      go_wp2_with (first
        | (go_at_call 13; (with_reducible refine (hput1.out _ _ hP.out).mono ?_); rintro e w1 ⟨rfl, v1, hP1, hV1, hT1⟩; have hP1' := Lib.hid hP1; have hBB1 := Lib.hid (hT1.belowB hbe.out (Nat.le_refl _) (Nat.le_of_lt hP.out.lt) (hP.out.fresh (Nat.le_refl _))); have hz1 := Lib.hid (hzr.out.block (hT1.block w.heap.size (by have := hP.out.lt; omega) (by omega) (fun e => by have := hP.out.fresh (Nat.le_refl _) _ e; omega))); obtain ⟨k1, k2, k3, k4, k5, k6⟩ := hz1.out; simp only at k1 k2 k3 k4 k5 k6; clear hP1 hV1 hT1)
        | (go_at_call 13; (with_reducible refine (hput2.out _ _ hP1'.out).mono ?_); rintro e w2 ⟨rfl, v3, hP2, hV2, hT2⟩; have hP2' := Lib.hid hP2; have hBB2 := Lib.hid (hT2.belowB hBB1.out (Nat.le_refl _) (Nat.le_of_lt hP1'.out.lt) (hP1'.out.fresh (Nat.le_refl _))); have hz2 := Lib.hid (hz1.out.block (hT2.block w.heap.size (by have := hP1'.out.lt; omega) (by omega) (fun e => by have := hP1'.out.fresh (Nat.le_refl _) _ e; omega))); clear hP2 hV2 hT2)
        | (go_at_call 16; refine (list15_any _ n v3 l3 _ hP2'.out (by have := hm'.out; omega)).mono ?_; rintro e w3 ⟨u3, rfl, hO3, hb3⟩; obtain ⟨A3, c3, rfl, hE3⟩ := hO3.eds; rw [← hm'.out] at hE3 ⊢; have hE3' := Lib.hid hE3; have hBB4 := Lib.hid (below_thenB hBB2.out hb3 (Nat.le_of_lt hP2'.out.lt)); have hP4 := Lib.hid (hP2'.out.later hb3); have hz4 := Lib.hid (hz2.out.later hb3); clear hO3 hE3))
      go_loopw [14, 15, 16] (fun s i _ wr => ∃ k cnt : Nat, k ≤ m ∧ i = .int .i64 k ∧ s = .int .i64 cnt ∧ cnt ≤ k ∧ Hid (cnt = (l3.take k).countP (fun y => sameKey y (⟨x1, x2, x3, x4, x5, x6⟩ : Ent))) ∧ Below w3.heap.size w3 wr) (fun _ i _ _ => m - (RowKit.intOf i).toNat)
      case atStart => exact ⟨0, 0, Nat.zero_le _, rfl, rfl, Nat.le_refl _, Lib.hid rfl, Below.refl _ _⟩
      case round =>
        obtain ⟨k, cnt, hkm, rfl, rfl, hck, hcnt, hbl⟩ := hrel
        have hmn := hl3
        by_cases hlm : k < m
        · have hkl : k < l3.length := by rw [← hm'.out]; exact hlm
          obtain ⟨y, hy⟩ : ∃ y, y = l3[k] := ⟨_, rfl⟩
          obtain ⟨g3, o3, rfl, h1, h2, h3, h4, h5, h6⟩ := (hE3'.out.later hbl).six hlm hy
          have hst := Lib.hid (count_step (p := fun y => sameKey y (⟨x1, x2, x3, x4, x5, x6⟩ : Ent)) hkl)
          rw [← hy] at hst
          clear hy
          obtain ⟨y1, y2, y3, y4, y5, y6⟩ := y
          have hby := Lib.hid (below_box wr (.cells #[.string y1, .string y2, .bool y3, .string y4, .string y5, .int .i64 y6] 32))
          have hbx6 := Lib.hid (below_box wr (.cells #[.string y1, .string y2, .bool y3, .string y4, .string y5, .int .i64 x6] 32))
          obtain ⟨_, _, _, _, _, r6⟩ := (hz4.out.later hbl).later hby.out
          obtain ⟨j1, j2, j3, j4, j5, j6⟩ := (hz4.out.later hbl).later hbx6.out
          simp only at h1 h2 h3 h4 h5 h6 j1 j2 j3 j4 j5 j6 r6
          rcases Bool.eq_false_or_eq_true (y1.toList == x1.toList) with q1 | q1
          rotate_left
          · have hcs := Lib.hid (show (l3.take (k + 1)).countP (fun y => sameKey y (⟨x1, x2, x3, x4, x5, x6⟩ : Ent)) = (l3.take k).countP (fun y => sameKey y (⟨x1, x2, x3, x4, x5, x6⟩ : Ent))  from by
              rw [hst.out]
              have hsb : sameKey ⟨y1, y2, y3, y4, y5, y6⟩ (⟨x1, x2, x3, x4, x5, x6⟩ : Ent) = false := by unfold sameKey; simp [q1]
              rw [hsb]
              rfl)
            clear hst
            go_wp2
            go_roundw
            case rel => exact ⟨k + 1, cnt , by omega, by go_num, rfl, by omega, Lib.hid (by rw [hcs.out, ← hcnt.out]), below_then hbl (below_box _ _)⟩
            case measure => simp [RowKit.intOf]; omega
          rcases Bool.eq_false_or_eq_true (y2.toList == x2.toList) with q2 | q2
          rotate_left
          · have hcs := Lib.hid (show (l3.take (k + 1)).countP (fun y => sameKey y (⟨x1, x2, x3, x4, x5, x6⟩ : Ent)) = (l3.take k).countP (fun y => sameKey y (⟨x1, x2, x3, x4, x5, x6⟩ : Ent))  from by
              rw [hst.out]
              have hsb : sameKey ⟨y1, y2, y3, y4, y5, y6⟩ (⟨x1, x2, x3, x4, x5, x6⟩ : Ent) = false := by unfold sameKey; simp [q1, q2]
              rw [hsb]
              rfl)
            clear hst
            go_wp2
            go_roundw
            case rel => exact ⟨k + 1, cnt , by omega, by go_num, rfl, by omega, Lib.hid (by rw [hcs.out, ← hcnt.out]), below_then hbl (below_box _ _)⟩
            case measure => simp [RowKit.intOf]; omega
          rcases Bool.eq_false_or_eq_true (y3 == x3) with q3 | q3
          rotate_left
          · have hcs := Lib.hid (show (l3.take (k + 1)).countP (fun y => sameKey y (⟨x1, x2, x3, x4, x5, x6⟩ : Ent)) = (l3.take k).countP (fun y => sameKey y (⟨x1, x2, x3, x4, x5, x6⟩ : Ent))  from by
              rw [hst.out]
              have hsb : sameKey ⟨y1, y2, y3, y4, y5, y6⟩ (⟨x1, x2, x3, x4, x5, x6⟩ : Ent) = false := by unfold sameKey; simp [q1, q2, q3]
              rw [hsb]
              rfl)
            clear hst
            go_wp2
            go_roundw
            case rel => exact ⟨k + 1, cnt , by omega, by go_num, rfl, by omega, Lib.hid (by rw [hcs.out, ← hcnt.out]), below_then hbl (below_box _ _)⟩
            case measure => simp [RowKit.intOf]; omega
          rcases Bool.eq_false_or_eq_true (y4.toList == x4.toList) with q4 | q4
          rotate_left
          · have hcs := Lib.hid (show (l3.take (k + 1)).countP (fun y => sameKey y (⟨x1, x2, x3, x4, x5, x6⟩ : Ent)) = (l3.take k).countP (fun y => sameKey y (⟨x1, x2, x3, x4, x5, x6⟩ : Ent))  from by
              rw [hst.out]
              have hsb : sameKey ⟨y1, y2, y3, y4, y5, y6⟩ (⟨x1, x2, x3, x4, x5, x6⟩ : Ent) = false := by unfold sameKey; simp [q1, q2, q3, q4]
              rw [hsb]
              rfl)
            clear hst
            go_wp2
            go_roundw
            case rel => exact ⟨k + 1, cnt , by omega, by go_num, rfl, by omega, Lib.hid (by rw [hcs.out, ← hcnt.out]), below_then hbl (below_box _ _)⟩
            case measure => simp [RowKit.intOf]; omega
          rcases Bool.eq_false_or_eq_true (y5.toList == x5.toList) with q5 | q5
          rotate_left
          · have hcs := Lib.hid (show (l3.take (k + 1)).countP (fun y => sameKey y (⟨x1, x2, x3, x4, x5, x6⟩ : Ent)) = (l3.take k).countP (fun y => sameKey y (⟨x1, x2, x3, x4, x5, x6⟩ : Ent))  from by
              rw [hst.out]
              have hsb : sameKey ⟨y1, y2, y3, y4, y5, y6⟩ (⟨x1, x2, x3, x4, x5, x6⟩ : Ent) = false := by unfold sameKey; simp [q1, q2, q3, q4, q5]
              rw [hsb]
              rfl)
            clear hst
            go_wp2
            go_roundw
            case rel => exact ⟨k + 1, cnt , by omega, by go_num, rfl, by omega, Lib.hid (by rw [hcs.out, ← hcnt.out]), below_then hbl (below_box _ _)⟩
            case measure => simp [RowKit.intOf]; omega
          have hcs := Lib.hid (show (l3.take (k + 1)).countP (fun y => sameKey y (⟨x1, x2, x3, x4, x5, x6⟩ : Ent)) = (l3.take k).countP (fun y => sameKey y (⟨x1, x2, x3, x4, x5, x6⟩ : Ent)) + 1 from by
            rw [hst.out]
            have hsb : sameKey ⟨y1, y2, y3, y4, y5, y6⟩ (⟨x1, x2, x3, x4, x5, x6⟩ : Ent) = true := by unfold sameKey; simp [q1, q2, q3, q4, q5]
            rw [hsb]
            rfl)
          clear hst
          go_wp2
          go_roundw
          case rel => exact ⟨k + 1, cnt + 1, by omega, by go_num, by go_num, by omega, Lib.hid (by rw [hcs.out, ← hcnt.out]), below_then hbl (below_box _ _)⟩
          case measure => simp [RowKit.intOf]; omega
        · obtain rfl : k = m := by omega
          have htk : l3.take k = l3 := by rw [hm'.out, List.take_length]
          have hc1 : cnt = 1 := by have := hcnt.out; rw [htk, hc3.out] at this; exact this
          subst hc1
          have hP3 := Lib.hid (hP4.out.later hbl)
          have hz3 := Lib.hid (hz4.out.later hbl)
          have hBB3 := Lib.hid (below_thenB hBB4.out hbl (Nat.le_of_lt hP4.out.lt))
          have hgt := Lib.hid (show decide ((n : Int) < (k : Int)) = false from decide_eq_false (by omega))
          clear htk
          by_cases hti : now < x6
          · have hr0 : has l3 (⟨x1, x2, x3, x4, x5, x6⟩ : Ent) now = true := by rw [hl3'.out]; exact has_put (most := n) hti
            clear hl3'
            go_wp2
            have hr : Hid (has l3 (⟨x1, x2, x3, x4, x5, x6⟩ : Ent) now = true) := Lib.hid (by exact hr0)
            have hg : Hid (decide (now < x6) = true) := Lib.hid (by exact decide_eq_true hti)
            refine wp_region_each (RInv 117 [78, 79, 80, 81, 82, 83, 84, 85, 86, 87, 88, 89, 90, 91, 92, 93, 94, 95, 96, 97, 98, 99, 100, 101, 102] _ (wlF (w.heap.size + 1) w.heap.size n k A3 c3 (⟨x1, x2, x3, x4, x5, x6⟩ : Ent) now true true false undef undef undef undef) wr NoMore) (by kernel_rfl) (by kernel_rfl) (RInv.start rfl trivial (Below.refl _ _).drew) ?_ ?_
            · intro i hi D a wy hI hcl hnd hpre
              have hi' : i < 25 := hi
              have hcase : i = 0 ∨ i = 1 ∨ i = 2 ∨ i = 3 ∨ i = 4 ∨ i = 5 ∨ i = 6 ∨ i = 7 ∨ i = 8 ∨ i = 9 ∨ i = 10 ∨ i = 11 ∨ i = 12 ∨ i = 13 ∨ i = 14 ∨ i = 15 ∨ i = 16 ∨ i = 17 ∨ i = 18 ∨ i = 19 ∨ i = 20 ∨ i = 21 ∨ i = 22 ∨ i = 23 ∨ i = 24 := by omega
              have hF := hI.fact
              rcases hcase with rfl | rfl | rfl | rfl | rfl | rfl | rfl | rfl | rfl | rfl | rfl | rfl | rfl | rfl | rfl | rfl | rfl | rfl | rfl | rfl | rfl | rfl | rfl | rfl | rfl
              · exact wpOp_move rfl (wanted_free rfl) _ rfl _ (hI.same 13 (by decide)) (hI.add (by decide) wlF_later (by decide) (Below.refl _ _) rfl)
              · exact wpOp_len rfl (wanted_free rfl) _ _ rfl _ Try.underlying39 _ _ _ (hF 0 (hpre 0 (by kernel_rfl))) (hI.add (by decide) wlF_later (by decide) (Below.refl _ _) rfl)
              · exact wpOp_move rfl (wanted_free rfl) _ rfl _ (hI.same 9 (by decide)) (hI.add (by decide) wlF_later (by decide) (Below.refl _ _) rfl)
              · exact wpOp_bin rfl (wanted_free rfl) _ _ _ _ _ rfl _ _ _ (hF 1 (hpre 1 (by kernel_rfl))) (hF 2 (hpre 2 (by kernel_rfl))) (run_gtr _ _ wy _ _ false hgt.out) (hI.add (by decide) wlF_later (by decide) (Below.refl _ _) rfl)
              · exact wpOp_move rfl (wanted_free rfl) _ rfl _ (hF 3 (hpre 3 (by kernel_rfl))) (hI.add (by decide) wlF_later (by decide) (Below.refl _ _) rfl)
              · have g4 := hF 4 (hpre 4 (by kernel_rfl))
                exact wpOp_move rfl (wanted_by (d := 82) rfl _ rfl rfl g4) _ rfl _ (hI.same 14 (by decide)) (hI.add (by decide) wlF_later (by decide) (Below.refl _ _) rfl)
              · have g4 := hF 4 (hpre 4 (by kernel_rfl))
                exact wpOp_bin rfl (wanted_by (d := 82) rfl _ rfl rfl g4) _ _ _ _ _ rfl _ _ _ (hF 5 (hpre 5 (by kernel_rfl))) rfl (run_neqI _ _ wy) (hI.add (by decide) wlF_later (by decide) (Below.refl _ _) rfl)
              · exact wpOp_pick rfl (wanted_free rfl) _ _ _ rfl false (hF 4 (hpre 4 (by kernel_rfl))) _ (hF 6 (hpre 6 (by kernel_rfl))) (hI.add (by decide) wlF_later (by decide) (Below.refl _ _) rfl)
              · exact wpOp_move rfl (wanted_free rfl) _ rfl _ (hF 7 (hpre 7 (by kernel_rfl))) (hI.add (by decide) wlF_later (by decide) (Below.refl _ _) rfl)
              · have g8 := hF 8 (hpre 8 (by kernel_rfl))
                exact wpOp_move rfl (wanted_by (d := 86) rfl _ rfl rfl g8) _ rfl _ (hI.same 10 (by decide)) (hI.add (by decide) wlF_later (by decide) (Below.refl _ _) rfl)
              · have g8 := hF 8 (hpre 8 (by kernel_rfl))
                exact wpOp_load rfl (wanted_by (d := 86) rfl _ rfl rfl g8) _ _ rfl _ _ (hI.same 6 (by decide)) (run_loadS wy w.heap.size (⟨x1, x2, x3, x4, x5, x6⟩ : Ent) (hz3.out.later hI.below)) (hI.add (by decide) wlF_later (by decide) (Below.refl _ _) rfl)
              · have g8 := hF 8 (hpre 8 (by kernel_rfl))
                exact wpOp_move rfl (wanted_by (d := 86) rfl _ rfl rfl g8) _ rfl _ (hI.same 3 (by decide)) (hI.add (by decide) wlF_later (by decide) (Below.refl _ _) rfl)
              · have g8 := hF 8 (hpre 8 (by kernel_rfl))
                exact wpOp_call3' rfl (wanted_by (d := 86) rfl _ rfl rfl g8) 11 _ _ _ _ rfl _ _ _ (hF 9 (hpre 9 (by kernel_rfl))) (hF 10 (hpre 10 (by kernel_rfl))) (hF 11 (hpre 11 (by kernel_rfl))) (enters_has _ _) (has_any (w.heap.size + 1) n v3 l3 (⟨x1, x2, x3, x4, x5, x6⟩ : Ent) now wy (hP3.out.later hI.below)) (fun e w' h => ⟨_, h.1, hI.add (by decide) wlF_later (by decide) h.2 (congrArg Value.bool hr.out)⟩)
              · have g8 := hF 8 (hpre 8 (by kernel_rfl))
                exact wpOp_field rfl (wanted_by (d := 86) rfl _ rfl rfl g8) _ _ _ rfl _ _ (hI.same 6 (by decide)) (run_field5 wy w.heap.size 0) (hI.add (by decide) wlF_later (by decide) (Below.refl _ _) rfl)
              · have g8 := hF 8 (hpre 8 (by kernel_rfl))
                exact wpOp_load rfl (wanted_by (d := 86) rfl _ rfl rfl g8) _ _ rfl _ _ (hF 13 (hpre 13 (by kernel_rfl))) (run_loadI wy w.heap.size 5 _ (hz3.out.later hI.below).2.2.2.2.2) (hI.add (by decide) wlF_later (by decide) (Below.refl _ _) rfl)
              · have g8 := hF 8 (hpre 8 (by kernel_rfl))
                exact wpOp_move rfl (wanted_by (d := 86) rfl _ rfl rfl g8) _ rfl _ (hI.same 3 (by decide)) (hI.add (by decide) wlF_later (by decide) (Below.refl _ _) rfl)
              · have g8 := hF 8 (hpre 8 (by kernel_rfl))
                exact wpOp_bin rfl (wanted_by (d := 86) rfl _ rfl rfl g8) _ _ _ _ _ rfl _ _ _ (hF 14 (hpre 14 (by kernel_rfl))) (hF 15 (hpre 15 (by kernel_rfl))) (run_gtr _ _ wy _ _ true hg.out) (hI.add (by decide) wlF_later (by decide) (Below.refl _ _) rfl)
              · have g8 := hF 8 (hpre 8 (by kernel_rfl))
                exact wpOp_bin rfl (wanted_by (d := 86) rfl _ rfl rfl g8) _ _ _ _ _ rfl _ _ _ (hF 12 (hpre 12 (by kernel_rfl))) (hF 16 (hpre 16 (by kernel_rfl))) (run_neqB _ _ wy _ _ false rfl) (hI.add (by decide) wlF_later (by decide) (Below.refl _ _) rfl)
              · have g8 := hF 8 (hpre 8 (by kernel_rfl))
                exact wpOp_move rfl (wanted_by (d := 86) rfl _ rfl rfl g8) _ rfl _ (hF 17 (hpre 17 (by kernel_rfl))) (hI.add (by decide) wlF_later (by decide) (Below.refl _ _) rfl)
              · have g18 := hF 18 (hpre 18 (by kernel_rfl))
                exact wpOp_idle rfl (wanted_off (d := 96) rfl _ rfl rfl g18 (by simp)) (hI.add (by decide) wlF_later (by decide) (Below.refl _ _) rfl)
              · have g18 := hF 18 (hpre 18 (by kernel_rfl))
                exact wpOp_idle rfl (wanted_off (d := 96) rfl _ rfl rfl g18 (by simp)) (hI.add (by decide) wlF_later (by decide) (Below.refl _ _) rfl)
              · have g18 := hF 18 (hpre 18 (by kernel_rfl))
                exact wpOp_idle rfl (wanted_off (d := 96) rfl _ rfl rfl g18 (by simp)) (hI.add (by decide) wlF_later (by decide) (Below.refl _ _) rfl)
              · have g18 := hF 18 (hpre 18 (by kernel_rfl))
                exact wpOp_idle rfl (wanted_off (d := 96) rfl _ rfl rfl g18 (by simp)) (hI.add (by decide) wlF_later (by decide) (Below.refl _ _) rfl)
              · have g8 := hF 8 (hpre 8 (by kernel_rfl))
                exact wpOp_pick rfl (wanted_by (d := 86) rfl _ rfl rfl g8) _ _ _ rfl false (hF 18 (hpre 18 (by kernel_rfl))) _ rfl (hI.add (by decide) wlF_later (by decide) (Below.refl _ _) rfl)
              · exact wpOp_pick rfl (wanted_free rfl) _ _ _ rfl false (hF 8 (hpre 8 (by kernel_rfl))) _ (hF 23 (hpre 23 (by kernel_rfl))) (hI.add (by decide) wlF_later (by decide) (Below.refl _ _) rfl)
            · intro D a w5 hI hall
              have hB5 := Lib.hid hI.below
              obtain ⟨fs, rfl, hfs⟩ := hI.done (by decide) rfl (fun i hi => hall i hi)
              have e24 : fs 102 = .bool false := hfs 24 (by decide)
              clear hI hall hfs
              simp only [putAll, List.map_cons, List.map_nil, Act.put, List.setIfInBounds_toArray, List.set_cons_zero, List.set_cons_succ]
              rw [e24]
              clear e24
              generalize fs 78 = u78
              generalize fs 79 = u79
              generalize fs 80 = u80
              generalize fs 81 = u81
              generalize fs 82 = u82
              generalize fs 83 = u83
              generalize fs 84 = u84
              generalize fs 85 = u85
              generalize fs 86 = u86
              generalize fs 87 = u87
              generalize fs 88 = u88
              generalize fs 89 = u89
              generalize fs 90 = u90
              generalize fs 91 = u91
              generalize fs 92 = u92
              generalize fs 93 = u93
              generalize fs 94 = u94
              generalize fs 95 = u95
              generalize fs 96 = u96
              generalize fs 97 = u97
              generalize fs 98 = u98
              generalize fs 99 = u99
              generalize fs 100 = u100
              generalize fs 101 = u101
              have hP5 := Lib.hid (hP3.out.later hB5.out)
              obtain ⟨y1, y2, y3, y4, y5, y6⟩ := hz3.out.later hB5.out
              simp only at y1 y2 y3 y4 y5 y6
              have hz5 := Lib.hid (hz3.out.later hB5.out)
              have hBB5 := Lib.hid (below_thenB hBB3.out hB5.out (Nat.le_of_lt hP3.out.lt))
              go_wp2_with (first
                | (go_at_call 9; refine (drop_any15 (w.heap.size + 1) n v3 l3 x1 x2 w5 hP5.out).mono ?_; rintro e w6 ⟨rfl, v6, hP6, hV6, hT6⟩; have hP6' := Lib.hid hP6; have hB6 := Lib.hid (hT6.belowB hBB5.out (Nat.le_refl _) (Nat.le_of_lt hP5.out.lt) (hP5.out.fresh (Nat.le_refl _))); have hz6 := Lib.hid (hz5.out.block (hT6.block w.heap.size (by have := hP5.out.lt; omega) (by omega) (fun e => by have := hP5.out.fresh (Nat.le_refl _) _ e; omega))); clear hP6 hV6 hT6)
                | (go_at_call 8; refine (awake15_any _).mono ?_; rintro e w7 ⟨rfl, hb7⟩; obtain ⟨k1, k2, k3, k4, k5, k6⟩ := hz6.out.later hb7; simp only at k1 k2 k3 k4 k5 k6)
                | (go_at_call 11; refine (hha.out _ _ (hP6'.out.later hb7)).mono ?_; rintro e w8 ⟨rfl, hb8⟩))
              go_ret
              exact ⟨ret_bool (by simp), (hb0.out.trans (hB6.out.mono (by omega))).trans ((below_then hb7 hb8).mono (Nat.le_trans (by omega) (Nat.le_of_lt hP6'.out.lt)))⟩
          · cases hr0 : has l3 (⟨x1, x2, x3, x4, x5, x6⟩ : Ent) now with
            | false =>
              clear hl3'
              go_wp2
              have hr : Hid (has l3 (⟨x1, x2, x3, x4, x5, x6⟩ : Ent) now = false) := Lib.hid (by exact hr0)
              have hg : Hid (decide (now < x6) = false) := Lib.hid (by exact decide_eq_false (by omega))
              refine wp_region_each (RInv 117 [78, 79, 80, 81, 82, 83, 84, 85, 86, 87, 88, 89, 90, 91, 92, 93, 94, 95, 96, 97, 98, 99, 100, 101, 102] _ (wlF (w.heap.size + 1) w.heap.size n k A3 c3 (⟨x1, x2, x3, x4, x5, x6⟩ : Ent) now false false false undef undef undef undef) wr NoMore) (by kernel_rfl) (by kernel_rfl) (RInv.start rfl trivial (Below.refl _ _).drew) ?_ ?_
              · intro i hi D a wy hI hcl hnd hpre
                have hi' : i < 25 := hi
                have hcase : i = 0 ∨ i = 1 ∨ i = 2 ∨ i = 3 ∨ i = 4 ∨ i = 5 ∨ i = 6 ∨ i = 7 ∨ i = 8 ∨ i = 9 ∨ i = 10 ∨ i = 11 ∨ i = 12 ∨ i = 13 ∨ i = 14 ∨ i = 15 ∨ i = 16 ∨ i = 17 ∨ i = 18 ∨ i = 19 ∨ i = 20 ∨ i = 21 ∨ i = 22 ∨ i = 23 ∨ i = 24 := by omega
                have hF := hI.fact
                rcases hcase with rfl | rfl | rfl | rfl | rfl | rfl | rfl | rfl | rfl | rfl | rfl | rfl | rfl | rfl | rfl | rfl | rfl | rfl | rfl | rfl | rfl | rfl | rfl | rfl | rfl
                · exact wpOp_move rfl (wanted_free rfl) _ rfl _ (hI.same 13 (by decide)) (hI.add (by decide) wlF_later (by decide) (Below.refl _ _) rfl)
                · exact wpOp_len rfl (wanted_free rfl) _ _ rfl _ Try.underlying39 _ _ _ (hF 0 (hpre 0 (by kernel_rfl))) (hI.add (by decide) wlF_later (by decide) (Below.refl _ _) rfl)
                · exact wpOp_move rfl (wanted_free rfl) _ rfl _ (hI.same 9 (by decide)) (hI.add (by decide) wlF_later (by decide) (Below.refl _ _) rfl)
                · exact wpOp_bin rfl (wanted_free rfl) _ _ _ _ _ rfl _ _ _ (hF 1 (hpre 1 (by kernel_rfl))) (hF 2 (hpre 2 (by kernel_rfl))) (run_gtr _ _ wy _ _ false hgt.out) (hI.add (by decide) wlF_later (by decide) (Below.refl _ _) rfl)
                · exact wpOp_move rfl (wanted_free rfl) _ rfl _ (hF 3 (hpre 3 (by kernel_rfl))) (hI.add (by decide) wlF_later (by decide) (Below.refl _ _) rfl)
                · have g4 := hF 4 (hpre 4 (by kernel_rfl))
                  exact wpOp_move rfl (wanted_by (d := 82) rfl _ rfl rfl g4) _ rfl _ (hI.same 14 (by decide)) (hI.add (by decide) wlF_later (by decide) (Below.refl _ _) rfl)
                · have g4 := hF 4 (hpre 4 (by kernel_rfl))
                  exact wpOp_bin rfl (wanted_by (d := 82) rfl _ rfl rfl g4) _ _ _ _ _ rfl _ _ _ (hF 5 (hpre 5 (by kernel_rfl))) rfl (run_neqI _ _ wy) (hI.add (by decide) wlF_later (by decide) (Below.refl _ _) rfl)
                · exact wpOp_pick rfl (wanted_free rfl) _ _ _ rfl false (hF 4 (hpre 4 (by kernel_rfl))) _ (hF 6 (hpre 6 (by kernel_rfl))) (hI.add (by decide) wlF_later (by decide) (Below.refl _ _) rfl)
                · exact wpOp_move rfl (wanted_free rfl) _ rfl _ (hF 7 (hpre 7 (by kernel_rfl))) (hI.add (by decide) wlF_later (by decide) (Below.refl _ _) rfl)
                · have g8 := hF 8 (hpre 8 (by kernel_rfl))
                  exact wpOp_move rfl (wanted_by (d := 86) rfl _ rfl rfl g8) _ rfl _ (hI.same 10 (by decide)) (hI.add (by decide) wlF_later (by decide) (Below.refl _ _) rfl)
                · have g8 := hF 8 (hpre 8 (by kernel_rfl))
                  exact wpOp_load rfl (wanted_by (d := 86) rfl _ rfl rfl g8) _ _ rfl _ _ (hI.same 6 (by decide)) (run_loadS wy w.heap.size (⟨x1, x2, x3, x4, x5, x6⟩ : Ent) (hz3.out.later hI.below)) (hI.add (by decide) wlF_later (by decide) (Below.refl _ _) rfl)
                · have g8 := hF 8 (hpre 8 (by kernel_rfl))
                  exact wpOp_move rfl (wanted_by (d := 86) rfl _ rfl rfl g8) _ rfl _ (hI.same 3 (by decide)) (hI.add (by decide) wlF_later (by decide) (Below.refl _ _) rfl)
                · have g8 := hF 8 (hpre 8 (by kernel_rfl))
                  exact wpOp_call3' rfl (wanted_by (d := 86) rfl _ rfl rfl g8) 11 _ _ _ _ rfl _ _ _ (hF 9 (hpre 9 (by kernel_rfl))) (hF 10 (hpre 10 (by kernel_rfl))) (hF 11 (hpre 11 (by kernel_rfl))) (enters_has _ _) (has_any (w.heap.size + 1) n v3 l3 (⟨x1, x2, x3, x4, x5, x6⟩ : Ent) now wy (hP3.out.later hI.below)) (fun e w' h => ⟨_, h.1, hI.add (by decide) wlF_later (by decide) h.2 (congrArg Value.bool hr.out)⟩)
                · have g8 := hF 8 (hpre 8 (by kernel_rfl))
                  exact wpOp_field rfl (wanted_by (d := 86) rfl _ rfl rfl g8) _ _ _ rfl _ _ (hI.same 6 (by decide)) (run_field5 wy w.heap.size 0) (hI.add (by decide) wlF_later (by decide) (Below.refl _ _) rfl)
                · have g8 := hF 8 (hpre 8 (by kernel_rfl))
                  exact wpOp_load rfl (wanted_by (d := 86) rfl _ rfl rfl g8) _ _ rfl _ _ (hF 13 (hpre 13 (by kernel_rfl))) (run_loadI wy w.heap.size 5 _ (hz3.out.later hI.below).2.2.2.2.2) (hI.add (by decide) wlF_later (by decide) (Below.refl _ _) rfl)
                · have g8 := hF 8 (hpre 8 (by kernel_rfl))
                  exact wpOp_move rfl (wanted_by (d := 86) rfl _ rfl rfl g8) _ rfl _ (hI.same 3 (by decide)) (hI.add (by decide) wlF_later (by decide) (Below.refl _ _) rfl)
                · have g8 := hF 8 (hpre 8 (by kernel_rfl))
                  exact wpOp_bin rfl (wanted_by (d := 86) rfl _ rfl rfl g8) _ _ _ _ _ rfl _ _ _ (hF 14 (hpre 14 (by kernel_rfl))) (hF 15 (hpre 15 (by kernel_rfl))) (run_gtr _ _ wy _ _ false hg.out) (hI.add (by decide) wlF_later (by decide) (Below.refl _ _) rfl)
                · have g8 := hF 8 (hpre 8 (by kernel_rfl))
                  exact wpOp_bin rfl (wanted_by (d := 86) rfl _ rfl rfl g8) _ _ _ _ _ rfl _ _ _ (hF 12 (hpre 12 (by kernel_rfl))) (hF 16 (hpre 16 (by kernel_rfl))) (run_neqB _ _ wy _ _ false rfl) (hI.add (by decide) wlF_later (by decide) (Below.refl _ _) rfl)
                · have g8 := hF 8 (hpre 8 (by kernel_rfl))
                  exact wpOp_move rfl (wanted_by (d := 86) rfl _ rfl rfl g8) _ rfl _ (hF 17 (hpre 17 (by kernel_rfl))) (hI.add (by decide) wlF_later (by decide) (Below.refl _ _) rfl)
                · have g18 := hF 18 (hpre 18 (by kernel_rfl))
                  exact wpOp_idle rfl (wanted_off (d := 96) rfl _ rfl rfl g18 (by simp)) (hI.add (by decide) wlF_later (by decide) (Below.refl _ _) rfl)
                · have g18 := hF 18 (hpre 18 (by kernel_rfl))
                  exact wpOp_idle rfl (wanted_off (d := 96) rfl _ rfl rfl g18 (by simp)) (hI.add (by decide) wlF_later (by decide) (Below.refl _ _) rfl)
                · have g18 := hF 18 (hpre 18 (by kernel_rfl))
                  exact wpOp_idle rfl (wanted_off (d := 96) rfl _ rfl rfl g18 (by simp)) (hI.add (by decide) wlF_later (by decide) (Below.refl _ _) rfl)
                · have g18 := hF 18 (hpre 18 (by kernel_rfl))
                  exact wpOp_idle rfl (wanted_off (d := 96) rfl _ rfl rfl g18 (by simp)) (hI.add (by decide) wlF_later (by decide) (Below.refl _ _) rfl)
                · have g8 := hF 8 (hpre 8 (by kernel_rfl))
                  exact wpOp_pick rfl (wanted_by (d := 86) rfl _ rfl rfl g8) _ _ _ rfl false (hF 18 (hpre 18 (by kernel_rfl))) _ rfl (hI.add (by decide) wlF_later (by decide) (Below.refl _ _) rfl)
                · exact wpOp_pick rfl (wanted_free rfl) _ _ _ rfl false (hF 8 (hpre 8 (by kernel_rfl))) _ (hF 23 (hpre 23 (by kernel_rfl))) (hI.add (by decide) wlF_later (by decide) (Below.refl _ _) rfl)
              · intro D a w5 hI hall
                have hB5 := Lib.hid hI.below
                obtain ⟨fs, rfl, hfs⟩ := hI.done (by decide) rfl (fun i hi => hall i hi)
                have e24 : fs 102 = .bool false := hfs 24 (by decide)
                clear hI hall hfs
                simp only [putAll, List.map_cons, List.map_nil, Act.put, List.setIfInBounds_toArray, List.set_cons_zero, List.set_cons_succ]
                rw [e24]
                clear e24
                generalize fs 78 = u78
                generalize fs 79 = u79
                generalize fs 80 = u80
                generalize fs 81 = u81
                generalize fs 82 = u82
                generalize fs 83 = u83
                generalize fs 84 = u84
                generalize fs 85 = u85
                generalize fs 86 = u86
                generalize fs 87 = u87
                generalize fs 88 = u88
                generalize fs 89 = u89
                generalize fs 90 = u90
                generalize fs 91 = u91
                generalize fs 92 = u92
                generalize fs 93 = u93
                generalize fs 94 = u94
                generalize fs 95 = u95
                generalize fs 96 = u96
                generalize fs 97 = u97
                generalize fs 98 = u98
                generalize fs 99 = u99
                generalize fs 100 = u100
                generalize fs 101 = u101
                have hP5 := Lib.hid (hP3.out.later hB5.out)
                obtain ⟨y1, y2, y3, y4, y5, y6⟩ := hz3.out.later hB5.out
                simp only at y1 y2 y3 y4 y5 y6
                have hz5 := Lib.hid (hz3.out.later hB5.out)
                have hBB5 := Lib.hid (below_thenB hBB3.out hB5.out (Nat.le_of_lt hP3.out.lt))
                go_wp2_with (first
                  | (go_at_call 9; refine (drop_any15 (w.heap.size + 1) n v3 l3 x1 x2 w5 hP5.out).mono ?_; rintro e w6 ⟨rfl, v6, hP6, hV6, hT6⟩; have hP6' := Lib.hid hP6; have hB6 := Lib.hid (hT6.belowB hBB5.out (Nat.le_refl _) (Nat.le_of_lt hP5.out.lt) (hP5.out.fresh (Nat.le_refl _))); have hz6 := Lib.hid (hz5.out.block (hT6.block w.heap.size (by have := hP5.out.lt; omega) (by omega) (fun e => by have := hP5.out.fresh (Nat.le_refl _) _ e; omega))); clear hP6 hV6 hT6)
                  | (go_at_call 8; refine (awake15_any _).mono ?_; rintro e w7 ⟨rfl, hb7⟩; obtain ⟨k1, k2, k3, k4, k5, k6⟩ := hz6.out.later hb7; simp only at k1 k2 k3 k4 k5 k6)
                  | (go_at_call 11; refine (hha.out _ _ (hP6'.out.later hb7)).mono ?_; rintro e w8 ⟨rfl, hb8⟩))
                go_ret
                exact ⟨ret_bool (by simp), (hb0.out.trans (hB6.out.mono (by omega))).trans ((below_then hb7 hb8).mono (Nat.le_trans (by omega) (Nat.le_of_lt hP6'.out.lt)))⟩
            | true =>
              clear hl3'
              go_wp2
              have hr : Hid (has l3 (⟨x1, x2, x3, x4, x5, x6⟩ : Ent) now = true) := Lib.hid (by exact hr0)
              have hg : Hid (decide (now < x6) = false) := Lib.hid (by exact decide_eq_false (by omega))
              refine wp_region_each (RInv 117 [78, 79, 80, 81, 82, 83, 84, 85, 86, 87, 88, 89, 90, 91, 92, 93, 94, 95, 96, 97, 98, 99, 100, 101, 102] _ (wlF (w.heap.size + 1) w.heap.size n k A3 c3 (⟨x1, x2, x3, x4, x5, x6⟩ : Ent) now true false true (.pointer (some ⟨w.heap.size, 5, Option.none⟩)) (.int .i64 x6) (.int .i64 now) (.bool false)) wr NoMore) (by kernel_rfl) (by kernel_rfl) (RInv.start rfl trivial (Below.refl _ _).drew) ?_ ?_
              · intro i hi D a wy hI hcl hnd hpre
                have hi' : i < 25 := hi
                have hcase : i = 0 ∨ i = 1 ∨ i = 2 ∨ i = 3 ∨ i = 4 ∨ i = 5 ∨ i = 6 ∨ i = 7 ∨ i = 8 ∨ i = 9 ∨ i = 10 ∨ i = 11 ∨ i = 12 ∨ i = 13 ∨ i = 14 ∨ i = 15 ∨ i = 16 ∨ i = 17 ∨ i = 18 ∨ i = 19 ∨ i = 20 ∨ i = 21 ∨ i = 22 ∨ i = 23 ∨ i = 24 := by omega
                have hF := hI.fact
                rcases hcase with rfl | rfl | rfl | rfl | rfl | rfl | rfl | rfl | rfl | rfl | rfl | rfl | rfl | rfl | rfl | rfl | rfl | rfl | rfl | rfl | rfl | rfl | rfl | rfl | rfl
                · exact wpOp_move rfl (wanted_free rfl) _ rfl _ (hI.same 13 (by decide)) (hI.add (by decide) wlF_later (by decide) (Below.refl _ _) rfl)
                · exact wpOp_len rfl (wanted_free rfl) _ _ rfl _ Try.underlying39 _ _ _ (hF 0 (hpre 0 (by kernel_rfl))) (hI.add (by decide) wlF_later (by decide) (Below.refl _ _) rfl)
                · exact wpOp_move rfl (wanted_free rfl) _ rfl _ (hI.same 9 (by decide)) (hI.add (by decide) wlF_later (by decide) (Below.refl _ _) rfl)
                · exact wpOp_bin rfl (wanted_free rfl) _ _ _ _ _ rfl _ _ _ (hF 1 (hpre 1 (by kernel_rfl))) (hF 2 (hpre 2 (by kernel_rfl))) (run_gtr _ _ wy _ _ false hgt.out) (hI.add (by decide) wlF_later (by decide) (Below.refl _ _) rfl)
                · exact wpOp_move rfl (wanted_free rfl) _ rfl _ (hF 3 (hpre 3 (by kernel_rfl))) (hI.add (by decide) wlF_later (by decide) (Below.refl _ _) rfl)
                · have g4 := hF 4 (hpre 4 (by kernel_rfl))
                  exact wpOp_move rfl (wanted_by (d := 82) rfl _ rfl rfl g4) _ rfl _ (hI.same 14 (by decide)) (hI.add (by decide) wlF_later (by decide) (Below.refl _ _) rfl)
                · have g4 := hF 4 (hpre 4 (by kernel_rfl))
                  exact wpOp_bin rfl (wanted_by (d := 82) rfl _ rfl rfl g4) _ _ _ _ _ rfl _ _ _ (hF 5 (hpre 5 (by kernel_rfl))) rfl (run_neqI _ _ wy) (hI.add (by decide) wlF_later (by decide) (Below.refl _ _) rfl)
                · exact wpOp_pick rfl (wanted_free rfl) _ _ _ rfl false (hF 4 (hpre 4 (by kernel_rfl))) _ (hF 6 (hpre 6 (by kernel_rfl))) (hI.add (by decide) wlF_later (by decide) (Below.refl _ _) rfl)
                · exact wpOp_move rfl (wanted_free rfl) _ rfl _ (hF 7 (hpre 7 (by kernel_rfl))) (hI.add (by decide) wlF_later (by decide) (Below.refl _ _) rfl)
                · have g8 := hF 8 (hpre 8 (by kernel_rfl))
                  exact wpOp_move rfl (wanted_by (d := 86) rfl _ rfl rfl g8) _ rfl _ (hI.same 10 (by decide)) (hI.add (by decide) wlF_later (by decide) (Below.refl _ _) rfl)
                · have g8 := hF 8 (hpre 8 (by kernel_rfl))
                  exact wpOp_load rfl (wanted_by (d := 86) rfl _ rfl rfl g8) _ _ rfl _ _ (hI.same 6 (by decide)) (run_loadS wy w.heap.size (⟨x1, x2, x3, x4, x5, x6⟩ : Ent) (hz3.out.later hI.below)) (hI.add (by decide) wlF_later (by decide) (Below.refl _ _) rfl)
                · have g8 := hF 8 (hpre 8 (by kernel_rfl))
                  exact wpOp_move rfl (wanted_by (d := 86) rfl _ rfl rfl g8) _ rfl _ (hI.same 3 (by decide)) (hI.add (by decide) wlF_later (by decide) (Below.refl _ _) rfl)
                · have g8 := hF 8 (hpre 8 (by kernel_rfl))
                  exact wpOp_call3' rfl (wanted_by (d := 86) rfl _ rfl rfl g8) 11 _ _ _ _ rfl _ _ _ (hF 9 (hpre 9 (by kernel_rfl))) (hF 10 (hpre 10 (by kernel_rfl))) (hF 11 (hpre 11 (by kernel_rfl))) (enters_has _ _) (has_any (w.heap.size + 1) n v3 l3 (⟨x1, x2, x3, x4, x5, x6⟩ : Ent) now wy (hP3.out.later hI.below)) (fun e w' h => ⟨_, h.1, hI.add (by decide) wlF_later (by decide) h.2 (congrArg Value.bool hr.out)⟩)
                · have g8 := hF 8 (hpre 8 (by kernel_rfl))
                  exact wpOp_field rfl (wanted_by (d := 86) rfl _ rfl rfl g8) _ _ _ rfl _ _ (hI.same 6 (by decide)) (run_field5 wy w.heap.size 0) (hI.add (by decide) wlF_later (by decide) (Below.refl _ _) rfl)
                · have g8 := hF 8 (hpre 8 (by kernel_rfl))
                  exact wpOp_load rfl (wanted_by (d := 86) rfl _ rfl rfl g8) _ _ rfl _ _ (hF 13 (hpre 13 (by kernel_rfl))) (run_loadI wy w.heap.size 5 _ (hz3.out.later hI.below).2.2.2.2.2) (hI.add (by decide) wlF_later (by decide) (Below.refl _ _) rfl)
                · have g8 := hF 8 (hpre 8 (by kernel_rfl))
                  exact wpOp_move rfl (wanted_by (d := 86) rfl _ rfl rfl g8) _ rfl _ (hI.same 3 (by decide)) (hI.add (by decide) wlF_later (by decide) (Below.refl _ _) rfl)
                · have g8 := hF 8 (hpre 8 (by kernel_rfl))
                  exact wpOp_bin rfl (wanted_by (d := 86) rfl _ rfl rfl g8) _ _ _ _ _ rfl _ _ _ (hF 14 (hpre 14 (by kernel_rfl))) (hF 15 (hpre 15 (by kernel_rfl))) (run_gtr _ _ wy _ _ false hg.out) (hI.add (by decide) wlF_later (by decide) (Below.refl _ _) rfl)
                · have g8 := hF 8 (hpre 8 (by kernel_rfl))
                  exact wpOp_bin rfl (wanted_by (d := 86) rfl _ rfl rfl g8) _ _ _ _ _ rfl _ _ _ (hF 12 (hpre 12 (by kernel_rfl))) (hF 16 (hpre 16 (by kernel_rfl))) (run_neqB _ _ wy _ _ true rfl) (hI.add (by decide) wlF_later (by decide) (Below.refl _ _) rfl)
                · have g8 := hF 8 (hpre 8 (by kernel_rfl))
                  exact wpOp_move rfl (wanted_by (d := 86) rfl _ rfl rfl g8) _ rfl _ (hF 17 (hpre 17 (by kernel_rfl))) (hI.add (by decide) wlF_later (by decide) (Below.refl _ _) rfl)
                · have g18 := hF 18 (hpre 18 (by kernel_rfl))
                  exact wpOp_field rfl (wanted_by (d := 96) rfl _ rfl rfl g18) _ _ _ rfl _ _ (hI.same 6 (by decide)) (run_field5 wy w.heap.size 0) (hI.add (by decide) wlF_later (by decide) (Below.refl _ _) rfl)
                · have g18 := hF 18 (hpre 18 (by kernel_rfl))
                  exact wpOp_load rfl (wanted_by (d := 96) rfl _ rfl rfl g18) _ _ rfl _ _ (hF 19 (hpre 19 (by kernel_rfl))) (run_loadI wy w.heap.size 5 _ (hz3.out.later hI.below).2.2.2.2.2) (hI.add (by decide) wlF_later (by decide) (Below.refl _ _) rfl)
                · have g18 := hF 18 (hpre 18 (by kernel_rfl))
                  exact wpOp_move rfl (wanted_by (d := 96) rfl _ rfl rfl g18) _ rfl _ (hI.same 3 (by decide)) (hI.add (by decide) wlF_later (by decide) (Below.refl _ _) rfl)
                · have g18 := hF 18 (hpre 18 (by kernel_rfl))
                  exact wpOp_bin rfl (wanted_by (d := 96) rfl _ rfl rfl g18) _ _ _ _ _ rfl _ _ _ (hF 20 (hpre 20 (by kernel_rfl))) (hF 21 (hpre 21 (by kernel_rfl))) (run_gtr _ _ wy _ _ false hg.out) (hI.add (by decide) wlF_later (by decide) (Below.refl _ _) rfl)
                · have g8 := hF 8 (hpre 8 (by kernel_rfl))
                  exact wpOp_pick rfl (wanted_by (d := 86) rfl _ rfl rfl g8) _ _ _ rfl true (hF 18 (hpre 18 (by kernel_rfl))) _ (hF 22 (hpre 22 (by kernel_rfl))) (hI.add (by decide) wlF_later (by decide) (Below.refl _ _) rfl)
                · exact wpOp_pick rfl (wanted_free rfl) _ _ _ rfl false (hF 8 (hpre 8 (by kernel_rfl))) _ (hF 23 (hpre 23 (by kernel_rfl))) (hI.add (by decide) wlF_later (by decide) (Below.refl _ _) rfl)
              · intro D a w5 hI hall
                have hB5 := Lib.hid hI.below
                obtain ⟨fs, rfl, hfs⟩ := hI.done (by decide) rfl (fun i hi => hall i hi)
                have e24 : fs 102 = .bool false := hfs 24 (by decide)
                clear hI hall hfs
                simp only [putAll, List.map_cons, List.map_nil, Act.put, List.setIfInBounds_toArray, List.set_cons_zero, List.set_cons_succ]
                rw [e24]
                clear e24
                generalize fs 78 = u78
                generalize fs 79 = u79
                generalize fs 80 = u80
                generalize fs 81 = u81
                generalize fs 82 = u82
                generalize fs 83 = u83
                generalize fs 84 = u84
                generalize fs 85 = u85
                generalize fs 86 = u86
                generalize fs 87 = u87
                generalize fs 88 = u88
                generalize fs 89 = u89
                generalize fs 90 = u90
                generalize fs 91 = u91
                generalize fs 92 = u92
                generalize fs 93 = u93
                generalize fs 94 = u94
                generalize fs 95 = u95
                generalize fs 96 = u96
                generalize fs 97 = u97
                generalize fs 98 = u98
                generalize fs 99 = u99
                generalize fs 100 = u100
                generalize fs 101 = u101
                have hP5 := Lib.hid (hP3.out.later hB5.out)
                obtain ⟨y1, y2, y3, y4, y5, y6⟩ := hz3.out.later hB5.out
                simp only at y1 y2 y3 y4 y5 y6
                have hz5 := Lib.hid (hz3.out.later hB5.out)
                have hBB5 := Lib.hid (below_thenB hBB3.out hB5.out (Nat.le_of_lt hP3.out.lt))
                go_wp2_with (first
                  | (go_at_call 9; refine (drop_any15 (w.heap.size + 1) n v3 l3 x1 x2 w5 hP5.out).mono ?_; rintro e w6 ⟨rfl, v6, hP6, hV6, hT6⟩; have hP6' := Lib.hid hP6; have hB6 := Lib.hid (hT6.belowB hBB5.out (Nat.le_refl _) (Nat.le_of_lt hP5.out.lt) (hP5.out.fresh (Nat.le_refl _))); have hz6 := Lib.hid (hz5.out.block (hT6.block w.heap.size (by have := hP5.out.lt; omega) (by omega) (fun e => by have := hP5.out.fresh (Nat.le_refl _) _ e; omega))); clear hP6 hV6 hT6)
                  | (go_at_call 8; refine (awake15_any _).mono ?_; rintro e w7 ⟨rfl, hb7⟩; obtain ⟨k1, k2, k3, k4, k5, k6⟩ := hz6.out.later hb7; simp only at k1 k2 k3 k4 k5 k6)
                  | (go_at_call 11; refine (hha.out _ _ (hP6'.out.later hb7)).mono ?_; rintro e w8 ⟨rfl, hb8⟩))
                go_ret
                exact ⟨ret_bool (by simp), (hb0.out.trans (hB6.out.mono (by omega))).trans ((below_then hb7 hb8).mono (Nat.le_trans (by omega) (Nat.le_of_lt hP6'.out.lt)))⟩
end Go.Proofs.Ythojnhdnflakiaa
