/-
  The reference's Good of layer 21. Conditions: those that each theorem states.
-/
import Derived.Test.YtodncamohimmmaaEvZero
import Derived.Test.YtodncamohimmmaaEvRefOk
import Derived.Test.YtodncamohimmmaaLow2
namespace Go.Proofs.Ytodncamohimmmaa
open Go.RowKit Go.Lib Leb

theorem kindE_tests {x : Ev} (h : kindE x) : (x.kind = 1 → okCode x.code) ∧ (x.kind = 2 → x.code = 1 ∨ x.code = 2) ∧ (x.kind = 3 → 100 ≤ x.status ∧ x.status < 600) ∧ (x.kind = 5 → x.n ≤ 1099511627776 ∧ x.ses = 0) ∧ (x.kind = 7 → 1 ≤ x.code ∧ x.code ≤ 16 ∧ 0 ≤ x.status ∧ x.status < 600) ∧ 1 ≤ x.kind ∧ x.kind ≤ 7 := by
  rcases h with h | h | h | h | h | h | h
  · exact ⟨fun _ => h.2.1, by omega, by omega, by omega, by omega, by omega, by omega⟩
  · exact ⟨by omega, fun _ => h.2.1, by omega, by omega, by omega, by omega, by omega⟩
  · exact ⟨by omega, by omega, fun _ => h.2.1, by omega, by omega, by omega, by omega⟩
  · exact ⟨by omega, by omega, by omega, by omega, by omega, by omega, by omega⟩
  · exact ⟨by omega, by omega, by omega, fun _ => h.2.2.2.2, by omega, by omega, by omega⟩
  · exact ⟨by omega, by omega, by omega, by omega, by omega, by omega, by omega⟩
  · exact ⟨by omega, by omega, by omega, by omega, fun _ => ⟨h.2.2.1.1, h.2.2.1.2, h.2.2.2.1.1, h.2.2.2.1.2⟩, by omega, by omega⟩
theorem okModes_code {c : Int} (h0 : 0 ≤ c) (h1 : c ≤ 9223372036854775807) : okModes (c % 4) ((wrap64 (c.tdiv 4)).tmod 4) ((wrap64 (c.tdiv 16)).tmod 4) (wrap64 (c.tdiv 64)) ↔ okCode c := by
  have e4 : c.tdiv 4 = c / 4 := Int.tdiv_eq_ediv_of_nonneg h0
  have e16 : c.tdiv 16 = c / 16 := Int.tdiv_eq_ediv_of_nonneg h0
  have e64 : c.tdiv 64 = c / 64 := Int.tdiv_eq_ediv_of_nonneg h0
  rw [e4, e16, e64, wrap_int (by omega) (by omega), wrap_int (by omega) (by omega), wrap_int (by omega) (by omega), Int.tmod_eq_emod_of_nonneg (by omega), Int.tmod_eq_emod_of_nonneg (by omega)]
  unfold okModes okCode
  omega
theorem three_boxes (w : World) (o1 o3 : Obj) (y : Ev) (A : Option Addr) (m c : Nat) (t : TypeId) (W' : World) (hb : Below (((w.alloc o1).alloc (.cells (ecell12 y A m c) t)).alloc o3).heap.size (((w.alloc o1).alloc (.cells (ecell12 y A m c) t)).alloc o3) W') :
    EvAt W' (w.heap.size + 1) y A m c ∧ (∀ i, W'.frozen? ⟨w.heap.size + 1, i, Option.none⟩ = false) ∧ Below w.heap.size w W' := by
  have h1 := heap_alloc_new (w.alloc o1) (.cells (ecell12 y A m c) t)
  simp only [World.size_alloc] at h1
  have h2 := (Below.heap_alloc ((w.alloc o1).alloc (.cells (ecell12 y A m c) t)) o3 (w.heap.size + 1) (by simp)).trans h1
  have h3 := (hb.block (w.heap.size + 1) (by simp)).trans h2
  exact ⟨EvAt.row h3, fun i => frozen_of_row W' _ i _ _ h3, below_then (below_then (below_then (below_box _ _) (below_box _ _)) (below_box _ _)) hb⟩

def firstE (x : Ev) (m : Nat) : Prop := 0 ≤ x.ses ∧ x.ses ≤ 1048576 ∧ 0 ≤ x.tick ∧ x.tick ≤ 1099511627776 ∧ x.me.size ≤ 512 ∧ x.no.size ≤ 512 ∧ x.url.size ≤ 2048 ∧ x.body.size ≤ 2048 ∧ m ≤ 25

set_option maxHeartbeats 8000000 in
set_option maxRecDepth 100000 in
theorem refGoodE_first (x : Ev) (A : Option Addr) (m c : Nat) (w : World) (h : ¬ firstE x m) :
    Calls Try.prog 12 #[evv x A m c] w fun e w' => e = .returned (.bool false) ∧ Below w.heap.size w w' := by
  have hbel := Lib.hid (below_box w (.cells (ecell12 x A m c) 25))
  obtain ⟨kind, ses, tick, me, url, hs, body, status, code, cred, no, k⟩ := x
  unfold evv
  unfold ecell12 at *
  unfold firstE at h
  simp only at *
  have h' := Lib.hid h
  clear h
  go_enter Try.func12, Try.ntmps12
  go_wp2
  all_goals
    first
      | (go_ret; exact ⟨rfl, hbel.out⟩)
      | (exfalso; have h := h'.out; clear h'; omega)

set_option maxHeartbeats 16000000 in
set_option maxRecDepth 100000 in
theorem refGoodE_second (x : Ev) (A : Option Addr) (m c : Nat) (w : World) (ha : Hds w A m c x.hs) (h : firstE x m) (hcode : x.code ≤ 9223372036854775807) :
    Calls Try.prog 12 #[evv x A m c] w fun e w' => e = .returned (.bool (decide (GoodE x))) ∧ Below w.heap.size w w' := by
  have hbel := Lib.hid (below_box w (.cells (ecell12 x A m c) 25))
  have hA := Lib.hid (ha.later hbel.out)
  have hlen := Lib.hid ha.len
  clear ha
  obtain ⟨kind, ses, tick, me, url, hs, body, status, code, cred, no, k⟩ := x
  unfold evv
  unfold ecell12 at *
  unfold firstE at h
  simp only at *
  obtain ⟨g1, g2, g3, g4, g5, g6, g7, g8, g9⟩ := h
  have f1 : ¬ ses < 0 := by omega
  have f2 : ¬ 1048576 < ses := by omega
  have f3 : ¬ tick < 0 := by omega
  have f4 : ¬ 1099511627776 < tick := by omega
  have f5 : ¬ (512 : Int) < (me.size : Int) := by omega
  have f6 : ¬ (512 : Int) < (no.size : Int) := by omega
  have f7 : ¬ (2048 : Int) < (url.size : Int) := by omega
  have f8 : ¬ (2048 : Int) < (body.size : Int) := by omega
  have f9 : ¬ (25 : Int) < (m : Int) := by omega
  clear g1 g2 g3 g4 g5 g6 g7 g8 g9
  go_enter Try.func12, Try.ntmps12
  go_wp2
  go_loopw [3] (fun i wr => ∃ q : Nat, q ≤ m ∧ i = .int .i64 q ∧ w.alloc (.cells #[.int .i64 kind, .int .i64 ses, .int .i64 tick, .string me, .string url, .slice A m c, .string body, .int .i64 status, .int .i64 code, .bool cred, .string no, .int .u64 (k : Int)] 25) = wr ∧ ∀ j (hj : j < hs.length), j < q → hs[j].1.size ≤ 512 ∧ hs[j].2.size ≤ 2048) (fun i _ => m - (RowKit.intOf i).toNat)
  case atStart => exact ⟨0, Nat.zero_le _, rfl, rfl, fun j _ h => absurd h (by omega)⟩
  case round =>
    obtain ⟨q, hq, rfl, rfl, hall⟩ := hrel
    have hall' := Lib.hid hall
    clear hall
    by_cases hqm : q < m
    · obtain ⟨g, off, rfl, h1, h2⟩ := hA.out.at hqm
      have hql : q < hs.length := by rw [hlen.out]; exact hqm
      obtain ⟨xn, hxn⟩ : ∃ xn, xn = hs[q].1 := ⟨_, rfl⟩
      obtain ⟨xv, hxv⟩ : ∃ xv, xv = hs[q].2 := ⟨_, rfl⟩
      rw [← hxn] at h1
      rw [← hxv] at h2
      have hn' := Lib.hid hxn
      have hv' := Lib.hid hxv
      clear hxn hxv
      by_cases hz : xn.size ≤ 512 ∧ xv.size ≤ 2048
      · have z1 : (xn.size : Int) ≤ 512 := by omega
        have z2 : (xv.size : Int) ≤ 2048 := by omega
        have hz' := Lib.hid hz
        clear hz
        go_wp2
        go_roundw
        case rel =>
          refine ⟨q + 1, by omega, by go_num, trivial, fun j hj hjq => ?_⟩
          by_cases e : j = q
          · subst e
            rw [← hn'.out, ← hv'.out]
            exact hz'.out
          · exact hall'.out j hj (by omega)
        case measure => simp [RowKit.intOf]; omega
      · have hbad : ¬ GoodE ⟨kind, ses, tick, me, url, hs, body, status, code, cred, no, k⟩ := fun hg => hz (by
          have := hg.1.2.2.2.2.2.2.2.2.2 hs[q] (List.getElem_mem hql)
          rw [hn'.out, hv'.out]
          exact this)
        have hbad' := Lib.hid hbad
        have hz' := Lib.hid hz
        clear hbad hz
        go_wp2
        all_goals
          first
            | (go_ret; exact ⟨ret_bool (decide_eq_false hbad'.out).symm, hbel.out⟩)
            | (exfalso; have hz := hz'.out; clear hz'; omega)
    · obtain rfl : m = q := by omega
      have hheads := Lib.hid (fun g (hg : g ∈ hs) => by
        obtain ⟨j, hj, e⟩ := List.getElem_of_mem hg
        have := hall'.out j hj (by rw [← hlen.out]; exact hj)
        rw [e] at this
        exact this : ∀ g ∈ hs, g.1.size ≤ 512 ∧ g.2.size ≤ 2048)
      have hgood : GoodE ⟨kind, ses, tick, me, url, hs, body, status, code, cred, no, k⟩ ↔ kindE ⟨kind, ses, tick, me, url, hs, body, status, code, cred, no, k⟩ := by
        unfold GoodE BoundE
        simp only
        refine and_iff_right ⟨f1, f2, f3, f4, by omega, by omega, by omega, by omega, ?_, hheads.out⟩
        have := hlen.out
        omega
      replace hgood := Lib.hid hgood
      clear hall' hqm hq
      by_cases k1 : kind = 1
      · subst k1
        have hok := Lib.hid (fun W => refGood17_any (code % 4) ((wrap64 (code.tdiv 4)).tmod 4) ((wrap64 (code.tdiv 16)).tmod 4) (wrap64 (code.tdiv 64)) W)
        have hmod := Lib.hid (fun h0 => okModes_code (c := code) h0 hcode)
        clear hcode
        go_wp2_with (first
          | (go_at_call 28; refine (hok.out _).mono ?_; rintro e w2 ⟨rfl, hb2⟩; obtain ⟨y, fz, hbw⟩ := three_boxes w _ _ ⟨0, 0, 0, me, url, hs, body, status, code, cred, no, k⟩ A m c _ _ hb2; have y0 := y.c0; have y1 := y.c1; have y2 := y.c2; have y3 := y.c3; have y4 := y.c4; have y5 := y.c5; have y6 := y.c6; have y7 := y.c7; have y8 := y.c8; have y9 := y.c9; have y10 := y.c10; have y11 := y.c11; simp only at y0 y1 y2 y3 y4 y5 y6 y7 y8 y9 y10 y11; have z3 := fz 3; have z4 := fz 4; have z5 := fz 5; have z6 := fz 6; have z8 := fz 8; have z10 := fz 10; have hbw' := Lib.hid hbw; clear hb2 y fz hbw)
          | (go_at_call 20; refine (zeroE_any ⟨0, 0, 0, nil9, nil9, [], nil9, status, 0, cred, nil9, k⟩ Option.none 0 0 _ (hds_empty _ _ _ (by simp) (fun _ => rfl)) (by omega) ⟨rfl, rfl, rfl⟩).mono ?_; rintro e w3 ⟨rfl, hb3⟩; have hb3' := Lib.hid (below_then (((((((hbw'.out.setCell (by simp) _).setCell (by simp) _).setCell (by simp) _).setCell (by simp) _).setCell (by simp) _).setCell (by simp) _)) hb3); clear hb3))
        all_goals
          go_ret
          first
            | (refine ⟨ret_bool ?_, hb3'.out⟩
               have hg := hgood.out
               have hm := hmod.out
               clear hgood hbel hA hheads hlen hb3' hok hmod
               refine decide_eq_decide.2 (Iff.trans ⟨fun h => ?_, fun h => ?_⟩ hg.symm) <;> clear hg <;> simp_all [kindE, restE]
               done)
            | (refine ⟨ret_bool ?_, ((((((hbw'.out.setCell (by simp) _).setCell (by simp) _).setCell (by simp) _).setCell (by simp) _).setCell (by simp) _).setCell (by simp) _)⟩
               have h := fun h0 h => (hmod.out h0).2 ((kindE_tests (hgood.out.1 h)).1 rfl)
               exact (decide_eq_false (fun h' => by have := h ((kindE_tests (hgood.out.1 h')).1 rfl).1 h'; contradiction)).symm)
            | (refine ⟨ret_bool ?_, below_then (below_then (below_box _ _) (below_box _ _)) (below_box _ _)⟩
               have hg := hgood.out
               exact (decide_eq_false (fun h => by have h := ((kindE_tests (hg.1 h)).1 rfl).1; simp only at h; omega)).symm)
      by_cases k2 : kind = 2
      · subst k2
        go_wp2_with (first
          | (go_at_call 20; refine (zeroE_any ⟨0, 0, 0, nil9, nil9, [], nil9, status, 0, false, no, 0⟩ Option.none 0 0 _ (hds_empty _ _ _ (by simp) (fun _ => rfl)) (by omega) ⟨rfl, rfl, rfl⟩).mono ?_; rintro e w2 ⟨rfl, hb2⟩; have hb2' := Lib.hid (below_then (below_then (below_box _ _) (below_box _ _)) hb2); clear hb2))
        all_goals
          go_ret
          refine ⟨ret_bool ?_, by first | exact hb2'.out | exact below_then (below_box _ _) (below_box _ _)⟩
          have hg := hgood.out
          clear hgood hbel hA hheads hlen
          try clear hb2'
          first
            | exact (decide_eq_false (fun h => by have h := kindE_tests (hg.1 h); clear hg; simp at h; omega)).symm
            | (refine decide_eq_decide.2 (Iff.trans ⟨fun h => ?_, fun h => ?_⟩ hg.symm) <;> clear hg <;> simp_all [kindE, restE, bareE] <;> omega)
            | (refine decide_eq_decide.2 (Iff.trans ⟨fun h => ?_, fun h => ?_⟩ hg.symm) <;> clear hg <;> simp_all [kindE, restE, bareE])
      by_cases k3 : kind = 3
      · subst k3
        go_wp2_with (first
          | (go_at_call 20; refine (zeroE_any ⟨0, 0, 0, me, url, [], nil9, 0, code, cred, no, k⟩ Option.none 0 0 _ (hds_empty _ _ _ (by simp) (fun _ => rfl)) (by omega) ⟨rfl, rfl, rfl⟩).mono ?_; rintro e w2 ⟨rfl, hb2⟩; have hb2' := Lib.hid (below_then (below_then (below_box _ _) (below_box _ _)) hb2); clear hb2))
        all_goals
          go_ret
          refine ⟨ret_bool ?_, by first | exact hb2'.out | exact below_then (below_box _ _) (below_box _ _)⟩
          have hg := hgood.out
          clear hgood hbel hA hheads hlen
          try clear hb2'
          first
            | exact (decide_eq_false (fun h => by have h := kindE_tests (hg.1 h); clear hg; simp at h; omega)).symm
            | (refine decide_eq_decide.2 (Iff.trans ⟨fun h => ?_, fun h => ?_⟩ hg.symm) <;> clear hg <;> simp_all [kindE, restE, bareE] <;> omega)
            | (refine decide_eq_decide.2 (Iff.trans ⟨fun h => ?_, fun h => ?_⟩ hg.symm) <;> clear hg <;> simp_all [kindE, restE, bareE])
      by_cases k4 : kind = 4
      · subst k4
        go_wp2_with (first
          | (go_at_call 20; refine (zeroE_any ⟨0, 0, 0, me, url, hs, body, status, code, cred, no, k⟩ A m c _ (hA.out.later (below_box _ _)) (by omega) ⟨rfl, rfl, rfl⟩).mono ?_; rintro e w2 ⟨rfl, hb2⟩; have hb2' := Lib.hid (below_then (below_then (below_box _ _) (below_box _ _)) hb2); clear hb2))
        all_goals
          go_ret
          refine ⟨ret_bool ?_, by first | exact hb2'.out | exact below_then (below_box _ _) (below_box _ _)⟩
          have hg := hgood.out
          clear hgood hbel hA hheads hlen
          try clear hb2'
          first
            | exact (decide_eq_false (fun h => by have h := kindE_tests (hg.1 h); clear hg; simp at h; omega)).symm
            | (refine decide_eq_decide.2 (Iff.trans ⟨fun h => ?_, fun h => ?_⟩ hg.symm) <;> clear hg <;> simp_all [kindE, restE, bareE] <;> omega)
            | (refine decide_eq_decide.2 (Iff.trans ⟨fun h => ?_, fun h => ?_⟩ hg.symm) <;> clear hg <;> simp_all [kindE, restE, bareE])
      by_cases k5 : kind = 5
      · subst k5
        by_cases hs0 : ses = 0
        · subst hs0
          go_wp2_with (first
            | (go_at_call 20; refine (zeroE_any ⟨0, 0, 0, me, url, hs, body, status, code, cred, no, 0⟩ A m c _ (hA.out.later (below_box _ _)) (by omega) ⟨rfl, rfl, rfl⟩).mono ?_; rintro e w2 ⟨rfl, hb2⟩; have hb2' := Lib.hid (below_then (below_then (below_box _ _) (below_box _ _)) hb2); clear hb2))
          all_goals
            go_ret
            refine ⟨ret_bool ?_, by first | exact hb2'.out | exact below_then (below_box _ _) (below_box _ _)⟩
            have hg := hgood.out
            clear hgood hbel hA hheads hlen
            try clear hb2'
            first
              | exact (decide_eq_false (fun h => by have h := kindE_tests (hg.1 h); clear hg; simp at h; omega)).symm
              | (refine decide_eq_decide.2 (Iff.trans ⟨fun h => ?_, fun h => ?_⟩ hg.symm) <;> clear hg <;> simp_all [kindE, restE, bareE] <;> omega)
              | (refine decide_eq_decide.2 (Iff.trans ⟨fun h => ?_, fun h => ?_⟩ hg.symm) <;> clear hg <;> simp_all [kindE, restE, bareE])
        · go_wp2
          all_goals
            go_ret
            refine ⟨ret_bool ?_, by first | exact below_then (below_box _ _) (below_box _ _)⟩
            have hg := hgood.out
            clear hgood hbel hA hheads hlen
            try clear hb2'
            first
              | exact (decide_eq_false (fun h => by have h := kindE_tests (hg.1 h); clear hg; simp at h; omega)).symm
              | (refine decide_eq_decide.2 (Iff.trans ⟨fun h => ?_, fun h => ?_⟩ hg.symm) <;> clear hg <;> simp_all [kindE, restE, bareE] <;> omega)
              | (refine decide_eq_decide.2 (Iff.trans ⟨fun h => ?_, fun h => ?_⟩ hg.symm) <;> clear hg <;> simp_all [kindE, restE, bareE])
      by_cases k6 : kind = 6
      · subst k6
        go_wp2_with (first
          | (go_at_call 20; refine (zeroE_any ⟨0, 0, 0, me, url, hs, body, status, code, cred, no, 0⟩ A m c _ (hA.out.later (below_box _ _)) (by omega) ⟨rfl, rfl, rfl⟩).mono ?_; rintro e w2 ⟨rfl, hb2⟩; have hb2' := Lib.hid (below_then (below_then (below_box _ _) (below_box _ _)) hb2); clear hb2))
        all_goals
          go_ret
          refine ⟨ret_bool ?_, by first | exact hb2'.out | exact below_then (below_box _ _) (below_box _ _)⟩
          have hg := hgood.out
          clear hgood hbel hA hheads hlen
          try clear hb2'
          first
            | exact (decide_eq_false (fun h => by have h := kindE_tests (hg.1 h); clear hg; simp at h; omega)).symm
            | (refine decide_eq_decide.2 (Iff.trans ⟨fun h => ?_, fun h => ?_⟩ hg.symm) <;> clear hg <;> simp_all [kindE, restE, bareE] <;> omega)
            | (refine decide_eq_decide.2 (Iff.trans ⟨fun h => ?_, fun h => ?_⟩ hg.symm) <;> clear hg <;> simp_all [kindE, restE, bareE])
      by_cases k7 : kind = 7
      · subst k7
        go_wp2_with (first
          | (go_at_call 20; refine (zeroE_any ⟨0, 0, 0, me, url, hs, body, 0, 0, cred, no, k⟩ A m c _ (hA.out.later (below_box _ _)) (by omega) ⟨rfl, rfl, rfl⟩).mono ?_; rintro e w2 ⟨rfl, hb2⟩; have hb2' := Lib.hid (below_then (below_then (below_box _ _) (below_box _ _)) hb2); clear hb2))
        all_goals
          go_ret
          refine ⟨ret_bool ?_, by first | exact hb2'.out | exact below_then (below_box _ _) (below_box _ _)⟩
          have hg := hgood.out
          clear hgood hbel hA hheads hlen
          try clear hb2'
          first
            | exact (decide_eq_false (fun h => by have h := kindE_tests (hg.1 h); clear hg; simp at h; omega)).symm
            | (refine decide_eq_decide.2 (Iff.trans ⟨fun h => ?_, fun h => ?_⟩ hg.symm) <;> clear hg <;> simp_all [kindE, restE, bareE] <;> omega)
            | (refine decide_eq_decide.2 (Iff.trans ⟨fun h => ?_, fun h => ?_⟩ hg.symm) <;> clear hg <;> simp_all [kindE, restE, bareE])
      go_wp2
      all_goals
        go_ret
        refine ⟨ret_bool ?_, by first | exact hb2'.out | exact below_then (below_box _ _) (below_box _ _)⟩
        have hg := hgood.out
        clear hgood hbel hA hheads hlen
        try clear hb2'
        first
          | exact (decide_eq_false (fun h => by have h := kindE_tests (hg.1 h); clear hg; simp at h; omega)).symm
          | (refine decide_eq_decide.2 (Iff.trans ⟨fun h => ?_, fun h => ?_⟩ hg.symm) <;> clear hg <;> simp_all [kindE, restE, bareE] <;> omega)
          | (refine decide_eq_decide.2 (Iff.trans ⟨fun h => ?_, fun h => ?_⟩ hg.symm) <;> clear hg <;> simp_all [kindE, restE, bareE])

theorem refGoodE_any (x : Ev) (A : Option Addr) (m c : Nat) (w : World) (ha : Hds w A m c x.hs) (hcode : x.code ≤ 9223372036854775807) :
    Calls Try.prog 12 #[evv x A m c] w fun e w' => e = .returned (.bool (decide (GoodE x))) ∧ Below w.heap.size w w' := by
  by_cases h : firstE x m
  · exact refGoodE_second x A m c w ha h hcode
  · have hn : ¬ GoodE x := fun hg => h (by
      obtain ⟨b1, b2, b3, b4, b5, b6, b7, b8, b9, _⟩ := hg.1
      have := ha.len
      exact ⟨b1, b2, b3, b4, b5, b6, b7, b8, by omega⟩)
    rw [decide_eq_false hn]
    exact refGoodE_first x A m c w h
end Go.Proofs.Ytodncamohimmmaa
