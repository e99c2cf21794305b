/-
  Texts of one sort, one behind the other: numbers, memory, regions, strings, headers. Conditions: those that each theorem states.
-/
import Derived.Test.YtodncamohimmmaaLow12
import Derived.Test.YtodncamohimmmaaDelRefTake
import Derived.Test.YtodncamohimmmaaDelNum
import Derived.Test.YtodncamohimmmaaLow13
import Derived.Test.YtodncamohimmmaaDelRefTakeM

namespace Go.Proofs.Ytodncamohimmmaa
open Go.RowKit Go.Lib Go.Maps Go.WideMaps Leb

theorem hds_none0 (w : World) : Hds w Option.none 0 0 [] := ⟨rfl, Nat.le_refl _, Nat.zero_le _, fun _ => rfl, fun h => absurd h (Nat.lt_irrefl _)⟩
theorem hdO_none0 (w : World) (S : Nat → Prop) : HdO w Option.none 0 0 [] S := ⟨hds_none0 w, fun _ _ e => by cases e⟩
def THs (w : World) (b : Nat) (S : Nat → Prop) (r : DS) (en : Ending) (w' : World) : Prop :=
  ∃ v S', en = .returned (.tuple #[v, .int .i64 r.q, .int .i64 r.e]) ∧ (r.e = 0 → HwO w' w.heap.size v r.hs S') ∧ PStep w w' b S S' r.t
set_option maxHeartbeats 64000000 in
set_option maxRecDepth 100000 in
theorem thds_any (b : Nat) (T : List (List UInt8)) (S : Nat → Prop) (A : Option Addr) (n c : Nat) (X : List Int) (p : Int) (a3 : Nat) (w : World) (h : PTab w b T S) (hT : T.length ≤ 300000) (hX : Holds w A n c X) (hXo : Off S A n) (hn : n ≤ 1000000000) (ha : a3 ≤ 25) :
    Calls Try.prog 92 #[.slice A n c, .int .i64 p, .pointer (some ⟨b, 0, Option.none⟩), .int .u64 (a3 : Int)] w (THs w b S (hsteps X ⟨[], p, 0, T⟩ a3)) := by
  obtain ⟨i0, hi, hz0, hz1, hz2⟩ := info_parts Try.infoHd
  have hX0 := Lib.hid (ByO.mk hX hXo)
  have hn' := Lib.hid hn
  have hlow := Lib.hid h.low
  have hR := Lib.hid h
  have hT9 := Lib.hid hT
  have tok4 : True := trivial
  have tok5 : True := trivial
  clear h hX hXo hn hT
  go_enter Try.func92, Try.ntmps92
  go_wp2
  go_loopw [8, 9, 14] (fun ov pv i wr => ∃ (k : Nat) (hs : List Hd) (q : Int) (T1 : List (List UInt8)) (S1 : Nat → Prop), k ≤ a3 ∧ i = .int .u64 k ∧ pv = .int .i64 q ∧ Hid (hsteps X ⟨[], p, 0, T⟩ k = ⟨hs, q, 0, T1⟩) ∧ PStep w wr b S S1 T1 ∧ HwO wr w.heap.size ov hs S1 ∧ ByO wr A n c X S1 ∧ T1.length ≤ 300000 + 2 * k ∧ hs.length ≤ k) (fun _ _ i _ => a3 - (RowKit.intOf i).toNat)
  case atStart => exact ⟨0, [], p, T, S, Nat.zero_le _, rfl, rfl, Lib.hid rfl, PStep.same hR.out (Below.refl _ _), ⟨World.ownsRow_nil _ _ _ _, fun g e => by cases e⟩, hX0.out, by have := hT9.out; omega, Nat.zero_le _⟩
  case round =>
    obtain ⟨k, hs, q, T1, S1, hk, rfl, rfl, hst, hRS, hO, hXo, hTl, hhl⟩ := hrel
    have hRS := Lib.hid hRS
    have hO := Lib.hid hO
    have hXo := Lib.hid hXo
    by_cases hk3 : k < a3
    · have hnext : hsteps X ⟨[], p, 0, T⟩ (k + 1) = hstep X ⟨hs, q, 0, T1⟩ := by show hstep X (hsteps X ⟨[], p, 0, T⟩ k) = _; rw [hst.out]
      have htk1 := fun W S (h : PTab W b T1 S) (hh : Holds W A n c X) => takeP_any b T1 S A n c X q W h (by omega) hh (by have := hn'.out; omega)
      have htl1 := takeL_len T1 X q
      obtain ⟨r1, hr1⟩ : ∃ r, r = takeB T1 X q := ⟨_, rfl⟩
      obtain ⟨T2, hT2⟩ : ∃ T2, T2 = takeL T1 X q := ⟨_, rfl⟩
      simp only [← hr1, ← hT2] at htk1 htl1
      obtain ⟨sx, n1, f1⟩ := r1
      unfold TakeEnd at htk1
      simp only at htk1
      obtain ⟨zx, hzx⟩ : ∃ z, z = mk sx := ⟨_, rfl⟩
      rw [← hzx] at htk1
      have htk1' := Lib.hid htk1
      have hgap := Lib.hid (fun hk => hRS.out.tab.low wr.heap.size hk)
      have hkw : IntKind.u64.wrap ((k : Int) + 1) = ((k + 1 : Nat) : Int) := by rw [IntWalk.u64_in _ ⟨by omega, by omega⟩]; omega
      by_cases hf1 : f1 = 0
      · subst hf1
        have htk2 := fun W S (h : PTab W b T2 S) (hh : Holds W A n c X) => takeP_any b T2 S A n c X n1 W h (by omega) hh (by have := hn'.out; omega)
        have htl2 := takeL_len T2 X n1
        obtain ⟨r2, hr2⟩ : ∃ r, r = takeB T2 X n1 := ⟨_, rfl⟩
        obtain ⟨T3, hT3⟩ : ∃ T3, T3 = takeL T2 X n1 := ⟨_, rfl⟩
        simp only [← hr2, ← hT3] at htk2 htl2
        obtain ⟨sy, n2, f2⟩ := r2
        unfold TakeEnd at htk2
        simp only at htk2
        obtain ⟨zy, hzy⟩ : ∃ z, z = mk sy := ⟨_, rfl⟩
        rw [← hzy] at htk2
        have htk2' := Lib.hid htk2
        by_cases hf2 : f2 = 0
        · subst hf2
          have hs9 := Lib.hid (show hsteps X ⟨[], p, 0, T⟩ (k + 1) = ⟨hs ++ [(zx, zy)], n2, 0, T3⟩ by rw [hnext, hstep_ok (s := ⟨hs, q, 0, T1⟩) rfl hr1.symm hT2.symm hr2.symm hT3.symm, hzx, hzy]; rfl)
          have htl9 := Lib.hid (show T3.length ≤ 300000 + 2 * (k + 1) by omega)
          have hkd : decide ((k : Int) < (a3 : Int)) = true := decide_eq_true (by omega)
          clear hnext htk1 htk2 hr1 hT2 hr2 hT3 hzx hzy htl1 htl2 hst hTl
          go_wp2_with (first
            | (go_at_call 89; have _t := tok4; refine (htk1'.out _ S1 (hRS.out.tab.later (below_box wr _)) (hXo.out.later (below_box wr _)).rd).mono ?_; rintro e w5 ⟨S2, rfl, hs5⟩; have hA5 := Lib.hid (PStep.ahead (below_box wr _) hs5); have hB5 := Lib.hid ((bx_new wr ByteArray.empty ByteArray.empty).alt hs5.alt fun hk => Nat.lt_irrefl _ (hgap.out hk)); have hno5 := Lib.hid (show ¬ S2 wr.heap.size from fun hk => (hs5.new _ hk).elim (fun h1 => Nat.lt_irrefl _ (hgap.out h1)) (fun h1 => Nat.lt_irrefl _ (Nat.lt_of_lt_of_le (by simp) h1))); have hA6 := Lib.hid (hA5.out.set ⟨wr.heap.size, 0, Option.none⟩ (.string zx) (Nat.le_refl _) hno5.out); have c50 := hB5.out.cell0; have f50 := hB5.out.free 0; clear hs5 tok4)
            | (go_at_call 89; have _t := tok5; refine (htk2'.out _ S2 hA6.out.tab (hXo.out.step hA6.out.alt hA6.out.new).rd).mono ?_; rintro e w7 ⟨S3, rfl, hs7⟩; have hA7 := Lib.hid (hA6.out.trans hs7); have hB7 := Lib.hid ((hB5.out.set0 zx).alt hs7.alt hno5.out); have hno7 := Lib.hid (show ¬ S3 wr.heap.size from fun hk => (hs7.new _ hk).elim hno5.out (fun h1 => Nat.lt_irrefl _ (Nat.lt_of_lt_of_le (hB5.out.set0 zx).lt h1))); have hA8 := Lib.hid (hA7.out.set ⟨wr.heap.size, 1, Option.none⟩ (.string zy) (Nat.le_refl _) hno7.out); have hB8 := Lib.hid (hB7.out.set1 zy); have c71 := hB7.out.cell1; have f71 := hB7.out.free 1; have c80 := hB8.out.cell0; have c81 := hB8.out.cell1; have hO8 := Lib.hid (hO.out.step hA8.out.alt hA8.out.new); have hbase8 := Lib.hid (Nat.le_trans hRS.out.alt.size hA8.out.alt.size); clear hs7 tok5)
            | (at_builtin; refine wpList_append_hds_at rfl (.tmp 40) (.tmp 42) 22 rfl w.heap.size i0 Try.underlying22 hi hz0 hz1 hz2 _ hs rfl (hO8.out.own.alloc _) _ 1 1 [(zx, zy)] rfl (hds_one _ _ zx zy (by simp [World.setCell])) (by have := hhl; omega) (Nat.le_trans hbase8.out (below_box _ _).size) ?_; intro v9 w9 hown9 hg9 hat9; have h9 := Lib.hid (PStep.appH (hRS.out.trans hA8.out) hO8.out (hdO_none0 _ _) (hXo.out.step hA8.out.alt hA8.out.new) (hds_none0 _) hX0.out.rd (below_box _ _) hown9 hg9 hat9); clear hown9 hg9 hat9))
          go_roundw
          case rel => exact ⟨k + 1, hs ++ [(zx, zy)], n2, T3, S3, by omega, by go_num, rfl, hs9.out, h9.out.1, h9.out.2.1, h9.out.2.2.2, htl9.out, by rw [List.length_append]; simp; omega⟩
          case measure => simp [RowKit.intOf]; omega
        · have hfin := Lib.hid (show hsteps X ⟨[], p, 0, T⟩ a3 = ⟨hs, 0, f2, T3⟩ by
            have e := hnext.trans (hstep_e2 (s := ⟨hs, q, 0, T1⟩) rfl hr1.symm hT2.symm hr2.symm hT3.symm hf2)
            rw [hsteps_end (k := k + 1) (by rw [e]; exact hf2) (by omega), e])
          have hz2 := eq0_false hf2
          have hf2' := Lib.hid hf2
          have hkd : decide ((k : Int) < (a3 : Int)) = true := decide_eq_true (by omega)
          clear hnext htk1 htk2 hr1 hT2 hr2 hT3 hzx hzy htl1 htl2 hst hTl
          go_wp2_with (first
            | (go_at_call 89; have _t := tok4; refine (htk1'.out _ S1 (hRS.out.tab.later (below_box wr _)) (hXo.out.later (below_box wr _)).rd).mono ?_; rintro e w5 ⟨S2, rfl, hs5⟩; have hA5 := Lib.hid (PStep.ahead (below_box wr _) hs5); have hB5 := Lib.hid ((bx_new wr ByteArray.empty ByteArray.empty).alt hs5.alt fun hk => Nat.lt_irrefl _ (hgap.out hk)); have hno5 := Lib.hid (show ¬ S2 wr.heap.size from fun hk => (hs5.new _ hk).elim (fun h1 => Nat.lt_irrefl _ (hgap.out h1)) (fun h1 => Nat.lt_irrefl _ (Nat.lt_of_lt_of_le (by simp) h1))); have hA6 := Lib.hid (hA5.out.set ⟨wr.heap.size, 0, Option.none⟩ (.string zx) (Nat.le_refl _) hno5.out); have c50 := hB5.out.cell0; have f50 := hB5.out.free 0; clear hs5 tok4)
            | (go_at_call 89; have _t := tok5; refine (htk2'.out _ S2 hA6.out.tab (hXo.out.step hA6.out.alt hA6.out.new).rd).mono ?_; rintro e w7 ⟨S3, rfl, hs7⟩; have hA7 := Lib.hid (hA6.out.trans hs7); have hB7 := Lib.hid ((hB5.out.set0 zx).alt hs7.alt hno5.out); have hno7 := Lib.hid (show ¬ S3 wr.heap.size from fun hk => (hs7.new _ hk).elim hno5.out (fun h1 => Nat.lt_irrefl _ (Nat.lt_of_lt_of_le (hB5.out.set0 zx).lt h1))); have hA8 := Lib.hid (hA7.out.set ⟨wr.heap.size, 1, Option.none⟩ (.string zy) (Nat.le_refl _) hno7.out); have hB8 := Lib.hid (hB7.out.set1 zy); have c71 := hB7.out.cell1; have f71 := hB7.out.free 1; have c80 := hB8.out.cell0; have c81 := hB8.out.cell1; have hO8 := Lib.hid (hO.out.step hA8.out.alt hA8.out.new); have hbase8 := Lib.hid (Nat.le_trans hRS.out.alt.size hA8.out.alt.size); clear hs7 tok5))
          go_ret3
          rw [hfin.out]
          exact ⟨.slice Option.none 0 0, S3, rfl, fun h => absurd h hf2'.out, hRS.out.trans hA8.out⟩
      · have hfin := Lib.hid (show hsteps X ⟨[], p, 0, T⟩ a3 = ⟨hs, 0, f1, T2⟩ by
          have e := hnext.trans (hstep_e1 (s := ⟨hs, q, 0, T1⟩) rfl hr1.symm hT2.symm hf1)
          rw [hsteps_end (k := k + 1) (by rw [e]; exact hf1) (by omega), e])
        have hz1 := eq0_false hf1
        have hf1' := Lib.hid hf1
        have hkd : decide ((k : Int) < (a3 : Int)) = true := decide_eq_true (by omega)
        clear hnext htk1 hr1 hT2 hzx htl1 hst hTl
        go_wp2_with (go_at_call 89; have _t := tok4; refine (htk1'.out _ S1 (hRS.out.tab.later (below_box wr _)) (hXo.out.later (below_box wr _)).rd).mono ?_; rintro e w5 ⟨S2, rfl, hs5⟩; have hA5 := Lib.hid (PStep.ahead (below_box wr _) hs5); have hB5 := Lib.hid ((bx_new wr ByteArray.empty ByteArray.empty).alt hs5.alt fun hk => Nat.lt_irrefl _ (hgap.out hk)); have hno5 := Lib.hid (show ¬ S2 wr.heap.size from fun hk => (hs5.new _ hk).elim (fun h1 => Nat.lt_irrefl _ (hgap.out h1)) (fun h1 => Nat.lt_irrefl _ (Nat.lt_of_lt_of_le (by simp) h1))); have hA6 := Lib.hid (hA5.out.set ⟨wr.heap.size, 0, Option.none⟩ (.string zx) (Nat.le_refl _) hno5.out); have c50 := hB5.out.cell0; have f50 := hB5.out.free 0; clear hs5 tok4)
        go_ret3
        rw [hfin.out]
        exact ⟨.slice Option.none 0 0, S2, rfl, fun h => absurd h hf1'.out, hRS.out.trans hA6.out⟩
    · obtain rfl : k = a3 := by omega
      have hkd : decide ((k : Int) < (k : Int)) = false := decide_eq_false (by omega)
      have hst' := Lib.hid hst.out
      clear hst hTl hhl hk hk3
      go_wp2
      go_ret3
      rw [hst'.out]
      exact ⟨_, S1, rfl, fun _ => hO.out, hRS.out⟩
end Go.Proofs.Ytodncamohimmmaa

namespace Go.Proofs.Ytodncamohimmmaa
open Go.RowKit Go.Lib Go.Maps Go.WideMaps Leb

def DTook (w : World) (b : Nat) (S : Nat → Prop) (r : (List Hd × Int × Int) × List (List UInt8)) (en : Ending) (w' : World) : Prop :=
  ∃ v S', en = .returned (.tuple #[v, .int .i64 r.1.2.1, .int .i64 r.1.2.2]) ∧ OwnsH w' w.heap.size v r.1.1 ∧ PStep w w' b S S' r.2 ∧ OffV S' v
section
variable (b : Nat) (T : List (List UInt8)) (S : Nat → Prop) (A : Option Addr) (n c : Nat) (X : List Int) (p : Int) (Aw : Option Addr) (nw cw : Nat) (was : List Hd) (w : World)
set_option maxHeartbeats 32000000 in
set_option maxRecDepth 100000 in
theorem dtake20_e1 {a : Nat} {q1 e : Int} (h1 : take X p = (a, q1, e)) (he : e ≠ 0) (h : PTab w b T S) (hX : Holds w A n c X) : Calls Try.prog 88 #[.slice A n c, .int .i64 p, .pointer (some ⟨b, 0, Option.none⟩), .slice Aw nw cw] w (DTook w b S (([], 0, e), T)) := by
  have hR := Lib.hid h
  have htn := Lib.hid (tnum_e1 A n c X p w h1 he hX)
  obtain ⟨u3, hu3⟩ := und3
  replace hu3 := Lib.hid hu3
  have hz := eq0_false he
  clear h hX h1
  go_enter Try.func88, Try.ntmps88
  go_wp2_with (first
    | (go_at_call 90; refine htn.out.mono ?_; rintro e0 w1 ⟨rfl, hb1⟩; have hb1' := Lib.hid hb1; clear hb1; rw [show d3 0 0 0 = .agg #[.int .u64 0, .int .u64 0, .int .u64 0] from rfl]; obtain ⟨W1, hW1⟩ : ∃ W1, W1 = (w1.alloc (.cells #[.int .u64 0, .int .u64 0, .int .u64 0] 150)).setRow w1.heap.size #[.int .u64 0, .int .u64 0, .int .u64 0] := ⟨_, rfl⟩; have hNa := Lib.hid (heap_alloc_new w1 (.cells #[.int .u64 0, .int .u64 0, .int .u64 0] 150)); have hi3 := Lib.hid (show (Try.prog.info? 150).map (·.size) = some (#[.int .u64 0, .int .u64 0, .int .u64 0] : Array Value).size from info3); have hone := Lib.hid (one3 0 0 0); have hN1 := Lib.hid (show N3 W1 w1.heap.size 0 0 0 by rw [hW1]; exact setRow_heap _ _ _ _ _ _ hNa.out); have hBW := Lib.hid (show Below w.heap.size w W1 by rw [hW1]; exact below_setRow (below_then hb1'.out (below_box w1 _)) hb1'.out.size _); have hsz1 := Lib.hid hb1'.out.size; have hNb := Lib.hid (show W1.heap[w1.heap.size]? = some (.cells #[.int .u64 0, .int .u64 0, .int .u64 0] 150 (0, 0)) from hN1.out); have hW1' := Lib.hid hW1; clear hW1)
    | (with_reducible refine wpList_store_row rfl _ _ _ rfl w1.heap.size #[.int .u64 0, .int .u64 0, .int .u64 0] rfl rfl 150 #[.int .u64 0, .int .u64 0, .int .u64 0] hNa.out hi3.out (Eq.refl _) hone.out ?_; rw [← hW1'.out]; clear hNa hW1'))
  go_ret3
  exact ⟨.slice Option.none 0 0, S, rfl, World.ownsRow_nil _ _ _ _, PStep.same hR.out hBW.out, fun g e => by cases e⟩
set_option maxHeartbeats 32000000 in
set_option maxRecDepth 100000 in
theorem dtake20_e2 {a a2 : Nat} {q1 q2 e : Int} (h1 : take X p = (a, q1, 0)) (h2 : take X q1 = (a2, q2, e)) (he : e ≠ 0) (h : PTab w b T S) (hX : Holds w A n c X) : Calls Try.prog 88 #[.slice A n c, .int .i64 p, .pointer (some ⟨b, 0, Option.none⟩), .slice Aw nw cw] w (DTook w b S (([], 0, e), T)) := by
  have hR := Lib.hid h
  have htn := Lib.hid (tnum_e2 A n c X p w h1 h2 he hX)
  obtain ⟨u3, hu3⟩ := und3
  replace hu3 := Lib.hid hu3
  have hz := eq0_false he
  clear h hX h1 h2
  go_enter Try.func88, Try.ntmps88
  go_wp2_with (first
    | (go_at_call 90; refine htn.out.mono ?_; rintro e0 w1 ⟨rfl, hb1⟩; have hb1' := Lib.hid hb1; clear hb1; rw [show d3 0 0 0 = .agg #[.int .u64 0, .int .u64 0, .int .u64 0] from rfl]; obtain ⟨W1, hW1⟩ : ∃ W1, W1 = (w1.alloc (.cells #[.int .u64 0, .int .u64 0, .int .u64 0] 150)).setRow w1.heap.size #[.int .u64 0, .int .u64 0, .int .u64 0] := ⟨_, rfl⟩; have hNa := Lib.hid (heap_alloc_new w1 (.cells #[.int .u64 0, .int .u64 0, .int .u64 0] 150)); have hi3 := Lib.hid (show (Try.prog.info? 150).map (·.size) = some (#[.int .u64 0, .int .u64 0, .int .u64 0] : Array Value).size from info3); have hone := Lib.hid (one3 0 0 0); have hN1 := Lib.hid (show N3 W1 w1.heap.size 0 0 0 by rw [hW1]; exact setRow_heap _ _ _ _ _ _ hNa.out); have hBW := Lib.hid (show Below w.heap.size w W1 by rw [hW1]; exact below_setRow (below_then hb1'.out (below_box w1 _)) hb1'.out.size _); have hsz1 := Lib.hid hb1'.out.size; have hNb := Lib.hid (show W1.heap[w1.heap.size]? = some (.cells #[.int .u64 0, .int .u64 0, .int .u64 0] 150 (0, 0)) from hN1.out); have hW1' := Lib.hid hW1; clear hW1)
    | (with_reducible refine wpList_store_row rfl _ _ _ rfl w1.heap.size #[.int .u64 0, .int .u64 0, .int .u64 0] rfl rfl 150 #[.int .u64 0, .int .u64 0, .int .u64 0] hNa.out hi3.out (Eq.refl _) hone.out ?_; rw [← hW1'.out]; clear hNa hW1'))
  go_ret3
  exact ⟨.slice Option.none 0 0, S, rfl, World.ownsRow_nil _ _ _ _, PStep.same hR.out hBW.out, fun g e => by cases e⟩
set_option maxHeartbeats 32000000 in
set_option maxRecDepth 100000 in
theorem dtake20_e3 {a a2 a3 : Nat} {q1 q2 q3 e : Int} (h1 : take X p = (a, q1, 0)) (h2 : take X q1 = (a2, q2, 0)) (h3 : take X q2 = (a3, q3, e)) (he : e ≠ 0) (h : PTab w b T S) (hX : Holds w A n c X) : Calls Try.prog 88 #[.slice A n c, .int .i64 p, .pointer (some ⟨b, 0, Option.none⟩), .slice Aw nw cw] w (DTook w b S (([], 0, e), T)) := by
  have hR := Lib.hid h
  have htn := Lib.hid (tnum_e3 A n c X p w h1 h2 h3 he hX)
  obtain ⟨u3, hu3⟩ := und3
  replace hu3 := Lib.hid hu3
  have hz := eq0_false he
  clear h hX h1 h2 h3
  go_enter Try.func88, Try.ntmps88
  go_wp2_with (first
    | (go_at_call 90; refine htn.out.mono ?_; rintro e0 w1 ⟨rfl, hb1⟩; have hb1' := Lib.hid hb1; clear hb1; rw [show d3 0 0 0 = .agg #[.int .u64 0, .int .u64 0, .int .u64 0] from rfl]; obtain ⟨W1, hW1⟩ : ∃ W1, W1 = (w1.alloc (.cells #[.int .u64 0, .int .u64 0, .int .u64 0] 150)).setRow w1.heap.size #[.int .u64 0, .int .u64 0, .int .u64 0] := ⟨_, rfl⟩; have hNa := Lib.hid (heap_alloc_new w1 (.cells #[.int .u64 0, .int .u64 0, .int .u64 0] 150)); have hi3 := Lib.hid (show (Try.prog.info? 150).map (·.size) = some (#[.int .u64 0, .int .u64 0, .int .u64 0] : Array Value).size from info3); have hone := Lib.hid (one3 0 0 0); have hN1 := Lib.hid (show N3 W1 w1.heap.size 0 0 0 by rw [hW1]; exact setRow_heap _ _ _ _ _ _ hNa.out); have hBW := Lib.hid (show Below w.heap.size w W1 by rw [hW1]; exact below_setRow (below_then hb1'.out (below_box w1 _)) hb1'.out.size _); have hsz1 := Lib.hid hb1'.out.size; have hNb := Lib.hid (show W1.heap[w1.heap.size]? = some (.cells #[.int .u64 0, .int .u64 0, .int .u64 0] 150 (0, 0)) from hN1.out); have hW1' := Lib.hid hW1; clear hW1)
    | (with_reducible refine wpList_store_row rfl _ _ _ rfl w1.heap.size #[.int .u64 0, .int .u64 0, .int .u64 0] rfl rfl 150 #[.int .u64 0, .int .u64 0, .int .u64 0] hNa.out hi3.out (Eq.refl _) hone.out ?_; rw [← hW1'.out]; clear hNa hW1'))
  go_ret3
  exact ⟨.slice Option.none 0 0, S, rfl, World.ownsRow_nil _ _ _ _, PStep.same hR.out hBW.out, fun g e => by cases e⟩
set_option maxHeartbeats 32000000 in
set_option maxRecDepth 100000 in
theorem dtake20_n1 {a a2 a3 : Nat} {q1 q2 q3 : Int} (h1 : take X p = (a, q1, 0)) (h2 : take X q1 = (a2, q2, 0)) (h3 : take X q2 = (a3, q3, 0)) (hnw : nw ≤ 1000) (g1 : nw < a) (h : PTab w b T S) (hX : Holds w A n c X) : Calls Try.prog 88 #[.slice A n c, .int .i64 p, .pointer (some ⟨b, 0, Option.none⟩), .slice Aw nw cw] w (DTook w b S (([], 0, 5), T)) := by
  have hR := Lib.hid h
  have htn := Lib.hid (tnum_ok A n c X p w h1 h2 h3 hX)
  obtain ⟨u3, hu3⟩ := und3
  replace hu3 := Lib.hid hu3
  have hck := Lib.hid (fun W => check_n1 (a := a) (a2 := a2) (a3 := a3) (m := nw) g1 W)
  unfold d3 at hck
  have hwn : IntKind.u64.wrap (nw : Int) = nw := wrap_of (show U64 nw by unfold U64; omega)
  clear h hX h1 h2 h3
  go_enter Try.func88, Try.ntmps88
  go_wp2_with (first
    | (go_at_call 90; refine htn.out.mono ?_; rintro e0 w1 ⟨rfl, hb1⟩; have hb1' := Lib.hid hb1; clear hb1; dsimp only [d3]; obtain ⟨W1, hW1⟩ : ∃ W1, W1 = (w1.alloc (.cells #[.int .u64 0, .int .u64 0, .int .u64 0] 150)).setRow w1.heap.size #[.int .u64 (a : Int), .int .u64 (a2 : Int), .int .u64 (a3 : Int)] := ⟨_, rfl⟩; have hNa := Lib.hid (heap_alloc_new w1 (.cells #[.int .u64 0, .int .u64 0, .int .u64 0] 150)); have hi3 := Lib.hid (show (Try.prog.info? 150).map (·.size) = some (#[.int .u64 (a : Int), .int .u64 (a2 : Int), .int .u64 (a3 : Int)] : Array Value).size from info3); have hone := Lib.hid (one3 a a2 a3); have hN1 := Lib.hid (show N3 W1 w1.heap.size a a2 a3 by rw [hW1]; exact setRow_heap _ _ _ _ _ _ hNa.out); have hBW := Lib.hid (show Below w.heap.size w W1 by rw [hW1]; exact below_setRow (below_then hb1'.out (below_box w1 _)) hb1'.out.size _); have hsz1 := Lib.hid hb1'.out.size; have hNb := Lib.hid (show W1.heap[w1.heap.size]? = some (.cells #[.int .u64 (a : Int), .int .u64 (a2 : Int), .int .u64 (a3 : Int)] 150 (0, 0)) from hN1.out); have hW1' := Lib.hid hW1; clear hW1)
    | (with_reducible refine wpList_store_row rfl _ _ _ rfl w1.heap.size #[.int .u64 (a : Int), .int .u64 (a2 : Int), .int .u64 (a3 : Int)] rfl rfl 150 #[.int .u64 0, .int .u64 0, .int .u64 0] hNa.out hi3.out (Eq.refl _) hone.out ?_; rw [← hW1'.out]; clear hNa hW1')
    | (with_reducible refine wpList_load_row rfl _ _ rfl w1.heap.size rfl 150 #[.int .u64 (a : Int), .int .u64 (a2 : Int), .int .u64 (a3 : Int)] (0, 0) (.array u3 23) hNb.out hu3.out rfl hi3.out ?_)
    | (go_at_call 91; refine (hck.out W1).mono ?_; rintro e w2 ⟨rfl, hb2⟩; have hb2' := Lib.hid (below_then hBW.out hb2); clear hb2))
  go_ret3
  exact ⟨.slice Option.none 0 0, S, rfl, World.ownsRow_nil _ _ _ _, PStep.same hR.out hb2'.out, fun g e => by cases e⟩
set_option maxHeartbeats 32000000 in
set_option maxRecDepth 100000 in
theorem dtake20_n2 {a a2 a3 : Nat} {q1 q2 q3 : Int} (h1 : take X p = (a, q1, 0)) (h2 : take X q1 = (a2, q2, 0)) (h3 : take X q2 = (a3, q3, 0)) (hnw : nw ≤ 1000) (g1 : a ≤ nw) (g2 : nw < a + a2) (h : PTab w b T S) (hX : Holds w A n c X) : Calls Try.prog 88 #[.slice A n c, .int .i64 p, .pointer (some ⟨b, 0, Option.none⟩), .slice Aw nw cw] w (DTook w b S (([], 0, 5), T)) := by
  have hR := Lib.hid h
  have htn := Lib.hid (tnum_ok A n c X p w h1 h2 h3 hX)
  obtain ⟨u3, hu3⟩ := und3
  replace hu3 := Lib.hid hu3
  have hck := Lib.hid (fun W => check_n2 (a := a) (a2 := a2) (a3 := a3) (m := nw) hnw g1 g2 W)
  unfold d3 at hck
  have hwn : IntKind.u64.wrap (nw : Int) = nw := wrap_of (show U64 nw by unfold U64; omega)
  clear h hX h1 h2 h3
  go_enter Try.func88, Try.ntmps88
  go_wp2_with (first
    | (go_at_call 90; refine htn.out.mono ?_; rintro e0 w1 ⟨rfl, hb1⟩; have hb1' := Lib.hid hb1; clear hb1; dsimp only [d3]; obtain ⟨W1, hW1⟩ : ∃ W1, W1 = (w1.alloc (.cells #[.int .u64 0, .int .u64 0, .int .u64 0] 150)).setRow w1.heap.size #[.int .u64 (a : Int), .int .u64 (a2 : Int), .int .u64 (a3 : Int)] := ⟨_, rfl⟩; have hNa := Lib.hid (heap_alloc_new w1 (.cells #[.int .u64 0, .int .u64 0, .int .u64 0] 150)); have hi3 := Lib.hid (show (Try.prog.info? 150).map (·.size) = some (#[.int .u64 (a : Int), .int .u64 (a2 : Int), .int .u64 (a3 : Int)] : Array Value).size from info3); have hone := Lib.hid (one3 a a2 a3); have hN1 := Lib.hid (show N3 W1 w1.heap.size a a2 a3 by rw [hW1]; exact setRow_heap _ _ _ _ _ _ hNa.out); have hBW := Lib.hid (show Below w.heap.size w W1 by rw [hW1]; exact below_setRow (below_then hb1'.out (below_box w1 _)) hb1'.out.size _); have hsz1 := Lib.hid hb1'.out.size; have hNb := Lib.hid (show W1.heap[w1.heap.size]? = some (.cells #[.int .u64 (a : Int), .int .u64 (a2 : Int), .int .u64 (a3 : Int)] 150 (0, 0)) from hN1.out); have hW1' := Lib.hid hW1; clear hW1)
    | (with_reducible refine wpList_store_row rfl _ _ _ rfl w1.heap.size #[.int .u64 (a : Int), .int .u64 (a2 : Int), .int .u64 (a3 : Int)] rfl rfl 150 #[.int .u64 0, .int .u64 0, .int .u64 0] hNa.out hi3.out (Eq.refl _) hone.out ?_; rw [← hW1'.out]; clear hNa hW1')
    | (with_reducible refine wpList_load_row rfl _ _ rfl w1.heap.size rfl 150 #[.int .u64 (a : Int), .int .u64 (a2 : Int), .int .u64 (a3 : Int)] (0, 0) (.array u3 23) hNb.out hu3.out rfl hi3.out ?_)
    | (go_at_call 91; refine (hck.out W1).mono ?_; rintro e w2 ⟨rfl, hb2⟩; have hb2' := Lib.hid (below_then hBW.out hb2); clear hb2))
  go_ret3
  exact ⟨.slice Option.none 0 0, S, rfl, World.ownsRow_nil _ _ _ _, PStep.same hR.out hb2'.out, fun g e => by cases e⟩
set_option maxHeartbeats 32000000 in
set_option maxRecDepth 100000 in
theorem dtake20_o1 {a a2 a3 : Nat} {q1 q2 q3 : Int} (h1 : take X p = (a, q1, 0)) (h2 : take X q1 = (a2, q2, 0)) (h3 : take X q2 = (a3, q3, 0)) (hnw : nw ≤ 1000) (g1 : a + a2 ≤ nw) (g2 : 25 < a + a2) (h : PTab w b T S) (hX : Holds w A n c X) : Calls Try.prog 88 #[.slice A n c, .int .i64 p, .pointer (some ⟨b, 0, Option.none⟩), .slice Aw nw cw] w (DTook w b S (([], 0, 2), T)) := by
  have hR := Lib.hid h
  have htn := Lib.hid (tnum_ok A n c X p w h1 h2 h3 hX)
  obtain ⟨u3, hu3⟩ := und3
  replace hu3 := Lib.hid hu3
  have hck := Lib.hid (fun W => check_o1 (a := a) (a2 := a2) (a3 := a3) (m := nw) hnw g1 g2 W)
  unfold d3 at hck
  have hwn : IntKind.u64.wrap (nw : Int) = nw := wrap_of (show U64 nw by unfold U64; omega)
  clear h hX h1 h2 h3
  go_enter Try.func88, Try.ntmps88
  go_wp2_with (first
    | (go_at_call 90; refine htn.out.mono ?_; rintro e0 w1 ⟨rfl, hb1⟩; have hb1' := Lib.hid hb1; clear hb1; dsimp only [d3]; obtain ⟨W1, hW1⟩ : ∃ W1, W1 = (w1.alloc (.cells #[.int .u64 0, .int .u64 0, .int .u64 0] 150)).setRow w1.heap.size #[.int .u64 (a : Int), .int .u64 (a2 : Int), .int .u64 (a3 : Int)] := ⟨_, rfl⟩; have hNa := Lib.hid (heap_alloc_new w1 (.cells #[.int .u64 0, .int .u64 0, .int .u64 0] 150)); have hi3 := Lib.hid (show (Try.prog.info? 150).map (·.size) = some (#[.int .u64 (a : Int), .int .u64 (a2 : Int), .int .u64 (a3 : Int)] : Array Value).size from info3); have hone := Lib.hid (one3 a a2 a3); have hN1 := Lib.hid (show N3 W1 w1.heap.size a a2 a3 by rw [hW1]; exact setRow_heap _ _ _ _ _ _ hNa.out); have hBW := Lib.hid (show Below w.heap.size w W1 by rw [hW1]; exact below_setRow (below_then hb1'.out (below_box w1 _)) hb1'.out.size _); have hsz1 := Lib.hid hb1'.out.size; have hNb := Lib.hid (show W1.heap[w1.heap.size]? = some (.cells #[.int .u64 (a : Int), .int .u64 (a2 : Int), .int .u64 (a3 : Int)] 150 (0, 0)) from hN1.out); have hW1' := Lib.hid hW1; clear hW1)
    | (with_reducible refine wpList_store_row rfl _ _ _ rfl w1.heap.size #[.int .u64 (a : Int), .int .u64 (a2 : Int), .int .u64 (a3 : Int)] rfl rfl 150 #[.int .u64 0, .int .u64 0, .int .u64 0] hNa.out hi3.out (Eq.refl _) hone.out ?_; rw [← hW1'.out]; clear hNa hW1')
    | (with_reducible refine wpList_load_row rfl _ _ rfl w1.heap.size rfl 150 #[.int .u64 (a : Int), .int .u64 (a2 : Int), .int .u64 (a3 : Int)] (0, 0) (.array u3 23) hNb.out hu3.out rfl hi3.out ?_)
    | (go_at_call 91; refine (hck.out W1).mono ?_; rintro e w2 ⟨rfl, hb2⟩; have hb2' := Lib.hid (below_then hBW.out hb2); clear hb2))
  go_ret3
  exact ⟨.slice Option.none 0 0, S, rfl, World.ownsRow_nil _ _ _ _, PStep.same hR.out hb2'.out, fun g e => by cases e⟩
set_option maxHeartbeats 32000000 in
set_option maxRecDepth 100000 in
theorem dtake20_o2 {a a2 a3 : Nat} {q1 q2 q3 : Int} (h1 : take X p = (a, q1, 0)) (h2 : take X q1 = (a2, q2, 0)) (h3 : take X q2 = (a3, q3, 0)) (hnw : nw ≤ 1000) (g1 : a + a2 ≤ nw) (g2 : a + a2 ≤ 25) (g3 : 25 < a + a2 + a3) (h : PTab w b T S) (hX : Holds w A n c X) : Calls Try.prog 88 #[.slice A n c, .int .i64 p, .pointer (some ⟨b, 0, Option.none⟩), .slice Aw nw cw] w (DTook w b S (([], 0, 2), T)) := by
  have hR := Lib.hid h
  have htn := Lib.hid (tnum_ok A n c X p w h1 h2 h3 hX)
  obtain ⟨u3, hu3⟩ := und3
  replace hu3 := Lib.hid hu3
  have hck := Lib.hid (fun W => check_o2 (a := a) (a2 := a2) (a3 := a3) (m := nw) hnw g1 g2 g3 W)
  unfold d3 at hck
  have hwn : IntKind.u64.wrap (nw : Int) = nw := wrap_of (show U64 nw by unfold U64; omega)
  clear h hX h1 h2 h3
  go_enter Try.func88, Try.ntmps88
  go_wp2_with (first
    | (go_at_call 90; refine htn.out.mono ?_; rintro e0 w1 ⟨rfl, hb1⟩; have hb1' := Lib.hid hb1; clear hb1; dsimp only [d3]; obtain ⟨W1, hW1⟩ : ∃ W1, W1 = (w1.alloc (.cells #[.int .u64 0, .int .u64 0, .int .u64 0] 150)).setRow w1.heap.size #[.int .u64 (a : Int), .int .u64 (a2 : Int), .int .u64 (a3 : Int)] := ⟨_, rfl⟩; have hNa := Lib.hid (heap_alloc_new w1 (.cells #[.int .u64 0, .int .u64 0, .int .u64 0] 150)); have hi3 := Lib.hid (show (Try.prog.info? 150).map (·.size) = some (#[.int .u64 (a : Int), .int .u64 (a2 : Int), .int .u64 (a3 : Int)] : Array Value).size from info3); have hone := Lib.hid (one3 a a2 a3); have hN1 := Lib.hid (show N3 W1 w1.heap.size a a2 a3 by rw [hW1]; exact setRow_heap _ _ _ _ _ _ hNa.out); have hBW := Lib.hid (show Below w.heap.size w W1 by rw [hW1]; exact below_setRow (below_then hb1'.out (below_box w1 _)) hb1'.out.size _); have hsz1 := Lib.hid hb1'.out.size; have hNb := Lib.hid (show W1.heap[w1.heap.size]? = some (.cells #[.int .u64 (a : Int), .int .u64 (a2 : Int), .int .u64 (a3 : Int)] 150 (0, 0)) from hN1.out); have hW1' := Lib.hid hW1; clear hW1)
    | (with_reducible refine wpList_store_row rfl _ _ _ rfl w1.heap.size #[.int .u64 (a : Int), .int .u64 (a2 : Int), .int .u64 (a3 : Int)] rfl rfl 150 #[.int .u64 0, .int .u64 0, .int .u64 0] hNa.out hi3.out (Eq.refl _) hone.out ?_; rw [← hW1'.out]; clear hNa hW1')
    | (with_reducible refine wpList_load_row rfl _ _ rfl w1.heap.size rfl 150 #[.int .u64 (a : Int), .int .u64 (a2 : Int), .int .u64 (a3 : Int)] (0, 0) (.array u3 23) hNb.out hu3.out rfl hi3.out ?_)
    | (go_at_call 91; refine (hck.out W1).mono ?_; rintro e w2 ⟨rfl, hb2⟩; have hb2' := Lib.hid (below_then hBW.out hb2); clear hb2))
  go_ret3
  exact ⟨.slice Option.none 0 0, S, rfl, World.ownsRow_nil _ _ _ _, PStep.same hR.out hb2'.out, fun g e => by cases e⟩
end
end Go.Proofs.Ytodncamohimmmaa
