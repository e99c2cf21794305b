/-
  The reference's Take of layer 20, where the numbers are good. Conditions: those that each theorem states.
-/
import Derived.Test.YtodncamohimmmaaDelRefTake
namespace Go.Proofs.Ytodncamohimmmaa
open Go.RowKit Go.Lib Go.Maps Go.WideMaps Leb

section
variable (b : Nat) (T : List (List UInt8)) (S : Nat → Prop) (A : Option Addr) (n c : Nat) (X : List Int) (p : Int) (Aw : Option Addr) (nw cw : Nat) (was : List Hd) (w : World)
theorem owns_noneH (W : World) (B : Nat) (hB : B ≤ W.heap.size) : OwnsH (W.alloc (.cells #[] 59)) B (.slice (some ⟨W.heap.size, 0, Option.none⟩) 0 0) [] := by
  have := World.ownsRow_lit (base := B) (size := 2) (e := 59) W #[] 0 hB (by simp) (by simp)
  simpa [OwnsH, hcells] using this

set_option maxHeartbeats 64000000 in
set_option maxRecDepth 100000 in
theorem refDtake_main {a a2 a3 : Nat} {q1 q2 q3 : Int} (h : RTab w b T S) (hT : T.length ≤ 300000) (hX : Holds w A n c X) (hn : n ≤ 1000000000) (hw : Hds w Aw nw cw was) (hnw : nw ≤ 1000) (hwo : Off S Aw nw) (hXo : Off S A n)
    (h1 : take X p = (a, q1, 0)) (h2 : take X q1 = (a2, q2, 0)) (h3 : take X q2 = (a3, q3, 0)) (g0 : a + a2 ≤ nw) (g1 : a + a2 + a3 ≤ 25) :
    Calls Try.prog 48 #[.slice A n c, .int .i64 p, .pointer (some ⟨b, 0, Option.none⟩), .slice Aw nw cw] w (DTookO w b S (dend was a a2 (hsteps X ⟨[], q3, 0, T⟩ a3))) := by
  obtain ⟨i0, hi, hz0, hz1, hz2⟩ := info_parts Try.infoHd
  have hR := Lib.hid h
  have hX' := Lib.hid (ByO.mk hX hXo)
  have hw' := Lib.hid (HdO.mk hw hwo)
  have hwl := Lib.hid hw.len
  have hwc := hw.cap
  have hwr := hw.room
  unfold maxLen at hwr
  have hn' := Lib.hid hn
  have hlow := Lib.hid h.low
  have hk1 := fun W hW => refTake_any A n c X p W (hX.later hW)
  simp only [h1] at hk1
  have hk1' := Lib.hid hk1
  have tok1 : True := trivial
  have hk2 := fun W hW => refTake_any A n c X q1 W (hX.later hW)
  simp only [h2] at hk2
  have hk2' := Lib.hid hk2
  have tok2 : True := trivial
  have hk3 := fun W hW => refTake_any A n c X q2 W (hX.later hW)
  simp only [h3] at hk3
  have hk3' := Lib.hid hk3
  have tok3 : True := trivial
  have hwn : IntKind.u64.wrap (nw : Int) = nw := wrap_of (show U64 nw by unfold U64; omega)
  have d1 : decide ((nw : Int) < (a : Int)) = false := decide_eq_false (by omega)
  have d2 : decide ((nw : Int) < (a2 : Int)) = false := decide_eq_false (by omega)
  have hsum : IntKind.u64.wrap ((a : Int) + (a2 : Int)) = ((a + a2 : Nat) : Int) := by rw [IntWalk.u64_in _ ⟨by omega, by omega⟩]; omega
  have d3 : decide ((nw : Int) < ((a : Int) + (a2 : Int))) = false := decide_eq_false (by omega)
  have d4 : decide ((25 : Int) < (a3 : Int)) = false := decide_eq_false (by omega)
  have hsum3 : IntKind.u64.wrap ((a : Int) + (a2 : Int) + (a3 : Int)) = ((a + a2 + a3 : Nat) : Int) := by rw [IntWalk.u64_in _ ⟨by omega, by omega⟩]; omega
  have d5 : decide ((25 : Int) < ((a : Int) + (a2 : Int) + (a3 : Int))) = false := decide_eq_false (by omega)
  have wa : IntKind.i64.wrap (a : Int) = a := IntWalk.i64_in _ ⟨by omega, by omega⟩
  have wa2 : IntKind.i64.wrap (a2 : Int) = a2 := IntWalk.i64_in _ ⟨by omega, by omega⟩
  have wa3 : IntKind.i64.wrap (a3 : Int) = a3 := IntWalk.i64_in _ ⟨by omega, by omega⟩
  have ha : a ≤ nw := by omega
  have tok4 : True := trivial
  have tok5 : True := trivial
  have hnil := Lib.hid (fun W hW => owns_noneH W w.heap.size hW)
  clear h hX hw hwo hXo h1 h2 h3 hk1 hk2 hk3 hn
  go_enter Try.func48, Try.ntmps48
  go_wp2_with (first
    | (go_at_call 46; have _t := tok1; refine (hk1'.out _ (Below.refl _ _)).mono ?_; rintro e9 w1 ⟨rfl, hb⟩; have hb1' := Lib.hid hb; clear hb tok1 hk1')
    | (go_at_call 46; have _t := tok2; refine (hk2'.out _ (hb1'.out)).mono ?_; rintro e9 w2 ⟨rfl, hb⟩; have hb2' := Lib.hid (below_then hb1'.out hb); clear hb tok2 hk2')
    | (go_at_call 46; have _t := tok3; refine (hk3'.out _ (hb2'.out)).mono ?_; rintro e9 w3 ⟨rfl, hb⟩; have hb3' := Lib.hid (below_then hb2'.out hb); clear hb tok3 hk3')
    | (at_builtin; refine wpList_append_hds rfl (.tmp 79) (.tmp 83) 22 rfl w.heap.size i0 Try.underlying22 hi hz0 hz1 hz2 _ [] rfl (hnil.out w3 hb3'.out.size) Aw a cw (was.take a) rfl (((hw'.out.rd.later hb3'.out).later (below_box w3 _)).front ha) (by simp; omega) (by have := hb3'.out.size; simp; omega) ?_; intro v4 w4 hown4 hg4; have hb4' := Lib.hid (OwnsH.below (hnil.out w3 hb3'.out.size) (hb3'.out.alloc hb3'.out.size _) hg4 (by have := hb3'.out.size; simp; omega)); rw [List.nil_append] at hown4; have hown4' := Lib.hid hown4; clear hown4 hg4))
  have hT9 := Lib.hid hT
  clear d1 d2 d3 d4 d5 hsum hsum3 hT
  go_loopw [1, 16, 17] (fun pv ov i wr => ∃ (k : Nat) (hs : List Hd) (q : Int) (T1 : List (List UInt8)) (S1 : Nat → Prop), k ≤ a3 ∧ i = .int .i64 k ∧ pv = .int .i64 q ∧ Hid (hsteps X ⟨[], q3, 0, T⟩ k = ⟨hs, q, 0, T1⟩) ∧ RStep w wr b S S1 T1 ∧ HwO wr w.heap.size ov (was.take a ++ hs) S1 ∧ HdO wr Aw nw cw was S1 ∧ ByO wr A n c X S1 ∧ T1.length ≤ 300000 + 2 * k ∧ hs.length ≤ k) (fun _ _ i _ => a3 - (RowKit.intOf i).toNat)
  case atStart => exact ⟨0, [], q3, T, S, Nat.zero_le _, rfl, rfl, Lib.hid rfl, RStep.same hR.out hb4'.out, ⟨by simpa using hown4'.out, hown4'.out.off hlow.out⟩, hw'.out.later hb4'.out, hX'.out.later hb4'.out, by have := hT9.out; omega, Nat.zero_le _⟩
  case round =>
    obtain ⟨k, hs, q, T1, S1, hk, rfl, rfl, hst, hRS, hO, hW, hXo, hTl, hhl⟩ := hrel
    have hRS := Lib.hid hRS
    have hO := Lib.hid hO
    have hW := Lib.hid hW
    have hXo := Lib.hid hXo
    by_cases hk3 : k < a3
    · have hnext : hsteps X ⟨[], q3, 0, T⟩ (k + 1) = hstep X ⟨hs, q, 0, T1⟩ := by show hstep X (hsteps X ⟨[], q3, 0, T⟩ k) = _; rw [hst.out]
      have htk1 := fun W S (h : RTab W b T1 S) (hh : Holds W A n c X) => takeR_any b T1 S A n c X q W h (by omega) hh (by have := hn'.out; omega)
      have htl1 := takeL_len T1 X q
      obtain ⟨r1, hr1⟩ : ∃ r, r = takeB T1 X q := ⟨_, rfl⟩
      obtain ⟨T2, hT2⟩ : ∃ T2, T2 = takeL T1 X q := ⟨_, rfl⟩
      simp only [← hr1, ← hT2] at htk1 htl1
      obtain ⟨sx, n1, f1⟩ := r1
      unfold TakeEndR at htk1
      simp only at htk1
      obtain ⟨zx, hzx⟩ : ∃ z, z = mk sx := ⟨_, rfl⟩
      rw [← hzx] at htk1
      have htk1' := Lib.hid htk1
      have hgap := Lib.hid (fun hk => hRS.out.tab.low wr.heap.size hk)
      by_cases hf1 : f1 = 0
      · subst hf1
        have htk2 := fun W S (h : RTab W b T2 S) (hh : Holds W A n c X) => takeR_any b T2 S A n c X n1 W h (by omega) hh (by have := hn'.out; omega)
        have htl2 := takeL_len T2 X n1
        obtain ⟨r2, hr2⟩ : ∃ r, r = takeB T2 X n1 := ⟨_, rfl⟩
        obtain ⟨T3, hT3⟩ : ∃ T3, T3 = takeL T2 X n1 := ⟨_, rfl⟩
        simp only [← hr2, ← hT3] at htk2 htl2
        obtain ⟨sy, n2, f2⟩ := r2
        unfold TakeEndR at htk2
        simp only at htk2
        obtain ⟨zy, hzy⟩ : ∃ z, z = mk sy := ⟨_, rfl⟩
        rw [← hzy] at htk2
        have htk2' := Lib.hid htk2
        by_cases hf2 : f2 = 0
        · subst hf2
          have hs9 := Lib.hid (show hsteps X ⟨[], q3, 0, T⟩ (k + 1) = ⟨hs ++ [(zx, zy)], n2, 0, T3⟩ by rw [hnext, hstep_ok (s := ⟨hs, q, 0, T1⟩) rfl hr1.symm hT2.symm hr2.symm hT3.symm, hzx, hzy]; rfl)
          have htl9 := Lib.hid (show T3.length ≤ 300000 + 2 * (k + 1) by omega)
          have hkd : decide ((k : Int) < (a3 : Int)) = true := decide_eq_true (by omega)
          clear hnext htk1 htk2 hr1 hT2 hr2 hT3 hzx hzy htl1 htl2 hst hTl
          go_wp2_with (first
            | (go_at_call 47; have _t := tok4; refine (htk1'.out _ S1 (hRS.out.tab.later (below_box wr _)) (hXo.out.later (below_box wr _)).rd).mono ?_; rintro e w5 ⟨S2, rfl, hs5⟩; have hA5 := Lib.hid (RStep.ahead (below_box wr _) hs5); have hB5 := Lib.hid ((bx_new wr ByteArray.empty ByteArray.empty).alt hs5.alt fun hk => Nat.lt_irrefl _ (hgap.out hk)); have hno5 := Lib.hid (show ¬ S2 wr.heap.size from fun hk => (hs5.new _ hk).elim (fun h1 => Nat.lt_irrefl _ (hgap.out h1)) (fun h1 => Nat.lt_irrefl _ (Nat.lt_of_lt_of_le (by simp) h1))); have hA6 := Lib.hid (hA5.out.set ⟨wr.heap.size, 0, Option.none⟩ (.string zx) (Nat.le_refl _) hno5.out); have c50 := hB5.out.cell0; have f50 := hB5.out.free 0; clear hs5 tok4)
            | (go_at_call 47; have _t := tok5; refine (htk2'.out _ S2 hA6.out.tab (hXo.out.step hA6.out.alt hA6.out.new).rd).mono ?_; rintro e w7 ⟨S3, rfl, hs7⟩; have hA7 := Lib.hid (hA6.out.trans hs7); have hB7 := Lib.hid ((hB5.out.set0 zx).alt hs7.alt hno5.out); have hno7 := Lib.hid (show ¬ S3 wr.heap.size from fun hk => (hs7.new _ hk).elim hno5.out (fun h1 => Nat.lt_irrefl _ (Nat.lt_of_lt_of_le (hB5.out.set0 zx).lt h1))); have hA8 := Lib.hid (hA7.out.set ⟨wr.heap.size, 1, Option.none⟩ (.string zy) (Nat.le_refl _) hno7.out); have hB8 := Lib.hid (hB7.out.set1 zy); have c71 := hB7.out.cell1; have f71 := hB7.out.free 1; have c80 := hB8.out.cell0; have c81 := hB8.out.cell1; have hO8 := Lib.hid (hO.out.step hA8.out.alt hA8.out.new); have hbase8 := Lib.hid (Nat.le_trans hRS.out.alt.size hA8.out.alt.size); clear hs7 tok5)
            | (at_builtin; refine wpList_append_hds_at rfl (.tmp 116) (.tmp 118) 22 rfl w.heap.size i0 Try.underlying22 hi hz0 hz1 hz2 _ (was.take a ++ hs) rfl (hO8.out.own.alloc _) _ 1 1 [(zx, zy)] rfl (hds_one _ _ zx zy (by simp [World.setCell])) (by have := hhl; have := List.length_take_le a was; rw [List.length_append]; omega) (Nat.le_trans hbase8.out (below_box _ _).size) ?_; intro v9 w9 hown9 hg9 hat9; have h9 := Lib.hid (RStep.appH (hRS.out.trans hA8.out) hO8.out (hW.out.step hA8.out.alt hA8.out.new) (hXo.out.step hA8.out.alt hA8.out.new) hw'.out.rd hX'.out.rd (below_box _ _) hown9 hg9 hat9); clear hown9 hg9 hat9))
          go_roundw
          case rel => exact ⟨k + 1, hs ++ [(zx, zy)], n2, T3, S3, by omega, by go_num, rfl, hs9.out, h9.out.1, by rw [← List.append_assoc]; exact h9.out.2.1, h9.out.2.2.1, h9.out.2.2.2, htl9.out, by rw [List.length_append]; simp; omega⟩
          case measure => simp [RowKit.intOf]; omega
        · have hfin := Lib.hid (show dend was a a2 (hsteps X ⟨[], q3, 0, T⟩ a3) = (([], 0, f2), T3) by
            have e := hnext.trans (hstep_e2 (s := ⟨hs, q, 0, T1⟩) rfl hr1.symm hT2.symm hr2.symm hT3.symm hf2)
            rw [hsteps_end (k := k + 1) (by rw [e]; exact hf2) (by omega), e]
            exact dend_bad hf2)
          have hz2 := eq0_false hf2
          have hkd : decide ((k : Int) < (a3 : Int)) = true := decide_eq_true (by omega)
          clear hnext htk1 htk2 hr1 hT2 hr2 hT3 hzx hzy htl1 htl2 hst hTl
          go_wp2_with (first
            | (go_at_call 47; have _t := tok4; refine (htk1'.out _ S1 (hRS.out.tab.later (below_box wr _)) (hXo.out.later (below_box wr _)).rd).mono ?_; rintro e w5 ⟨S2, rfl, hs5⟩; have hA5 := Lib.hid (RStep.ahead (below_box wr _) hs5); have hB5 := Lib.hid ((bx_new wr ByteArray.empty ByteArray.empty).alt hs5.alt fun hk => Nat.lt_irrefl _ (hgap.out hk)); have hno5 := Lib.hid (show ¬ S2 wr.heap.size from fun hk => (hs5.new _ hk).elim (fun h1 => Nat.lt_irrefl _ (hgap.out h1)) (fun h1 => Nat.lt_irrefl _ (Nat.lt_of_lt_of_le (by simp) h1))); have hA6 := Lib.hid (hA5.out.set ⟨wr.heap.size, 0, Option.none⟩ (.string zx) (Nat.le_refl _) hno5.out); have c50 := hB5.out.cell0; have f50 := hB5.out.free 0; clear hs5 tok4)
            | (go_at_call 47; have _t := tok5; refine (htk2'.out _ S2 hA6.out.tab (hXo.out.step hA6.out.alt hA6.out.new).rd).mono ?_; rintro e w7 ⟨S3, rfl, hs7⟩; have hA7 := Lib.hid (hA6.out.trans hs7); have hB7 := Lib.hid ((hB5.out.set0 zx).alt hs7.alt hno5.out); have hno7 := Lib.hid (show ¬ S3 wr.heap.size from fun hk => (hs7.new _ hk).elim hno5.out (fun h1 => Nat.lt_irrefl _ (Nat.lt_of_lt_of_le (hB5.out.set0 zx).lt h1))); have hA8 := Lib.hid (hA7.out.set ⟨wr.heap.size, 1, Option.none⟩ (.string zy) (Nat.le_refl _) hno7.out); have hB8 := Lib.hid (hB7.out.set1 zy); have c71 := hB7.out.cell1; have f71 := hB7.out.free 1; have c80 := hB8.out.cell0; have c81 := hB8.out.cell1; have hO8 := Lib.hid (hO.out.step hA8.out.alt hA8.out.new); have hbase8 := Lib.hid (Nat.le_trans hRS.out.alt.size hA8.out.alt.size); clear hs7 tok5))
          go_ret3
          rw [hfin.out]
          exact ⟨.slice Option.none 0 0, S3, rfl, World.ownsRow_nil _ _ _ _, hRS.out.trans hA8.out, offv_nil _⟩
      · have hfin := Lib.hid (show dend was a a2 (hsteps X ⟨[], q3, 0, T⟩ a3) = (([], 0, f1), T2) by
          have e := hnext.trans (hstep_e1 (s := ⟨hs, q, 0, T1⟩) rfl hr1.symm hT2.symm hf1)
          rw [hsteps_end (k := k + 1) (by rw [e]; exact hf1) (by omega), e]
          exact dend_bad hf1)
        have hz1 := eq0_false hf1
        have hkd : decide ((k : Int) < (a3 : Int)) = true := decide_eq_true (by omega)
        clear hnext htk1 hr1 hT2 hzx htl1 hst hTl
        go_wp2_with (go_at_call 47; have _t := tok4; refine (htk1'.out _ S1 (hRS.out.tab.later (below_box wr _)) (hXo.out.later (below_box wr _)).rd).mono ?_; rintro e w5 ⟨S2, rfl, hs5⟩; have hA5 := Lib.hid (RStep.ahead (below_box wr _) hs5); have hB5 := Lib.hid ((bx_new wr ByteArray.empty ByteArray.empty).alt hs5.alt fun hk => Nat.lt_irrefl _ (hgap.out hk)); have hno5 := Lib.hid (show ¬ S2 wr.heap.size from fun hk => (hs5.new _ hk).elim (fun h1 => Nat.lt_irrefl _ (hgap.out h1)) (fun h1 => Nat.lt_irrefl _ (Nat.lt_of_lt_of_le (by simp) h1))); have hA6 := Lib.hid (hA5.out.set ⟨wr.heap.size, 0, Option.none⟩ (.string zx) (Nat.le_refl _) hno5.out); have c50 := hB5.out.cell0; have f50 := hB5.out.free 0; clear hs5 tok4)
        go_ret3
        rw [hfin.out]
        exact ⟨.slice Option.none 0 0, S2, rfl, World.ownsRow_nil _ _ _ _, hRS.out.trans hA6.out, offv_nil _⟩
    · obtain rfl : k = a3 := by omega
      have hkd : decide ((k : Int) < (k : Int)) = false := decide_eq_false (by omega)
      obtain ⟨kk, hkk⟩ : ∃ kk, kk = nw - a2 := ⟨_, rfl⟩
      have wk : IntKind.i64.wrap ((nw : Int) - (a2 : Int)) = (kk : Int) := by rw [IntWalk.i64_in _ ⟨by omega, by omega⟩]; omega
      have hkn : kk ≤ nw := by omega
      have hback := run_backH wr Aw nw cw kk hkn hwc
      have hH9 := hW.out.rd.backAny hkn
      obtain ⟨B9, hB9⟩ : ∃ B9, B9 = (if cw = kk then Aw else Aw.map (·.add (kk * 2))) := ⟨_, rfl⟩
      rw [← hB9] at hback hH9
      have hH9' := Lib.hid hH9
      have hlen9 := Lib.hid (show (was.take a ++ hs).length + (nw - kk) ≤ 100 by have := List.length_take_le a was; rw [List.length_append]; omega)
      obtain ⟨m9, hm9⟩ : ∃ m9, m9 = nw - kk := ⟨_, rfl⟩
      rw [← hm9] at hback hH9' hlen9
      obtain ⟨OUT, hOUT⟩ : ∃ OUT, OUT = was.take a ++ hs ++ was.drop kk := ⟨_, rfl⟩
      have hol := Lib.hid (show OUT.length ≤ 1000 by rw [hOUT, List.length_append, List.length_drop, hwl.out, ← hm9]; have := hlen9.out; omega)
      have hdend := hst.out
      have hends := Lib.hid (fun A9 c9 W hW (hh : Hds W A9 OUT.length c9 OUT) => refEnds_any Aw A9 nw OUT.length cw c9 was OUT W hW hh hnw hol.out)
      have hda := fun h => dend_form (w := was) (a := a) (b := a2) (s := ⟨hs, q, 0, T1⟩) rfl h
      have hdo := fun h h' => dend_ok (w := was) (a := a) (b := a2) (s := ⟨hs, q, 0, T1⟩) rfl h h'
      simp only [hwl.out, ← hkk, ← hOUT] at hda hdo
      rw [← hdend] at hda hdo
      have hOUT' := Lib.hid hOUT
      clear hst hTl hhl hH9 hB9 hm9 hkk hOUT hdend hk hk3
      obtain ⟨xa, hxa⟩ : ∃ xa, xa = endA was OUT := ⟨_, rfl⟩
      obtain ⟨yb, hyb⟩ : ∃ yb, yb = endB was OUT := ⟨_, rfl⟩
      simp only [← hxa, ← hyb] at hends hda hdo
      clear hxa hyb
      by_cases hA : xa = a
      · replace hA := hA.symm
        subst hA
        by_cases hB : yb = a2
        · replace hB := hB.symm
          subst hB
          have hfin := Lib.hid (hdo rfl rfl)
          clear hda hdo
          go_wp2_with (first
            | (go_at_call 53; refine (hends.out A9 c9 w9 h9.out.2.2.1.rd hr9'.out).mono ?_; rintro e w8 ⟨rfl, hb8⟩; have hb8 := Lib.hid hb8)
            | (at_builtin; refine wpList_append_hds_at rfl (.tmp 120) (.tmp 127) 22 rfl w.heap.size i0 Try.underlying22 hi hz0 hz1 hz2 _ (was.take a ++ hs) rfl hO.out.own B9 m9 _ (was.drop kk) rfl hH9'.out (by have := hlen9.out; omega) hRS.out.alt.size ?_; intro v9 w9 hown9 hg9 hat9; have h9 := Lib.hid (RStep.appH hRS.out hO.out hW.out hXo.out hw'.out.rd hX'.out.rd (Below.refl _ _) hown9 hg9 hat9); rw [← hOUT'.out] at h9; obtain ⟨A9, c9, rfl, hr9⟩ := h9.out.2.1.own.hds; have hr9' := Lib.hid hr9; clear hown9 hg9 hat9 hr9))
          go_ret3
          rw [hfin.out]
          exact ⟨_, S1, rfl, h9.out.2.1.own.kept hb8.out (Nat.le_refl _), h9.out.1.later hb8.out, h9.out.2.1.off⟩
        · have hfin := Lib.hid (hda (.inr hB))
          have hq : ((yb : Int) == (a2 : Int)) = false := beq_eq_false_iff_ne.2 (by omega)
          clear hda hdo
          go_wp2_with (first
            | (go_at_call 53; refine (hends.out A9 c9 w9 h9.out.2.2.1.rd hr9'.out).mono ?_; rintro e w8 ⟨rfl, hb8⟩; have hb8 := Lib.hid hb8)
            | (at_builtin; refine wpList_append_hds_at rfl (.tmp 120) (.tmp 127) 22 rfl w.heap.size i0 Try.underlying22 hi hz0 hz1 hz2 _ (was.take a ++ hs) rfl hO.out.own B9 m9 _ (was.drop kk) rfl hH9'.out (by have := hlen9.out; omega) hRS.out.alt.size ?_; intro v9 w9 hown9 hg9 hat9; have h9 := Lib.hid (RStep.appH hRS.out hO.out hW.out hXo.out hw'.out.rd hX'.out.rd (Below.refl _ _) hown9 hg9 hat9); rw [← hOUT'.out] at h9; obtain ⟨A9, c9, rfl, hr9⟩ := h9.out.2.1.own.hds; have hr9' := Lib.hid hr9; clear hown9 hg9 hat9 hr9))
          go_ret3
          rw [hfin.out]
          exact ⟨.slice Option.none 0 0, S1, rfl, World.ownsRow_nil _ _ _ _, h9.out.1.later hb8.out, offv_nil _⟩
      · have hfin := Lib.hid (hda (.inl hA))
        have hq : ((xa : Int) == (a : Int)) = false := beq_eq_false_iff_ne.2 (by omega)
        clear hda hdo
        go_wp2_with (first
          | (go_at_call 53; refine (hends.out A9 c9 w9 h9.out.2.2.1.rd hr9'.out).mono ?_; rintro e w8 ⟨rfl, hb8⟩; have hb8 := Lib.hid hb8)
          | (at_builtin; refine wpList_append_hds_at rfl (.tmp 120) (.tmp 127) 22 rfl w.heap.size i0 Try.underlying22 hi hz0 hz1 hz2 _ (was.take a ++ hs) rfl hO.out.own B9 m9 _ (was.drop kk) rfl hH9'.out (by have := hlen9.out; omega) hRS.out.alt.size ?_; intro v9 w9 hown9 hg9 hat9; have h9 := Lib.hid (RStep.appH hRS.out hO.out hW.out hXo.out hw'.out.rd hX'.out.rd (Below.refl _ _) hown9 hg9 hat9); rw [← hOUT'.out] at h9; obtain ⟨A9, c9, rfl, hr9⟩ := h9.out.2.1.own.hds; have hr9' := Lib.hid hr9; clear hown9 hg9 hat9 hr9))
        go_ret3
        rw [hfin.out]
        exact ⟨.slice Option.none 0 0, S1, rfl, World.ownsRow_nil _ _ _ _, h9.out.1.later hb8.out, offv_nil _⟩

theorem refDtake_off (h : RTab w b T S) (hT : T.length ≤ 300000) (hX : Holds w A n c X) (hn : n ≤ 1000000000) (hw : Hds w Aw nw cw was) (hnw : nw ≤ 1000) (hwo : Off S Aw nw) (hXo : Off S A n) :
    Calls Try.prog 48 #[.slice A n c, .int .i64 p, .pointer (some ⟨b, 0, Option.none⟩), .slice Aw nw cw] w (DTookO w b S (dtake T X p was)) := by
  obtain ⟨a, q1, e1, h1⟩ : ∃ a q e, take X p = (a, q, e) := ⟨_, _, _, rfl⟩
  by_cases he1 : e1 = 0
  · subst he1
    obtain ⟨a2, q2, e2, h2⟩ : ∃ a q e, take X q1 = (a, q, e) := ⟨_, _, _, rfl⟩
    by_cases he2 : e2 = 0
    · subst he2
      obtain ⟨a3, q3, e3, h3⟩ : ∃ a q e, take X q2 = (a, q, e) := ⟨_, _, _, rfl⟩
      by_cases he3 : e3 = 0
      · subst he3
        rw [dtake_mid h1 h2 h3]
        have hl := hw.len
        by_cases g1 : nw < a
        · rw [dmid_none (by omega)]
          exact refDtake_n1 b T S A n c X p Aw nw cw w h1 h2 h3 hnw g1 h hX
        · by_cases g2 : nw < a2
          · rw [dmid_none (by omega)]
            exact refDtake_n2 b T S A n c X p Aw nw cw w h1 h2 h3 hnw (by omega) g2 h hX
          · by_cases g3 : nw < a + a2
            · rw [dmid_none (by omega)]
              exact refDtake_n3 b T S A n c X p Aw nw cw w h1 h2 h3 hnw (by omega) (by omega) g3 h hX
            · by_cases g4 : 25 < a3
              · rw [dmid_over (by omega) (by omega)]
                exact refDtake_o1 b T S A n c X p Aw nw cw w h1 h2 h3 hnw (by omega) g4 h hX
              · by_cases g5 : 25 < a + a2 + a3
                · rw [dmid_over (by omega) (by omega)]
                  exact refDtake_o2 b T S A n c X p Aw nw cw w h1 h2 h3 hnw (by omega) (by omega) g5 h hX
                · rw [dmid_on (by omega) (by omega)]
                  exact refDtake_main b T S A n c X p Aw nw cw was w h hT hX hn hw hnw hwo hXo h1 h2 h3 (by omega) (by omega)
      · rw [dtake_e3 h1 h2 h3 he3]
        exact refDtake_e3 b T S A n c X p Aw nw cw w h1 h2 h3 he3 h hX
    · rw [dtake_e2 h1 h2 he2]
      exact refDtake_e2 b T S A n c X p Aw nw cw w h1 h2 he2 h hX
  · rw [dtake_e1 h1 he1]
    exact refDtake_e1 b T S A n c X p Aw nw cw w h1 he1 h hX
end
end Go.Proofs.Ytodncamohimmmaa
