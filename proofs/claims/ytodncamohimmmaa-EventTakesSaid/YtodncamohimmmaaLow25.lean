/-
  Texts of one sort, one behind the other: numbers, memory, regions, strings, headers. Conditions: those that each theorem states.
-/
import Derived.Test.YtodncamohimmmaaLow21
import Derived.Test.YtodncamohimmmaaLow20
import Derived.Test.YtodncamohimmmaaLow23
import Derived.Test.YtodncamohimmmaaLow5
import Derived.Test.YtodncamohimmmaaEvPInput2
import Derived.Test.YtodncamohimmmaaEvAwake
import Derived.Test.YtodncamohimmmaaLow3

namespace Go.Proofs.Ytodncamohimmmaa
open Go.RowKit Go.Lib Go.Maps Leb

def TakP (w : World) (b mb : Nat) (T0 L : Nat → Prop) (r : TookE) (en : Ending) (w' : World) : Prop :=
  ∃ Ax m cx S', en = .returned (.tuple #[evv r.1.1 Ax m cx, .int .i64 r.1.2.1, .int .i64 r.1.2.2]) ∧
    (r.1.2.2 = 0 → PBk w' b S' r.2) ∧ Alt w w' (inK b mb T0 L) ∧ (∀ j, S' j → inK b mb T0 L j ∨ w.heap.size ≤ j) ∧ Hds w' Ax m cx r.1.1.hs ∧ ∀ g off, Ax = some ⟨g, off, Option.none⟩ → 0 < m → S' g ∨ w.heap.size ≤ g
theorem takP_err {w w' : World} {b mb : Nat} {T0 L : Nat → Prop} {k : Bk} {e : Int} (he : e ≠ 0) (ha : Alt w w' (inK b mb T0 L)) : TakP w b mb T0 L (errE k e) (.returned (.tuple #[evv zev Option.none 0 0, .int .i64 0, .int .i64 e])) w' :=
  ⟨Option.none, 0, 0, inK b mb T0 L, rfl, fun h => absurd h he, ha, fun _ h => .inl h, hds_empty _ _ _ (Nat.zero_le _) fun _ => rfl, fun _ _ h => by cases h⟩
theorem alt_setRowP {w W : World} {S : Nat → Prop} (h : Alt w W S) {g : Nat} (hg : w.heap.size ≤ g) (cs : Array Value) : Alt w (W.setRow g cs) S :=
  ⟨h.os, h.tape, h.output, by simpa [World.setRow] using h.size, fun k hk hn => (setRow_other _ _ _ _ (by omega)).trans (h.block k hk hn)⟩
theorem sKd_x (s : St) : (sKd s).x = s.x ∧ (sKd s).t = s.t := by
  unfold sKd
  split <;> exact ⟨rfl, rfl⟩
theorem amtI_i64 (a : Nat) : -1 ≤ amtI a ∧ amtI a ≤ 1099511627776 := by
  unfold amtI
  split <;> omega
theorem rdN_u64 {w : World} {A : Option Addr} {n c : Nat} {X : List Int} (hX : Holds w A n c X) (q e : Int) : U64 (rdN X q e).1 := by
  unfold rdN U64
  split
  · show (0 : Nat) < _
    omega
  · exact take_lt hX.byt q
set_option maxRecDepth 100000 in
theorem run_fieldRd3 (w : World) (h : Nat) : (Instr.fieldAt 91 (.pointer (some ⟨h, 0, Option.none⟩)) 3).run Try.prog w = .ok (.pointer (some ⟨h, 3, Option.none⟩)) w := by go_simp
set_option maxRecDepth 100000 in
theorem run_storeRH (w : World) (p : Addr) (A : Option Addr) (n c : Nat) (u : Value) (hc : w.cell? p = some u) (hf : w.frozen? p = false) : (Instr.storeAt 22 (.pointer (some p)) (.slice A n c)).run Try.prog w = .ok () (w.setCell p (.slice A n c)) := by go_simp
def kt11 (b mb : Nat) (ev : Value) (s : Int) (q : Bool) (wv : Value) (j : Nat) (v : Value) (_ : World) : Prop :=
  match j with
  | 0 => v = .pointer (some ⟨b, 0, Option.none⟩)
  | 1 => v = .pointer (some ⟨b, 0, Option.none⟩)
  | 2 => v = .pointer (some ⟨b, 2, Option.none⟩)
  | 3 => v = .map (some mb)
  | 4 => v = ev
  | 5 => v = streamV s q
  | 6 => v = wv
  | _ => True
theorem kt11_later {b mb : Nat} {ev : Value} {s : Int} {q : Bool} {wv : Value} : Outlives (kt11 b mb ev s q wv) := by
  intro j v w w' h _
  unfold kt11 at h ⊢
  split at h
  all_goals exact h
set_option maxHeartbeats 64000000 in
set_option maxRecDepth 100000 in
theorem takeEP_any (b tb mb : Nat) (T0 L : Nat → Prop) (ks : List (Int × Bool)) (val : Int → Bool → Value) (k : Bk) (A : Option Addr) (n c : Nat) (X : List Int) (p : Int) (w : World) (h : BkP w b tb mb T0 L ks val k) (hOk : k.Ok) (hX : Holds w A n c X) (hXo : Off T0 A n) (hn : n ≤ 900000000) (hT : k.tab.length ≤ 200000) :
    Calls Try.prog 18 #[.pointer (some ⟨b, 0, Option.none⟩), .slice A n c, .int .i64 p] w (TakP w b mb T0 L (takeE k X p)) := by
  rw [takeE_run hOk]
  obtain ⟨s1, hs1⟩ : ∃ s1, s1 = sAm X fKind ⟨zev, p, 0, k.tab⟩ := ⟨_, rfl⟩
  obtain ⟨s3, hs3⟩ : ∃ s3, s3 = sAm X fSes (sKd s1) := ⟨_, rfl⟩
  obtain ⟨s4, hs4⟩ : ∃ s4, s4 = sLt X k.tick s3 := ⟨_, rfl⟩
  have hses : I64 s4.x.ses := by
    have h9 := amtI_i64 (rdN X (sKd s1).q (sKd s1).e).1
    have e9 : s4.x.ses = amtI (rdN X (sKd s1).q (sKd s1).e).1 := by rw [hs4, hs3]; rfl
    unfold I64
    omega
  have hhs : s4.x.hs = [] := by rw [hs4, hs3]; show (sKd s1).x.hs = []; rw [(sKd_x s1).1, hs1]; rfl
  have hn0 : s4.x.n = 0 := by rw [hs4, hs3]; show (sKd s1).x.n = 0; rw [(sKd_x s1).1, hs1]; rfl
  have htt : s4.t = k.tab := by rw [hs4, hs3]; show (sKd s1).t = k.tab; rw [(sKd_x s1).2, hs1]; rfl
  obtain ⟨Aw, nw, cw, hval, hH, hL⟩ := h.rd s4.x.ses (decide (s4.x.kind = 3)) hses
  obtain ⟨s5, hs5⟩ : ∃ s5, s5 = vis X (k.look s4.x.ses (decide (s4.x.kind = 3))) s4 := ⟨_, rfl⟩
  have e5 : st5 k X p = s5 := by rw [hs5, hs4, hs3, hs1]; rfl
  rw [e5]
  have hw9 := Lib.hid (show HdO w Aw nw cw (k.look s4.x.ses (decide (s4.x.kind = 3))) T0 from ⟨hH, fun g off e h0 hj => h.tL g hj (hL g off e h0)⟩)
  have hnw : nw ≤ 25 := by rw [← hH.len]; exact hOk.few _ _
  have hT4 := Lib.hid (show s4.t.length ≤ 200000 by rw [htt]; exact hT)
  obtain ⟨W0, hW0⟩ : ∃ W0, W0 = ((w.alloc (.cells #[.int .i64 0, .int .i64 0, .int .i64 0, .string ⟨#[]⟩, .string ⟨#[]⟩, .slice Option.none 0 0, .string ⟨#[]⟩, .int .i64 0, .int .i64 0, .bool false, .string ⟨#[]⟩, .int .u64 0] 25)).alloc (.cells #[.slice Option.none 0 0, .int .i64 0, .pointer Option.none, .slice Option.none 0 0, .int .i64 0] 91)).setRow (w.heap.size + 1) #[.slice A n c, .int .i64 p, .pointer (some ⟨tb, 0, Option.none⟩), .slice Option.none 0 0, .int .i64 0] := ⟨_, rfl⟩
  have hF0 : RF w w.heap.size (w.heap.size + 1) A n c tb ⟨zev, p, 0, k.tab⟩ W0 := by rw [hW0]; exact RF.start w A n c tb p k.tab #[.slice Option.none 0 0, .int .i64 0, .pointer Option.none, .slice Option.none 0 0, .int .i64 0]
  have hbox := below_box w (.cells #[.int .i64 0, .int .i64 0, .int .i64 0, .string ⟨#[]⟩, .string ⟨#[]⟩, .slice Option.none 0 0, .string ⟨#[]⟩, .int .i64 0, .int .i64 0, .bool false, .string ⟨#[]⟩, .int .u64 0] 25)
  have b0 := (h.later hbox).cell.1
  have hrz := Lib.hid (heap_alloc_new (w.alloc (.cells #[.int .i64 0, .int .i64 0, .int .i64 0, .string ⟨#[]⟩, .string ⟨#[]⟩, .slice Option.none 0 0, .string ⟨#[]⟩, .int .i64 0, .int .i64 0, .bool false, .string ⟨#[]⟩, .int .u64 0] 25)) (.cells #[.slice Option.none 0 0, .int .i64 0, .pointer Option.none, .slice Option.none 0 0, .int .i64 0] 91))
  simp only [World.size_alloc] at hrz
  have hri := Lib.hid (show (Try.prog.info? 91).map (·.size) = some (#[.slice A n c, .int .i64 p, .pointer (some ⟨tb, 0, Option.none⟩), .slice Option.none 0 0, .int .i64 0] : Array Value).size by kernel_rfl)
  have hr1 := Lib.hid (show (#[.slice A n c, .int .i64 p, .pointer (some ⟨tb, 0, Option.none⟩), .slice Option.none 0 0, .int .i64 0] : Array Value).all (·.oneCell') = true by simp [Value.oneCell'])
  have hm1 := Lib.hid (rfc_amount hF0 hX 0 0 fKind rfl (fun v => by unfold ecell12 fKind; simp))
  rw [← hs1] at hm1
  have hW0' := Lib.hid hW0
  have hB := Lib.hid h
  have hX' := Lib.hid hX
  have hXo' := Lib.hid hXo
  have hOk' := Lib.hid hOk
  have hs3' := Lib.hid hs3
  have hs4' := Lib.hid hs4
  have hs5' := Lib.hid hs5
  have hhs' := Lib.hid hhs
  have hn0' := Lib.hid hn0
  have htt' := Lib.hid htt
  have hval' := Lib.hid hval
  have hses' := Lib.hid hses
  clear hF0 hW0 h hX hXo hOk hs1 hs3 hs4 hs5 hhs hn0 htt hval hses e5 hH hL hT hbox
  go_enter Try.func18, Try.ntmps18
  go_upto_region 5 with (first
    | (go_at_call 31; refine (unusable_no b tb _ b0).mono ?_; rintro e w' ⟨rfl, rfl⟩)
    | (with_reducible refine wpList_store_row rfl _ _ _ rfl (w.heap.size + 1) #[.slice A n c, .int .i64 p, .pointer (some ⟨tb, 0, Option.none⟩), .slice Option.none 0 0, .int .i64 0] rfl rfl 91 #[.slice Option.none 0 0, .int .i64 0, .pointer Option.none, .slice Option.none 0 0, .int .i64 0] hrz.out hri.out (Eq.refl _) hr1.out ?_; rw [← hW0'.out]; clear hrz hW0' b0)
    | (go_at_call 42; refine Calls.mono hm1.out ?_; rintro e w1 ⟨rfl, hq, _⟩; have hF1 := Lib.hid hq; clear hq hm1))
  go_cut [31] from 23 to 31 (fun v wr => (∃ d : Bool, v = .bool d ∧ Hid (d = true ↔ (s1.e = 0 ∧ ¬ (1 ≤ s1.x.kind ∧ s1.x.kind ≤ 7)))) ∧ Hid (RF w w.heap.size (w.heap.size + 1) A n c tb s1 wr))
  case first =>
    as_aux_lemma =>
      have q4 := hF1.out.rd.cells.2.2.2.2
      have q0 := hF1.out.ev.c0
      by_cases he : s1.e = 0
      · rw [he] at q4
        have he' := Lib.hid he
        clear he
        go_wp2_with (go_at_call 43; refine (within_any _ _ _ _).mono ?_; rintro e w2 ⟨rfl, rfl⟩)
        go_meet
        case rel => exact ⟨⟨_, rfl, Lib.hid (by simp [he'.out]; omega)⟩, hF1⟩
      · have hb : (s1.e == 0) = false := beq_eq_false_iff_ne.2 he
        have he' := Lib.hid he
        clear he
        go_wp2_with fail
        go_meet
        case rel => exact ⟨⟨_, rfl, Lib.hid (by simp [he'.out])⟩, hF1⟩
  obtain ⟨⟨d, rfl, hd⟩, hF2⟩ := hcut
  clear hF1
  go_upto_if 31 with fail
  go_cut [] from 32 to 32 (fun wr => Hid (RF w w.heap.size (w.heap.size + 1) A n c tb (sKd s1) wr))
  case first =>
    as_aux_lemma =>
      have q4 := hF2.out.rd.cells.2.2.2.2
      have f4 := hF2.out.rd.free 4
      cases d with
      | false =>
        have e9 := Lib.hid (show sKd s1 = s1 from if_neg fun h9 => by have := hd.out.2 h9; cases this)
        go_wp2_with fail
        go_meet
        case rel => rw [e9.out]; exact hF2
      | true =>
        have e9 := Lib.hid (show sKd s1 = ⟨s1.x, s1.q, 4, s1.t⟩ from if_pos (hd.out.1 rfl))
        have hF9 := Lib.hid (hF2.out.err 4)
        go_wp2_with fail
        go_meet
        case rel => rw [e9.out]; exact hF9
  have hF3 := Lib.hid (hcut.out.later (below_box wc (.cells #[.int .u64 0] 23)))
  have hlb := Lib.hid (show w.heap.size ≤ wc.heap.size ∧ wc.heap.size ≠ w.heap.size ∧ wc.heap.size ≠ w.heap.size + 1 from by have h1 := hcut.out.lt; have h2 := hcut.out.bl.size; omega)
  have hbx := Lib.hid (heap_alloc_new wc (.cells #[.int .u64 0] 23))
  have hm3 := Lib.hid (rfc_amount hF3.out hX'.out 1 _ fSes rfl (fun v => by unfold ecell12 fSes; simp))
  rw [← hs3'.out] at hm3
  have hu := Lib.hid (rdN_u64 hX'.out s3.q s3.e)
  have htk := Lib.hid (show RF w w.heap.size (w.heap.size + 1) A n c tb s4 = RF w w.heap.size (w.heap.size + 1) A n c tb ⟨{ s3.x with tick := aft k.tick (rdN X s3.q s3.e).1 }, (rdN X s3.q s3.e).2.1, (rdN X s3.q s3.e).2.2, s3.t⟩ by rw [hs4'.out]; rfl)
  have hnm := Lib.hid (fun W (hR : RF w w.heap.size (w.heap.size + 1) A n c tb s3 W) (hp : W.heap[wc.heap.size]? = some (.cells #[.int .u64 0] 23 (0, 0))) => rfc_number hR hX'.out wc.heap.size hlb.out.1 hlb.out.2.1 hlb.out.2.2 hp)
  obtain ⟨⟨a3, q3, e3⟩, hrd⟩ : ∃ r, r = rdN X s3.q s3.e := ⟨_, rfl⟩
  rw [← hrd] at hu htk hnm
  simp only at hu htk hnm
  clear hcut hrd
  go_upto_region 11 with (first
    | (go_at_call 42; refine Calls.mono hm3.out ?_; rintro e w3 ⟨rfl, hq, ha⟩; have hF4 := Lib.hid hq; have hp4 := Lib.hid (show w3.heap[wc.heap.size]? = some (.cells #[.int .u64 0] 23 (0, 0)) from (ha.block _ (by simp) (by have := hlb.out; omega)).trans hbx.out); have hn4 := Lib.hid (hnm.out w3 hq hp4.out); clear hq ha hm3)
    | (go_at_call 44; refine Calls.mono hn4.out ?_; rintro e w4 ⟨rfl, hq, hc4⟩; have hF5 := Lib.hid hq; have haf := Lib.hid (after_any b k.tick a3 w4 (hB.out.later hq.bl).cell.2.1 hOk'.out.low hOk'.out.high hu.out); have g2 := hq.ev.c2; have f2 := frozen_of_row w4 w.heap.size 2 _ _ hq.bg; clear hq hn4)
    | (go_at_call 45; refine Calls.mono haf.out ?_; rintro e w5 ⟨rfl, rfl⟩; have hF6 := Lib.hid (hF5.out.tick (aft k.tick a3)); clear haf))
  have hF7 := Lib.hid (show RF w w.heap.size (w.heap.size + 1) A n c tb s4 (w5.setCell ⟨w.heap.size, 2, Option.none⟩ (.int .i64 (aft k.tick a3))) from (congrFun htk.out _).mpr hF6.out)
  obtain ⟨V, hV⟩ : ∃ V, V = w5.setCell ⟨w.heap.size, 2, Option.none⟩ (.int .i64 (aft k.tick a3)) := ⟨_, rfl⟩
  rw [← hV] at hF7
  rw [← hV]
  clear hV hF3 hF4 hF5 hF6 htk hnm hu hbx hp4 hc4 g2 f2 hd
  go_cut [] from 40 to 47 (fun wr => Hid (RP w b tb mb T0 L ks val k w.heap.size (w.heap.size + 1) A n c (.slice Aw nw cw) s4 Option.none 0 0 wr))
  case first =>
    as_aux_lemma =>
      refine wp_region_tail 7 4 (by decide) (by kernel_rfl) (RInv 68 [40, 41, 42, 43, 44, 45, 46] _ (kt11 b mb (evv s4.x Option.none 0 0) s4.x.ses (decide (s4.x.kind = 3)) (.slice Aw nw cw)) V NoMore) (by kernel_rfl) (by kernel_rfl) (RInv.start rfl trivial (Below.refl _ _).drew) ?_ ?_
      · intro i hi D a w9 hI hcl hnd hpre
        have hi' : i < 7 := hi
        have hcase : i = 0 ∨ i = 1 ∨ i = 2 ∨ i = 3 ∨ i = 4 ∨ i = 5 ∨ i = 6 := by omega
        have hF := hI.fact
        rcases hcase with rfl | rfl | rfl | rfl | rfl | rfl | rfl
        · exact wpOp_move rfl (wanted_free rfl) _ rfl _ (hI.same 0 (by decide)) (hI.add (by decide) kt11_later (by decide) (Below.refl _ _) rfl)
        · exact wpOp_nil9 rfl (wanted_free rfl) _ rfl _ (hF 0 (hpre 0 (by kernel_rfl))) (hI.add (by decide) kt11_later (by decide) (Below.refl _ _) rfl)
        · exact wpOp_field rfl (wanted_free rfl) _ _ _ rfl _ _ (hF 1 (hpre 1 (by kernel_rfl))) (run_fieldK2 w9 b) (hI.add (by decide) kt11_later (by decide) (Below.refl _ _) rfl)
        · exact wpOp_load rfl (wanted_free rfl) _ _ rfl _ _ (hF 2 (hpre 2 (by kernel_rfl))) (run_loadKM w9 _ _ (hB.out.later (below_then hF7.out.bl hI.below)).cell.2.2) (hI.add (by decide) kt11_later (by decide) (Below.refl _ _) rfl)
        · exact wpOp_load rfl (wanted_free rfl) _ _ rfl _ _ (hI.same 6 (by decide)) (run_loadEvP w9 _ _ (hF7.out.later hI.below).bg rfl) (hI.add (by decide) kt11_later (by decide) (Below.refl _ _) rfl)
        · exact wpOp_call1 rfl (wanted_free rfl) 33 _ _ rfl _ (hF 4 (hpre 4 (by kernel_rfl))) (enters_place _ _) (placeOf_any s4.x Option.none 0 0 w9) (fun e w' h9 => ⟨_, h9.1, hI.add (by decide) kt11_later (by decide) h9.2 rfl⟩)
        · exact wpOp_lookup rfl (wanted_free rfl) _ _ _ rfl _ _ _ (hF 3 (hpre 3 (by kernel_rfl))) (hF 5 (hpre 5 (by kernel_rfl))) (by have h9 := (hB.out.later (below_then hF7.out.bl hI.below)).map.look keyW_stream Try.underlying64 (zeroH21 w9) s4.x.ses (decide (s4.x.kind = 3)) hses'.out; rw [hval'.out] at h9; exact h9) (hI.add (by decide) kt11_later (by decide) (Below.refl _ _) rfl)
      · intro D a w9 hI hall
        have e46 : a.eval (.tmp 46) = _ := hI.fact 6 (hall 6 (by decide))
        have e9 : a.eval (.tmp 9) = .pointer (some ⟨w.heap.size + 1, 0, Option.none⟩) := hI.same 9 (by decide)
        have hR9 := hF7.out.later hI.below
        have hsz := hI.size
        have hdone := hI.done (by decide) rfl (fun i hi => hall i hi)
        have q3 := hR9.rd.cells.2.2.2.1
        have f3 := hR9.rd.free 3
        have hP9 := Lib.hid (hR9.was hB.out htt'.out hhs'.out (.slice Aw nw cw))
        clear hI hall hR9
        show wpOps _ _ _ [7, 8] a w9
        rw [wpOps_cons]
        refine wpOp_field rfl (wanted_free rfl) _ _ _ rfl _ _ e9 (run_fieldRd3 w9 _) ?_
        show wpOps _ _ _ [8] (a.put (some 47) _) w9
        rw [wpOps_cons]
        refine wpOp_store rfl (wanted_free rfl) _ _ _ rfl _ _ (eval_put_same _ _ _ (by rw [hsz]; decide)) (by rw [eval_put_other _ _ (by decide)]; exact e46) (run_storeRH w9 _ _ _ _ _ q3 f3) ?_
        show wpOps _ _ _ [] ((a.put (some 47) _).put Option.none undef) _
        rw [wpOps]
        obtain ⟨fs, ha, _⟩ := hdone
        clear e46 e9 hsz q3 f3
        subst ha
        simp only [putAll, List.map_cons, List.map_nil, Act.put, List.setIfInBounds_toArray, List.set_cons_zero, List.set_cons_succ]
        generalize fs 40 = y40
        generalize fs 41 = y41
        generalize fs 42 = y42
        generalize fs 43 = y43
        generalize fs 44 = y44
        generalize fs 45 = y45
        generalize fs 46 = y46
        go_wp2_with fail
        go_meet
        case rel => exact hP9
  clear hF7
  have hv1 := Lib.hid (visitR_any hX'.out hXo'.out hn hw9.out hnw hT4.out hn0'.out ⟨_, _, _, hcut.out⟩)
  rw [← hs5'.out] at hv1
  obtain ⟨fs, hfs⟩ := undEvP
  replace hfs := Lib.hid hfs
  have hi0 := Lib.hid (show (Try.prog.info? 25).map (·.size) = some (#[.int .i64 0, .int .i64 0, .int .i64 0, .string ⟨#[]⟩, .string ⟨#[]⟩, .slice Option.none 0 0, .string ⟨#[]⟩, .int .i64 0, .int .i64 0, .bool false, .string ⟨#[]⟩, .int .u64 0] : Array Value).size from infoEvP)
  have h10 := Lib.hid (show (#[.int .i64 0, .int .i64 0, .int .i64 0, .string ⟨#[]⟩, .string ⟨#[]⟩, .slice Option.none 0 0, .string ⟨#[]⟩, .int .i64 0, .int .i64 0, .bool false, .string ⟨#[]⟩, .int .u64 0] : Array Value).all (·.oneCell') = true by simp [Value.oneCell'])
  go_upto_region 13 with (go_at_call 35; refine Calls.mono hv1.out ?_; rintro e w6 ⟨rfl, Ax, m, cx, hq⟩; have hR6 := Lib.hid hq; clear hq hv1 hcut)
  have q4 := hR6.out.rd.cells.2.2.2.2
  have row6 := Lib.hid (show w6.heap[w.heap.size]? = some (.cells #[.int .i64 s5.x.kind, .int .i64 s5.x.ses, .int .i64 s5.x.tick, .string s5.x.me, .string s5.x.url, .slice Ax m cx, .string s5.x.body, .int .i64 s5.x.status, .int .i64 s5.x.code, .bool s5.x.cred, .string s5.x.no, .int .u64 (s5.x.n : Int)] 25 (0, 0)) from hR6.out.bg)
  have al6 := Lib.hid (hR6.out.alt.mono (S' := inK b mb T0 L) fun j _ hj => .inr (.inl hj))
  by_cases he : s5.e = 0
  · rw [he] at q4
    have hix := Lib.hid (show (Try.prog.info? 25).map (·.size) = some (#[.int .i64 s5.x.kind, .int .i64 s5.x.ses, .int .i64 s5.x.tick, .string s5.x.me, .string s5.x.url, .slice Ax m cx, .string s5.x.body, .int .i64 s5.x.status, .int .i64 s5.x.code, .bool s5.x.cred, .string s5.x.no, .int .u64 (s5.x.n : Int)] : Array Value).size from infoEvP)
    have h1x := Lib.hid (show (#[.int .i64 s5.x.kind, .int .i64 s5.x.ses, .int .i64 s5.x.tick, .string s5.x.me, .string s5.x.url, .slice Ax m cx, .string s5.x.body, .int .i64 s5.x.status, .int .i64 s5.x.code, .bool s5.x.cred, .string s5.x.no, .int .u64 (s5.x.n : Int)] : Array Value).all (·.oneCell') = true by simp [Value.oneCell'])
    obtain ⟨T1, hB6, hT6, n1, n2, hx6, hx6b⟩ := hR6.out.ex
    have hgood := Lib.hid (goodP_any s5.x Ax m cx w6 hx6)
    unfold evv ecell12 at hgood
    have he' := Lib.hid he
    replace hB6 := Lib.hid hB6
    replace hT6 := Lib.hid hT6
    replace n1 := Lib.hid n1
    replace n2 := Lib.hid n2
    replace hx6 := Lib.hid hx6
    replace hx6b := Lib.hid hx6b
    clear he
    by_cases hg : GoodE s5.x
    · rw [decide_eq_true hg] at hgood
      have hfin := Lib.hid (show finS k s5 = ((s5.x, s5.q, 0), ⟨s5.t, s5.x.tick, lookE k.look s5.x⟩) from (if_neg (fun h9 => h9 he'.out)).trans (if_pos hg))
      have hm9 := Lib.hid (show m ≤ 1000000 by have h1 := hx6.out.len; have h2 := hg.1.2.2.2.2.2.2.2.2.1; omega)
      have hk9 := Lib.hid (show 1 ≤ s5.x.kind by have := hg.kinds; omega)
      have hs9 := Lib.hid (show 0 ≤ s5.x.ses ∧ s5.x.ses ≤ 1048576 from ⟨hg.1.1, hg.1.2.1⟩)
      have hno := Lib.hid (show ∀ j, w.heap.size ≤ j → ¬ T1 j → ¬ inK b mb T1 L j from fun j h1 h2 h3 => by
        obtain ⟨o1, o2, o3⟩ := hR6.out.old
        rcases h3 with h9 | h9 | h9 | h9
        · omega
        · exact h2 h9
        · omega
        · have := o3 j h9
          omega)
      clear hg
      go_wp2_with (first
        | (with_reducible refine wpList_load_row rfl _ _ rfl w.heap.size rfl 25 #[.int .i64 s5.x.kind, .int .i64 s5.x.ses, .int .i64 s5.x.tick, .string s5.x.me, .string s5.x.url, .slice Ax m cx, .string s5.x.body, .int .i64 s5.x.status, .int .i64 s5.x.code, .bool s5.x.cred, .string s5.x.no, .int .u64 (s5.x.n : Int)] (0, 0) (.struct fs) row6.out hfs.out rfl hix.out ?_)
        | (go_at_call 11; refine Calls.mono hgood.out ?_; rintro e w7 ⟨rfl, hb7⟩; have hR7 := Lib.hid (hR6.out.later hb7); have hB7 := Lib.hid (hB6.out.later hb7); have hx7 := Lib.hid (hx6.out.later hb7); have row7 := Lib.hid (show w7.heap[w.heap.size]? = some (.cells #[.int .i64 s5.x.kind, .int .i64 s5.x.ses, .int .i64 s5.x.tick, .string s5.x.me, .string s5.x.url, .slice Ax m cx, .string s5.x.body, .int .i64 s5.x.status, .int .i64 s5.x.code, .bool s5.x.cred, .string s5.x.no, .int .u64 (s5.x.n : Int)] 25 (0, 0)) from hR7.out.bg); have al7 := Lib.hid (al6.out.behind hb7); have hkp := Lib.hid (keep_any b tb mb T1 L ks val { k with tab := s5.t } s5.x Ax m cx w7 hB7.out ⟨hx7.out, fun q off e h0 => hno.out q (hx6b.out q off e h0).1 (hx6b.out q off e h0).2.2.2⟩ hm9.out hk9.out hs9.out); unfold evv ecell12 at hkp; clear hb7 hgood row6)
        | (with_reducible refine wpList_load_row rfl _ _ rfl w.heap.size rfl 25 #[.int .i64 s5.x.kind, .int .i64 s5.x.ses, .int .i64 s5.x.tick, .string s5.x.me, .string s5.x.url, .slice Ax m cx, .string s5.x.body, .int .i64 s5.x.status, .int .i64 s5.x.code, .bool s5.x.cred, .string s5.x.no, .int .u64 (s5.x.n : Int)] (0, 0) (.struct fs) row7.out hfs.out rfl hix.out ?_)
        | (go_at_call 36; refine Calls.mono hkp.out ?_; rintro e w8 ⟨rfl, L8, ks8, val8, hB8, ha8, hn8⟩; have row8 := Lib.hid ((ha8.block _ hR7.out.lt.1 (hno.out _ (Nat.le_refl _) n1.out)).trans row7.out); have rd8 := Lib.hid (show RdAt w8 (w.heap.size + 1) A n c s5.q tb (.slice Aw nw cw) s5.e from (ha8.block _ hR7.out.lt.2 (hno.out _ (by omega) n2.out)).trans hR7.out.rd); have c1 := rd8.out.cells.2.1; have hB8' := Lib.hid hB8; have ha8' := Lib.hid ha8; have hn8' := Lib.hid hn8; clear hB8 ha8 hn8 hkp row7)
        | (with_reducible refine wpList_load_row rfl _ _ rfl w.heap.size rfl 25 #[.int .i64 s5.x.kind, .int .i64 s5.x.ses, .int .i64 s5.x.tick, .string s5.x.me, .string s5.x.url, .slice Ax m cx, .string s5.x.body, .int .i64 s5.x.status, .int .i64 s5.x.code, .bool s5.x.cred, .string s5.x.no, .int .u64 (s5.x.n : Int)] (0, 0) (.struct fs) row8.out hfs.out rfl hix.out ?_)
        | (with_reducible refine wpList_store_row rfl _ _ _ rfl w.heap.size #[.int .i64 s5.x.kind, .int .i64 s5.x.ses, .int .i64 s5.x.tick, .string s5.x.me, .string s5.x.url, .slice Ax m cx, .string s5.x.body, .int .i64 s5.x.status, .int .i64 s5.x.code, .bool s5.x.cred, .string s5.x.no, .int .u64 (s5.x.n : Int)] rfl rfl 25 #[.int .i64 s5.x.kind, .int .i64 s5.x.ses, .int .i64 s5.x.tick, .string s5.x.me, .string s5.x.url, .slice Ax m cx, .string s5.x.body, .int .i64 s5.x.status, .int .i64 s5.x.code, .bool s5.x.cred, .string s5.x.no, .int .u64 (s5.x.n : Int)] row8.out hix.out (Eq.refl _) h1x.out ?_))
      refine bodyPost_ret (take_resultP (g := w.heap.size) (cs := #[.int .i64 s5.x.kind, .int .i64 s5.x.ses, .int .i64 s5.x.tick, .string s5.x.me, .string s5.x.url, .slice Ax m cx, .string s5.x.body, .int .i64 s5.x.status, .int .i64 s5.x.code, .bool s5.x.cred, .string s5.x.no, .int .u64 (s5.x.n : Int)]) rfl rfl rfl (setRow_heap _ _ _ _ _ _ row8.out) rfl) rfl ?_
      rw [hfin.out]
      have hse : Alt w8 (w8.setRow w.heap.size #[.int .i64 s5.x.kind, .int .i64 s5.x.ses, .int .i64 s5.x.tick, .string s5.x.me, .string s5.x.url, .slice Ax m cx, .string s5.x.body, .int .i64 s5.x.status, .int .i64 s5.x.code, .bool s5.x.cred, .string s5.x.no, .int .u64 (s5.x.n : Int)]) (fun j => j = w.heap.size) := ⟨rfl, rfl, rfl, by simp [World.setRow], fun j _ hn => setRow_other _ _ _ _ hn⟩
      have hsz7 := al7.out.size
      have hlow8 := hB8'.out.low
      have hL8 : ∀ j, inK b mb T1 L8 j → inK b mb T1 L j ∨ w7.heap.size ≤ j := fun j hj => by
        rcases hj with h9 | h9 | h9 | h9
        · exact .inl (.inl h9)
        · exact .inl (.inr (.inl h9))
        · exact .inl (.inr (.inr (.inl h9)))
        · exact (hn8'.out j h9).imp (fun h8 => .inr (.inr (.inr h8))) id
      have hT1 : ∀ j, inK b mb T1 L j → inK b mb T0 L j ∨ w.heap.size ≤ j := fun j hj => by
        rcases hj with h9 | h9 | h9 | h9
        · exact .inl (.inl h9)
        · exact (hT6.out j h9).imp (fun h8 => .inr (.inl h8)) id
        · exact .inl (.inr (.inr (.inl h9)))
        · exact .inl (.inr (.inr (.inr h9)))
      have hg7 := hR7.out.lt.1
      refine ⟨Ax, m, cx, inK b mb T1 L8, rfl, fun _ => ⟨tb, mb, T1, L8, ks8, val8, hB8'.out.alt hse fun j hj e => ?_, fun _ => Iff.rfl⟩, alt_setRowP (al7.out.trans ha8'.out fun j hj h9 => (hT1 j h9).resolve_right (by omega)) (Nat.le_refl _) _, fun j hj => (hL8 j hj).elim (hT1 j) fun h9 => .inr (Nat.le_trans hsz7 h9), ?_, fun q off e h0 => .inr (hx6b.out q off e h0).1⟩
      · rw [e] at hj
        rcases hL8 _ hj with h9 | h9
        · exact hno.out _ (Nat.le_refl _) n1.out h9
        · omega
      · refine (hx7.out.alt ha8'.out fun q off e h0 => hno.out q (hx6b.out q off e h0).1 (hx6b.out q off e h0).2.2.2).alt hse fun q off e h0 h9 => (hx6b.out q off e h0).2.1 h9
    · rw [decide_eq_false hg] at hgood
      have hfin := Lib.hid (show finS k s5 = errE k 4 from (if_neg (fun h9 => h9 he'.out)).trans (if_neg hg))
      clear hg
      go_wp2_with (first
        | (with_reducible refine wpList_load_row rfl _ _ rfl w.heap.size rfl 25 #[.int .i64 s5.x.kind, .int .i64 s5.x.ses, .int .i64 s5.x.tick, .string s5.x.me, .string s5.x.url, .slice Ax m cx, .string s5.x.body, .int .i64 s5.x.status, .int .i64 s5.x.code, .bool s5.x.cred, .string s5.x.no, .int .u64 (s5.x.n : Int)] (0, 0) (.struct fs) row6.out hfs.out rfl hix.out ?_)
        | (go_at_call 11; refine Calls.mono hgood.out ?_; rintro e w7 ⟨rfl, hb7⟩; have row7 := Lib.hid ((hb7.block _ (Array.getElem?_eq_some_iff.1 row6.out).1).trans row6.out); have al7 := Lib.hid (al6.out.behind hb7); clear hb7 hgood)
        | (with_reducible refine wpList_store_row rfl _ _ _ rfl w.heap.size #[.int .i64 0, .int .i64 0, .int .i64 0, .string ⟨#[]⟩, .string ⟨#[]⟩, .slice Option.none 0 0, .string ⟨#[]⟩, .int .i64 0, .int .i64 0, .bool false, .string ⟨#[]⟩, .int .u64 0] rfl rfl 25 #[.int .i64 s5.x.kind, .int .i64 s5.x.ses, .int .i64 s5.x.tick, .string s5.x.me, .string s5.x.url, .slice Ax m cx, .string s5.x.body, .int .i64 s5.x.status, .int .i64 s5.x.code, .bool s5.x.cred, .string s5.x.no, .int .u64 (s5.x.n : Int)] row7.out hi0.out (Eq.refl _) h10.out ?_))
      refine bodyPost_ret (take_resultP (g := w.heap.size) (cs := #[.int .i64 0, .int .i64 0, .int .i64 0, .string ⟨#[]⟩, .string ⟨#[]⟩, .slice Option.none 0 0, .string ⟨#[]⟩, .int .i64 0, .int .i64 0, .bool false, .string ⟨#[]⟩, .int .u64 0]) rfl rfl rfl (setRow_heap _ _ _ _ _ _ row7.out) rfl) rfl ?_
      rw [hfin.out]
      exact takP_err (by decide) (alt_setRowP al7.out (Nat.le_refl _) _)
  · have hb : (s5.e != 0) = true := by simpa using he
    have hb2 : (s5.e == 0) = false := beq_eq_false_iff_ne.2 he
    have hfin := Lib.hid (show finS k s5 = errE k s5.e from if_pos he)
    have he' := Lib.hid he
    clear he
    go_wp2_with (with_reducible refine wpList_store_row rfl _ _ _ rfl w.heap.size #[.int .i64 0, .int .i64 0, .int .i64 0, .string ⟨#[]⟩, .string ⟨#[]⟩, .slice Option.none 0 0, .string ⟨#[]⟩, .int .i64 0, .int .i64 0, .bool false, .string ⟨#[]⟩, .int .u64 0] rfl rfl 25 #[.int .i64 s5.x.kind, .int .i64 s5.x.ses, .int .i64 s5.x.tick, .string s5.x.me, .string s5.x.url, .slice Ax m cx, .string s5.x.body, .int .i64 s5.x.status, .int .i64 s5.x.code, .bool s5.x.cred, .string s5.x.no, .int .u64 (s5.x.n : Int)] row6.out hi0.out (Eq.refl _) h10.out ?_)
    refine bodyPost_ret (take_resultP (g := w.heap.size) (cs := #[.int .i64 0, .int .i64 0, .int .i64 0, .string ⟨#[]⟩, .string ⟨#[]⟩, .slice Option.none 0 0, .string ⟨#[]⟩, .int .i64 0, .int .i64 0, .bool false, .string ⟨#[]⟩, .int .u64 0]) rfl rfl rfl (setRow_heap _ _ _ _ _ _ row6.out) rfl) rfl ?_
    rw [hfin.out]
    exact takP_err he'.out (alt_setRowP al6.out (Nat.le_refl _) _)
theorem bookTakes : BookTakes PBk where
  said := bookSaid
  take := fun b S k A n c X p W hP hOk hX ho hT hn _ _ => by
    obtain ⟨tb, mb, T0, L, ks, val, h, hS⟩ := hP
    refine (takeEP_any b tb mb T0 L ks val k A n c X p W h hOk hX (ho.mono fun j hj => (hS j).2 (.inr (.inl hj))) hn hT).mono ?_
    rintro e w' ⟨Ax, m, cx, S', rfl, h1, h2, h3, h4, h5⟩
    exact ⟨Ax, m, cx, S', rfl, h1, h2.mono fun j _ hj => (hS j).2 hj, fun j hj => (h3 j hj).imp (fun h8 => (hS j).2 h8) id, h4, h5⟩
end Go.Proofs.Ytodncamohimmmaa

namespace Go.Proofs.Ytodncamohimmmaa
open Go.RowKit Go.Lib Leb

theorem awakeP (W : World) : Calls Try.prog 10 #[] W fun e w' => e = .returned (.bool true) ∧ Below W.heap.size W w' :=
  awake21_any bookTakes (fun x A m c W h _ => inputP_any x A m c W h) W
end Go.Proofs.Ytodncamohimmmaa
