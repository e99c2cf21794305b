/-
  Texts of one sort, one behind the other: numbers, memory, regions, strings, headers. Conditions: those that each theorem states.
-/
import Derived.Test.YtodncamohimmmaaLow17
import Derived.Test.YtodncamohimmmaaEvPGood
import Derived.Test.YtodncamohimmmaaLow6
import Derived.Deep.CutBlock
import Derived.BigQuiet

namespace Go.Proofs.Ytodncamohimmmaa
open Go.RowKit Go.Lib Go.Maps Leb

theorem WR.facts {w1 W : World} {b tb mb : Nat} {T0 L : Nat → Prop} {ks : List (Int × Bool)} {val : Int → Bool → Value} {k : Bk} {g h lb : Nat} {x : Ev} {A : Option Addr} {m c : Nat} {d : Int} {Aw : Option Addr} {nw cw : Nat} {T : List (List UInt8)} {Y : List Int} {oc out : Value}
    (H : WR w1 b tb mb T0 L ks val k g h lb x A m c d Aw nw cw T Y oc out W) (hx : HdO w1 A m c x.hs (inK b mb T0 L)) :
    ∃ T1, BkP W b tb mb T1 L ks val { k with tab := T } ∧ (∀ j, inK b mb T1 L j → inK b mb T0 L j ∨ w1.heap.size ≤ j) ∧ OffV T1 out ∧ ¬ T1 h ∧ HdO W A m c x.hs (inK b mb T1 L) ∧ ∀ j, w1.heap.size ≤ j → ¬ T1 j → ¬ inK b mb T1 L j := by
  obtain ⟨T1, hB, hn, ho, h1, h2, h3⟩ := H.ex
  obtain ⟨o1, o2, o3⟩ := H.old
  have hT : ∀ j, inK b mb T1 L j → inK b mb T0 L j ∨ w1.heap.size ≤ j := fun j hj => by
    rcases hj with h | h | h | h
    · exact .inl (.inl h)
    · exact (hn j h).imp (fun h8 => .inr (.inl h8)) id
    · exact .inl (.inr (.inr (.inl h)))
    · exact .inl (.inr (.inr (.inr h)))
  refine ⟨T1, hB, hT, ho, h2, ⟨hx.rd.alt H.alt (Off.mono hx.off fun j hj => .inr (.inl hj)), fun g off e h0 hj => (hT g hj).elim (hx.off g off e h0) fun h8 => ?_⟩, fun j h8 h9 hj => ?_⟩
  · have h9 := hx.rd
    rw [e] at h9
    have := h9.block h0
    omega
  · rcases hj with h | h | h | h
    · omega
    · exact h9 h
    · omega
    · have := o3 j h
      omega
theorem zeroH21 (w : World) : (zeroValue 22).run Try.prog w = .ok nilS w := by kernel_rfl

set_option maxHeartbeats 8000000 in
set_option maxRecDepth 100000 in
theorem putP_bad (b tb mb : Nat) (T0 L : Nat → Prop) (ks : List (Int × Bool)) (val : Int → Bool → Value) (k : Bk) (A : Option Addr) (n c : Nat) (x : Ev) (Ax : Option Addr) (m cx : Nat) (w : World) (h : BkP w b tb mb T0 L ks val k) (hx : Hds w Ax m cx x.hs) (hg : ¬ GoodE x) :
    Calls Try.prog 16 #[.pointer (some ⟨b, 0, Option.none⟩), .slice A n c, evv x Ax m cx] w fun e w' => e = .returned (.tuple #[.slice Option.none 0 0, .int .i64 4]) ∧ Below w.heap.size w w' := by
  have hgood := Lib.hid (fun W (hW : Below w.heap.size w W) => goodP_any x Ax m cx W (hx.later hW))
  rw [decide_eq_false hg] at hgood
  have hbe := Lib.hid (below_box w (.cells (ecell12 x Ax m cx) 25))
  have hev := Lib.hid (evAt_new w x Ax m cx 25)
  have hr0 := Lib.hid (heap_alloc_new w (.cells (ecell12 x Ax m cx) 25))
  have hie := Lib.hid (show (Try.prog.info? 25).map (·.size) = some (ecell12 x Ax m cx).size from infoEvP)
  obtain ⟨fe, hfe⟩ := undEvP
  replace hfe := Lib.hid hfe
  have hB := Lib.hid h
  clear hx hg h
  unfold evv at *
  unfold ecell12 at *
  go_enter Try.func16, Try.ntmps16
  go_wp2_with (first
    | (go_at_call 31; refine (unusable_no b tb _ (hB.out.later hbe.out).cell.1).mono ?_; rintro e w' ⟨rfl, rfl⟩)
    | (with_reducible refine wpList_load_row rfl _ _ rfl w.heap.size rfl 25 #[.int .i64 x.kind, .int .i64 x.ses, .int .i64 x.tick, .string x.me, .string x.url, .slice Ax m cx, .string x.body, .int .i64 x.status, .int .i64 x.code, .bool x.cred, .string x.no, .int .u64 (x.n : Int)] (0, 0) (.struct fe) hr0.out hfe.out rfl hie.out ?_)
    | (go_at_call 11; refine (hgood.out _ hbe.out).mono ?_; rintro e w2 ⟨rfl, hb2⟩; have hbw := Lib.hid (below_then hbe.out hb2); have hb2' := Lib.hid hb2; have y2 := (hev.out.later hb2).c2; have b1 := (hB.out.later hbw.out).cell.2.1; clear hb2))
  go_ret2
  exact ⟨rfl, hbw.out⟩

set_option maxHeartbeats 8000000 in
set_option maxRecDepth 100000 in
theorem putP_order (b tb mb : Nat) (T0 L : Nat → Prop) (ks : List (Int × Bool)) (val : Int → Bool → Value) (k : Bk) (A : Option Addr) (n c : Nat) (x : Ev) (Ax : Option Addr) (m cx : Nat) (w : World) (h : BkP w b tb mb T0 L ks val k) (hx : Hds w Ax m cx x.hs) (hg : GoodE x) (ht : x.tick < k.tick) :
    Calls Try.prog 16 #[.pointer (some ⟨b, 0, Option.none⟩), .slice A n c, evv x Ax m cx] w fun e w' => e = .returned (.tuple #[.slice Option.none 0 0, .int .i64 9]) ∧ Below w.heap.size w w' := by
  have hgood := Lib.hid (fun W (hW : Below w.heap.size w W) => goodP_any x Ax m cx W (hx.later hW))
  rw [decide_eq_true hg] at hgood
  have hbe := Lib.hid (below_box w (.cells (ecell12 x Ax m cx) 25))
  have hev := Lib.hid (evAt_new w x Ax m cx 25)
  have hr0 := Lib.hid (heap_alloc_new w (.cells (ecell12 x Ax m cx) 25))
  have hie := Lib.hid (show (Try.prog.info? 25).map (·.size) = some (ecell12 x Ax m cx).size from infoEvP)
  obtain ⟨fe, hfe⟩ := undEvP
  replace hfe := Lib.hid hfe
  have hB := Lib.hid h
  have hlt : decide (x.tick < k.tick) = true := decide_eq_true ht
  clear hx hg h ht
  unfold evv at *
  unfold ecell12 at *
  go_enter Try.func16, Try.ntmps16
  go_wp2_with (first
    | (go_at_call 31; refine (unusable_no b tb _ (hB.out.later hbe.out).cell.1).mono ?_; rintro e w' ⟨rfl, rfl⟩)
    | (with_reducible refine wpList_load_row rfl _ _ rfl w.heap.size rfl 25 #[.int .i64 x.kind, .int .i64 x.ses, .int .i64 x.tick, .string x.me, .string x.url, .slice Ax m cx, .string x.body, .int .i64 x.status, .int .i64 x.code, .bool x.cred, .string x.no, .int .u64 (x.n : Int)] (0, 0) (.struct fe) hr0.out hfe.out rfl hie.out ?_)
    | (go_at_call 11; refine (hgood.out _ hbe.out).mono ?_; rintro e w2 ⟨rfl, hb2⟩; have hbw := Lib.hid (below_then hbe.out hb2); have hb2' := Lib.hid hb2; have y2 := (hev.out.later hb2).c2; have b1 := (hB.out.later hbw.out).cell.2.1; clear hb2))
  go_quiet (fail)
  go_wp2
  go_ret2
  exact ⟨rfl, below_drewN hbw.out _⟩
def pp7 (b mb tb : Nat) (A : Option Addr) (n c : Nat) (ev : Value) (s : Int) (q : Bool) (wv : Value) (j : Nat) (v : Value) (_ : World) : Prop :=
  match j with
  | 0 => v = .slice A n c
  | 1 => True
  | 2 => v = .pointer (some ⟨b, 0, Option.none⟩)
  | 3 => v = .pointer (some ⟨b, 0, Option.none⟩)
  | 4 => v = .pointer (some ⟨b, 0, Option.none⟩)
  | 5 => v = .pointer (some ⟨tb, 0, Option.none⟩)
  | 6 => v = .pointer (some ⟨b, 0, Option.none⟩)
  | 7 => v = .pointer (some ⟨b, 0, Option.none⟩)
  | 8 => v = .pointer (some ⟨b, 2, Option.none⟩)
  | 9 => v = .map (some mb)
  | 10 => v = ev
  | 11 => v = streamV s q
  | 12 => v = wv
  | 13 => True
  | 14 => True
  | _ => True
theorem pp7_any {b mb tb : Nat} {A : Option Addr} {n c : Nat} {ev : Value} {s : Int} {q : Bool} {wv : Value} {j : Nat} {v : Value} {w w' : World} (h : pp7 b mb tb A n c ev s q wv j v w) : pp7 b mb tb A n c ev s q wv j v w' := by
  unfold pp7 at h ⊢
  split at h
  all_goals exact h

set_option maxHeartbeats 64000000 in
set_option maxRecDepth 100000 in
theorem putP_ok (b tb mb : Nat) (T0 L : Nat → Prop) (ks : List (Int × Bool)) (val : Int → Bool → Value) (k : Bk) (A : Option Addr) (n c : Nat) (X : List Int) (x : Ev) (Ax : Option Addr) (m cx : Nat) (Aw : Option Addr) (nw cw : Nat) (w : World) (h : BkP w b tb mb T0 L ks val k) (hX : Holds w A n c X) (hx : HdO w Ax m cx x.hs (inK b mb T0 L)) (hg : GoodE x) (h64 : U64 x.n) (h0 : 0 ≤ k.tick) (ht : k.tick ≤ x.tick) (hT : k.tab.length ≤ 200000) (hn : n ≤ 900000000)
    (hval : val x.ses (decide (x.kind = 3)) = .slice Aw nw cw) (hw : HdO w Aw nw cw (k.look x.ses (decide (x.kind = 3))) T0) (hnw : nw ≤ 25) :
    Calls Try.prog 16 #[.pointer (some ⟨b, 0, Option.none⟩), .slice A n c, evv x Ax m cx] w fun e w' => ∃ r T1 L' ks' val', e = .returned (.tuple #[r, .int .i64 0]) ∧ BkP w' b tb mb T1 L' ks' val' (tellE k x) ∧ Alt w w' (inK b mb T0 L) ∧ (∀ j, inK b mb T1 L' j → inK b mb T0 L j ∨ w.heap.size ≤ j) ∧ Owns w' w.heap.size 5 r (X ++ encB k x) ∧ OffV (inK b mb T1 L') r := by
  have hgood := Lib.hid (fun W (hW : Below w.heap.size w W) => goodP_any x Ax m cx W (hx.rd.later hW))
  rw [decide_eq_true hg] at hgood
  have hbe := Lib.hid (below_box w (.cells (ecell12 x Ax m cx) 25))
  have hev := Lib.hid (evAt_new w x Ax m cx 25)
  have hr0 := Lib.hid (heap_alloc_new w (.cells (ecell12 x Ax m cx) 25))
  have hie := Lib.hid (show (Try.prog.info? 25).map (·.size) = some (ecell12 x Ax m cx).size from infoEvP)
  obtain ⟨fe, hfe⟩ := undEvP
  replace hfe := Lib.hid hfe
  have hB := Lib.hid h
  have hlt : decide (x.tick < k.tick) = false := decide_eq_false (by omega)
  obtain ⟨kn, sn, dn, cn, stn, ek, es, ed, ec, est, bk1, bk7, bs, bd, bc, bst⟩ := goodE_nums hg h0 ht
  have hi64 : I64 x.ses := by unfold I64; omega
  have hg' := Lib.hid hg
  have hX' := Lib.hid hX
  have hx' := Lib.hid hx
  have hval' := Lib.hid hval
  have hw' := Lib.hid hw
  have ek' := Lib.hid ek
  have es' := Lib.hid es
  have ed' := Lib.hid ed
  have h64' := Lib.hid h64
  have hT' := Lib.hid hT
  have hbs := Lib.hid (show w.heap.size < (w.alloc (.cells (ecell12 x Ax m cx) 25)).heap.size by simp)
  clear hx hg h hX hval hw ek es ed ec est h64 hT h0 ht
  unfold evv at *
  unfold ecell12 at *
  go_enter Try.func16, Try.ntmps16
  go_wp2_with (first
    | (go_at_call 31; refine (unusable_no b tb _ (hB.out.later hbe.out).cell.1).mono ?_; rintro e w' ⟨rfl, rfl⟩)
    | (with_reducible refine wpList_load_row rfl _ _ rfl w.heap.size rfl 25 #[.int .i64 x.kind, .int .i64 x.ses, .int .i64 x.tick, .string x.me, .string x.url, .slice Ax m cx, .string x.body, .int .i64 x.status, .int .i64 x.code, .bool x.cred, .string x.no, .int .u64 (x.n : Int)] (0, 0) (.struct fe) hr0.out hfe.out rfl hie.out ?_)
    | (go_at_call 11; refine (hgood.out _ hbe.out).mono ?_; rintro e w2 ⟨rfl, hb2⟩; have hbw := Lib.hid (below_then hbe.out hb2); have hb2' := Lib.hid hb2; have y2 := (hev.out.later hb2).c2; have b1 := (hB.out.later hbw.out).cell.2.1; clear hb2))
  go_quiet (fail)
  go_upto_region 7 with fail
  have hev1 := Lib.hid (show (w2.drewN nq).heap[w.heap.size]? = some (.cells (ecell12 x Ax m cx) 25 (0, 0)) from (hb2'.out.block w.heap.size hbs.out).trans (heap_alloc_new w _))
  have hlt1 := Lib.hid (show w.heap.size < (w2.drewN nq).heap.size from Nat.lt_of_lt_of_le hbs.out (Nat.le_trans hb2'.out.size (below_drewN (Below.refl w2.heap.size w2) nq).size))
  have hbw1 := Lib.hid (below_drewN hbw.out nq)
  obtain ⟨W1, hW1⟩ : ∃ W1, W1 = w2.drewN nq := ⟨_, rfl⟩
  rw [← hW1] at hev1 hlt1 hbw1
  rw [← hW1]
  clear hgood hev hbw hb2' y2 b1 hbe hlt hbs hW1 hr0
  go_cut [8] from 25 to 57 (fun p wr => ∃ hh out, p = .pointer (some ⟨hh, 0, Option.none⟩) ∧ Hid (WM w tb w.heap.size hh x Ax m cx X Aw nw cw out wr))
  case first =>
    as_aux_lemma =>
      refine wp_region_tail 15 3 (by decide) (by kernel_rfl) (RInv 58 [25, 26, 27, 28, 29, 30, 31, 32, 33, 34, 35, 36, 37, 38, 8] _ (pp7 b mb tb A n c (evv x Ax m cx) x.ses (decide (x.kind = 3)) (.slice Aw nw cw)) W1 (RX W1.heap.size X tb Aw nw cw)) (by kernel_rfl) (by kernel_rfl) (RInv.start rfl (RX.start (Nat.le_refl _)) (Below.refl _ _).drew) ?_ ?_
      · intro i hi D a w9 hI hcl hnd hpre
        have hi' : i < 15 := hi
        have hcase : i = 0 ∨ i = 1 ∨ i = 2 ∨ i = 3 ∨ i = 4 ∨ i = 5 ∨ i = 6 ∨ i = 7 ∨ i = 8 ∨ i = 9 ∨ i = 10 ∨ i = 11 ∨ i = 12 ∨ i = 13 ∨ i = 14 := by omega
        have hF := hI.fact
        rcases hcase with rfl | rfl | rfl | rfl | rfl | rfl | rfl | rfl | rfl | rfl | rfl | rfl | rfl | rfl | rfl
        · exact wpOp_move rfl (wanted_free rfl) _ rfl _ (hI.same 1 (by decide)) (hI.put (by decide) (by decide) (fun j _ _ h => pp7_any h) rfl (hI.more.pure _ (Below.refl _ _) (by decide) (by decide)) (hI.below))
        · exact wpOp_call1 rfl (wanted_free rfl) 32 _ _ rfl _ (hF 0 (hpre 0 (by kernel_rfl))) (enters_cloneB _ _) (cloneB20_any A n c X w9 (hX'.out.later (below_then hbw1.out hI.below)) (by omega)) (fun e w' h9 => by
            obtain ⟨r, rfl, hO, hb⟩ := h9
            exact ⟨_, rfl, (hI.put (by decide) (by decide) (fun j _ _ h => pp7_any h) trivial (hI.more.op1 hb hO (fun d => hnd (hcl 13 d 1 (by kernel_rfl))) (by rw [hI.size]; decide)) (below_then hI.below hb))⟩)
        · exact wpOp_move rfl (wanted_free rfl) _ rfl _ (hI.same 0 (by decide)) (hI.put (by decide) (by decide) (fun j _ _ h => pp7_any h) rfl (hI.more.pure _ (Below.refl _ _) (by decide) (by decide)) (hI.below))
        · exact wpOp_nil9 rfl (wanted_free rfl) _ rfl _ (hF 2 (hpre 2 (by kernel_rfl))) (hI.put (by decide) (by decide) (fun j _ _ h => pp7_any h) rfl (hI.more.pure _ (Below.refl _ _) (by decide) (by decide)) (hI.below))
        · exact wpOp_field rfl (wanted_free rfl) _ _ _ rfl _ _ (hF 3 (hpre 3 (by kernel_rfl))) (run_fieldK0 w9 b) (hI.put (by decide) (by decide) (fun j _ _ h => pp7_any h) rfl (hI.more.pure _ (Below.refl _ _) (by decide) (by decide)) (hI.below))
        · exact wpOp_load rfl (wanted_free rfl) _ _ rfl _ _ (hF 4 (hpre 4 (by kernel_rfl))) (run_loadWT w9 _ _ (hB.out.later (below_then hbw1.out hI.below)).cell.1) (hI.put (by decide) (by decide) (fun j _ _ h => pp7_any h) rfl (hI.more.pure _ (Below.refl _ _) (by decide) (by decide)) (hI.below))
        · exact wpOp_move rfl (wanted_free rfl) _ rfl _ (hI.same 0 (by decide)) (hI.put (by decide) (by decide) (fun j _ _ h => pp7_any h) rfl (hI.more.pure _ (Below.refl _ _) (by decide) (by decide)) (hI.below))
        · exact wpOp_nil9 rfl (wanted_free rfl) _ rfl _ (hF 6 (hpre 6 (by kernel_rfl))) (hI.put (by decide) (by decide) (fun j _ _ h => pp7_any h) rfl (hI.more.pure _ (Below.refl _ _) (by decide) (by decide)) (hI.below))
        · exact wpOp_field rfl (wanted_free rfl) _ _ _ rfl _ _ (hF 7 (hpre 7 (by kernel_rfl))) (run_fieldK2 w9 b) (hI.put (by decide) (by decide) (fun j _ _ h => pp7_any h) rfl (hI.more.pure _ (Below.refl _ _) (by decide) (by decide)) (hI.below))
        · exact wpOp_load rfl (wanted_free rfl) _ _ rfl _ _ (hF 8 (hpre 8 (by kernel_rfl))) (run_loadKM w9 _ _ (hB.out.later (below_then hbw1.out hI.below)).cell.2.2) (hI.put (by decide) (by decide) (fun j _ _ h => pp7_any h) rfl (hI.more.pure _ (Below.refl _ _) (by decide) (by decide)) (hI.below))
        · exact wpOp_load rfl (wanted_free rfl) _ _ rfl _ _ (hI.same 5 (by decide)) (run_loadEvP w9 _ _ ((hI.below.block _ hlt1.out).trans hev1.out) rfl) (hI.put (by decide) (by decide) (fun j _ _ h => pp7_any h) rfl (hI.more.pure _ (Below.refl _ _) (by decide) (by decide)) (hI.below))
        · exact wpOp_call1 rfl (wanted_free rfl) 33 _ _ rfl _ (hF 10 (hpre 10 (by kernel_rfl))) (enters_place _ _) (placeOf_any x Ax m cx w9) (fun e w' h9 => by
            obtain ⟨rfl, hb⟩ := h9
            exact ⟨_, rfl, (hI.put (by decide) (by decide) (fun j _ _ h => pp7_any h) rfl (hI.more.pure _ hb (by decide) (by decide)) (below_then hI.below hb))⟩)
        · exact wpOp_lookup rfl (wanted_free rfl) _ _ _ rfl _ _ _ (hF 9 (hpre 9 (by kernel_rfl))) (hF 11 (hpre 11 (by kernel_rfl))) (by have h9 := (hB.out.later (below_then hbw1.out hI.below)).map.look keyW_stream Try.underlying64 (zeroH21 w9) x.ses (decide (x.kind = 3)) hi64; rw [hval'.out] at h9; exact h9) (hI.put (by decide) (by decide) (fun j _ _ h => pp7_any h) rfl (hI.more.pure _ (Below.refl _ _) (by decide) (by decide)) (hI.below))
        · obtain ⟨A3, c3, e26, q26⟩ := (hI.more.own (hpre 1 (by kernel_rfl))).holds
          clear q26
          generalize X.length = lx at e26
          have hq := hI.more.op13 (by rw [hI.size]; decide)
          have e30 : a.eval (.tmp 30) = .pointer (some ⟨tb, 0, Option.none⟩) := (hF 5 (hpre 5 (by kernel_rfl)))
          have e37 : a.eval (.tmp 37) = .slice Aw nw cw := (hF 12 (hpre 12 (by kernel_rfl)))
          rw [e26] at hq
          exact wpOp_agg rfl (wanted_free rfl) _ _ rfl #[(0, .slice A3 lx c3), (1, .pointer (some ⟨tb, 0, Option.none⟩)), (2, .slice Aw nw cw)] (by simp [e26, e30, e37]) _ (run_buildW w9 A3 Aw lx c3 nw cw (some ⟨tb, 0, Option.none⟩)) (hI.put (by decide) (by decide) (fun j _ _ h => pp7_any h) trivial (hq) (hI.below))
        · exact wpOp_alloc rfl (wanted_free rfl) _ rfl _ (run_allocW w9) (hI.put (by decide) (by decide) (fun j _ _ h => pp7_any h) trivial (hI.more.op14 (by rw [hI.size]; decide)) (below_then hI.below (below_box w9 _)))
      · intro D a w5 hI hall
        have hO := hI.more.own (hall 1 (by decide))
        have e38 := hI.more.bld (hall 13 (by decide))
        obtain ⟨hh, e8, hp, hB8, hne⟩ := hI.more.alc (hall 14 (by decide))
        have hne := hne (hall 1 (by decide))
        have hbl := hI.below
        have hsz := hI.size
        have hdone := hI.done (by decide) rfl (fun i hi => hall i hi)
        clear hI hall
        obtain ⟨A3, c3, e26, q26⟩ := hO.holds
        clear q26
        generalize X.length = lx at e26
        obtain ⟨out, hout⟩ : ∃ out, out = a.eval (.tmp 26) := ⟨_, rfl⟩
        rw [← hout] at hO e38 hne e26
        have hlh := (Array.getElem?_eq_some_iff.1 hp).1
        have hrow := (hbl.block _ hlt1.out).trans hev1.out
        have hlg := (Array.getElem?_eq_some_iff.1 hrow).1
        have hgh : w.heap.size ≠ hh := by have := hlt1.out; omega
        have hal : Alt w5 (w5.setRow hh #[out, .pointer (some ⟨tb, 0, Option.none⟩), .slice Aw nw cw]) (fun j => j = hh) := ⟨rfl, rfl, rfl, by simp [World.setRow], fun k _ hk => setRow_other _ _ _ _ hk⟩
        have hbw5 := below_then hbw1.out hbl
        have hM := Lib.hid (show WM w tb w.heap.size hh x Ax m cx X Aw nw cw out (w5.setRow hh #[out, .pointer (some ⟨tb, 0, Option.none⟩), .slice Aw nw cw]) from
          ⟨below_setRow hbw5 (Nat.le_trans hbw1.out.size hB8) _, (hO.low hbw1.out.size).alt hal fun q e hq => hne (by rw [e, hq]), fun q e => ⟨fun e2 => by have h1 := (hO.2.lt q e).1; have h2 := hlt1.out; omega, fun e2 => hne (by rw [e, e2])⟩, setRow_heap _ _ _ _ _ _ hp, (setRow_other _ _ _ _ hgh).trans hrow, Nat.le_refl _, Nat.le_trans hbw1.out.size hB8, hgh⟩)
        · clear hO hal hbw5 hrow hlg
          show wpOps _ _ _ [15] a w5
          rw [wpOps_cons]
          refine wpOp_store rfl (wanted_free rfl) _ _ _ rfl _ _ e8 e38 (run_storeRowW w5 hh _ _ hp rfl rfl (by subst e26; simp [Value.oneCell'])) ?_
          show wpOps _ _ _ [] a _
          rw [wpOps]
          obtain ⟨fs, ha, _⟩ := hdone
          have hN : ∀ t ∈ [25, 26, 27, 28, 29, 30, 31, 32, 33, 34, 35, 36, 37, 38, 8], t < 58 := by decide
          have e9 := e8
          rw [putAll_eval20 ha (by decide) (fun t ht => hN t ht) (t := 8) (by decide)] at e9
          clear hN
          clear e8 e38 hp hne hbl hlh hsz hout e26 hgh hB8
          subst ha
          simp only [putAll, List.map_cons, List.map_nil, Act.put, List.setIfInBounds_toArray, List.set_cons_zero, List.set_cons_succ]
          rw [e9]
          clear e9
          generalize fs 25 = y25
          generalize fs 26 = y26
          generalize fs 27 = y27
          generalize fs 28 = y28
          generalize fs 29 = y29
          generalize fs 30 = y30
          generalize fs 31 = y31
          generalize fs 32 = y32
          generalize fs 33 = y33
          generalize fs 34 = y34
          generalize fs 35 = y35
          generalize fs 36 = y36
          generalize fs 37 = y37
          generalize fs 38 = y38
          go_wp2_with fail
          go_meet
          case rel => exact ⟨hh, out, rfl, hM⟩

  obtain ⟨hh, out, rfl, hM⟩ := hcut
  clear hev1 hlt1 hbw1 hi64 hval'
  go_upto_region 8 with fail
  have y2 : wc.cell? ⟨w.heap.size, 2, Option.none⟩ = some (.int .i64 x.tick) := (EvAt.row hM.out.bg : EvAt wc w.heap.size x Ax m cx).c2
  have b1 := (hB.out.later hM.out.below).cell.2.1
  have y2' := fun o => cell_later (below_box wc o) y2
  have b1' := fun o => cell_later (below_box wc o) b1
  have hsub : wrap64 (x.tick - k.tick) = (dn : Int) := by rw [ed'.out]; exact wrap_int (by omega) (by omega)
  have hsub2 : x.tick - k.tick = (dn : Int) := ed'.out
  go_cut [9] from 39 to 57 (fun p wr => p = .pointer (some ⟨wc.heap.size, 0, Option.none⟩) ∧ wr = (wc.alloc (.cells #[.int .i64 dn] 3)).drew)
  case first =>
    go_region
    all_goals
      go_wp2_with fail
      go_meet
      case rel => exact ⟨rfl, rfl⟩
  obtain ⟨rfl, rfl⟩ := hcut
  have hV3 := Lib.hid (show WV w b tb mb T0 L ks val k w.heap.size hh wc.heap.size x Ax m cx dn Aw nw cw k.tab X (wc.alloc (.cells #[.int .i64 dn] 3)).drew from ⟨out, (hM.out.wr hB.out dn).later (Below.refl _ _).drew⟩)
  obtain ⟨lb, hlb⟩ : ∃ lb, lb = wc.heap.size := ⟨_, rfl⟩
  obtain ⟨V3, hV3e⟩ : ∃ V3, V3 = (wc.alloc (.cells #[.int .i64 dn] 3)).drew := ⟨_, rfl⟩
  rw [← hV3e, ← hlb] at hV3
  rw [← hV3e, ← hlb]
  clear hM y2 b1 y2' b1' hsub hsub2 hlb hV3e
  have hXl := hX'.out.len
  have zk : (enc kn).length ≤ 10 := size_le10 (by omega)
  have zs : (enc sn).length ≤ 10 := size_le10 (by omega)
  have zd : (enc dn).length ≤ 10 := size_le10 (by omega)
  have hm9 := Lib.hid (show m ≤ 1000000 by have h1 := hx'.out.rd.len; have h2 := hg'.out.1.2.2.2.2.2.2.2.2.1; omega)
  have hk9 := Lib.hid (show 1 ≤ x.kind by have := ek'.out; omega)
  have hs9 := Lib.hid (show 0 ≤ x.ses ∧ x.ses ≤ 1048576 from ⟨hg'.out.1.1, hg'.out.1.2.1⟩)
  have hY3 := Lib.hid (show X.length ≤ 2000000000 by omega)
  have hY4 := Lib.hid (show (X ++ enc kn).length ≤ 2000000000 by simp only [List.length_append]; omega)
  have hY5 := Lib.hid (show (X ++ enc kn ++ enc sn).length ≤ 2000000000 by simp only [List.length_append]; omega)
  have hY6 := Lib.hid (show (X ++ enc kn ++ enc sn ++ enc dn).length ≤ 1000000000 by simp only [List.length_append]; omega)
  have hk1 := Lib.hid (wvc_amount w.heap.size 0 kn hV3.out (by rw [← ek'.out]; exact hV3.out.ev.c0) (by omega) hY3.out)
  clear zk zs zd hXl
  go_wp2_with (first
    | (go_at_call 34; (with_reducible refine Calls.mono hk1.out ?_); (rintro e w4 ⟨rfl, hq⟩; have hV4 := Lib.hid hq; have hs1 := Lib.hid (wvc_amount w.heap.size 1 sn hq (by rw [← es'.out]; exact hq.ev.c1) (by omega) hY4.out); clear hq hk1))
    | (go_at_call 34; (with_reducible refine Calls.mono hs1.out ?_); (rintro e w5 ⟨rfl, hq⟩; have hV5 := Lib.hid hq; have hd1 := Lib.hid (wvc_amount lb 0 dn hq hq.dif (by omega) hY5.out); clear hq hs1))
    | (go_at_call 34; (with_reducible refine Calls.mono hd1.out ?_); (rintro e w6 ⟨rfl, hq⟩; have hv1 := Lib.hid (visitW_any hg'.out h64'.out hx'.out hw'.out hnw hT'.out hY6.out hq); clear hq hd1))
    | (go_at_call 35; (with_reducible refine Calls.mono hv1.out ?_); (rintro e w7 ⟨rfl, out7, hR7⟩; obtain ⟨T1, hB7, hT7, ho7, h27, hx7, hnot⟩ := hR7.facts hx'.out; have hR7' := Lib.hid hR7; have hr7 := Lib.hid (show w7.heap[w.heap.size]? = some (.cells #[.int .i64 x.kind, .int .i64 x.ses, .int .i64 x.tick, .string x.me, .string x.url, .slice Ax m cx, .string x.body, .int .i64 x.status, .int .i64 x.code, .bool x.cred, .string x.no, .int .u64 (x.n : Int)] 25 (0, 0)) from hR7.bg); have hkp := Lib.hid (keep_any b tb mb T1 L ks val { k with tab := headL k x } x Ax m cx w7 hB7 hx7 hm9.out hk9.out hs9.out); have hT7' := Lib.hid hT7; have ho7' := Lib.hid ho7; have h27' := Lib.hid h27; have hnot' := Lib.hid hnot; clear hR7 hB7 hT7 ho7 h27 hx7 hnot hv1))
    | (with_reducible refine wpList_load_row rfl _ _ rfl w.heap.size rfl 25 #[.int .i64 x.kind, .int .i64 x.ses, .int .i64 x.tick, .string x.me, .string x.url, .slice Ax m cx, .string x.body, .int .i64 x.status, .int .i64 x.code, .bool x.cred, .string x.no, .int .u64 (x.n : Int)] (0, 0) (.struct fe) hr7.out hfe.out rfl hie.out ?_)
    | (go_at_call 36; refine Calls.mono hkp.out ?_; (rintro e w8 ⟨rfl, L8, ks8, val8, hB8, ha8, hn8⟩; have hbh := Lib.hid ((ha8.block hh hR7'.out.lt.2.1 (hnot'.out hh hR7'.out.hw h27'.out)).trans hR7'.out.bh); have c9 := cell_of_row w8 hh 0 _ _ _ hbh.out; replace c9 : w8.cell? ⟨hh, 0, Option.none⟩ = some out7 := c9; have hB8' := Lib.hid hB8; have ha8' := Lib.hid ha8; have hn8' := Lib.hid hn8; clear hB8 ha8 hn8 hkp)))
  go_ret2
  have hold := hR7'.out.old
  have hlt7 := hR7'.out.size
  have how := hR7'.out.own.2.lt
  have hno7 : ∀ q, out7.ownBlock = some q → ¬ inK b mb T1 L q := fun q e => hnot'.out q (how q e).1 (ho7'.out q e)
  refine ⟨out7, T1, L8, ks8, val8, rfl, hB8'.out, (hR7'.out.alt.mono fun j _ hj => .inr (.inl hj)).trans ha8'.out fun j hj hk9 => (hT7'.out j hk9).resolve_right (by omega), fun j hj => ?_, ?_, fun q e hj => ?_⟩
  · rcases hj with h | h | h | h
    · exact .inl (.inl h)
    · exact hT7'.out j (.inr (.inl h))
    · exact .inl (.inr (.inr (.inl h)))
    · exact (hn8'.out j h).imp (fun h8 => .inr (.inr (.inr h8))) fun h8 => Nat.le_trans hlt7 h8
  · have e1 : X ++ encB k x = X ++ enc kn ++ enc sn ++ enc dn ++ (encs (fieldsE x) ++ (putsB k.tab (textsE x) ++ headB k x)) := by
      unfold encB numsE
      rw [ek'.out, es'.out, ed'.out]
      simp [encs]
    rw [e1]
    exact hR7'.out.own.alt ha8'.out hno7
  · rcases hj with h | h | h | h
    · exact hno7 q e (.inl h)
    · exact hno7 q e (.inr (.inl h))
    · exact hno7 q e (.inr (.inr (.inl h)))
    · rcases hn8'.out q h with h8 | h8
      · exact hno7 q e (.inr (.inr (.inr h8)))
      · have := (how q e).2
        omega
end Go.Proofs.Ytodncamohimmmaa

namespace Go.Proofs.Ytodncamohimmmaa
open Go.RowKit Go.Lib Go.Maps Leb

theorem bookSaid : BookSaid PBk where
  low := fun h => h.low
  alt := fun h ha hS => h.alt ha hS
  new := fun W => newE_any W
  put := fun b S k A n c X x Ax m cx W hP hOk hX ho hx h64 hcode hT hn => by
    obtain ⟨tb, mb, T0, L, ks, val, h, hS⟩ := hP
    have hx' : HdO W Ax m cx x.hs (inK b mb T0 L) := ⟨hx.rd, hx.off.mono fun j hj => (hS j).2 hj⟩
    have hnil : ∀ w' : World, Owns w' W.heap.size 5 (.slice Option.none 0 0) [] := fun w' => ⟨Bytes.nil, World.ownsRow_nil _ _ _ _⟩
    by_cases hg : GoodE x
    · by_cases ht : x.tick < k.tick
      · rw [putE_order hg ht]
        refine (putP_order b tb mb T0 L ks val k A n c x Ax m cx W h hx.rd hg ht).mono ?_
        rintro e w' ⟨rfl, hb⟩
        exact ⟨_, S, rfl, ⟨tb, mb, T0, L, ks, val, h.later hb, hS⟩, alt_below hb _, fun j hj => .inl hj, hnil w', fun g hg => by cases hg⟩
      · rw [putE_ok hg (by omega)]
        have hb := hg.1
        obtain ⟨Aw, nw, cw, e1, hH, hL⟩ := h.rd x.ses (decide (x.kind = 3)) (by have h1 := hb.1; have h2 := hb.2.1; unfold I64; omega)
        refine (putP_ok b tb mb T0 L ks val k A n c X x Ax m cx Aw nw cw W h hX hx' hg h64 hOk.low (by omega) hT hn e1 ⟨hH, fun g off e h0 hj => h.tL g hj (hL g off e h0)⟩ (by rw [← hH.len]; exact hOk.few _ _)).mono ?_
        rintro e w' ⟨r, T1, L', ks', val', rfl, hB, ha, hn', hO, hof⟩
        refine ⟨r, inK b mb T1 L', rfl, ⟨tb, mb, T1, L', ks', val', hB, fun _ => Iff.rfl⟩, ha.mono fun j _ hj => (hS j).2 hj, fun j hj => (hn' j hj).imp (fun h8 => (hS j).2 h8) id, hO, hof⟩
    · rw [putE_bad hg]
      refine (putP_bad b tb mb T0 L ks val k A n c x Ax m cx W h hx.rd hg).mono ?_
      rintro e w' ⟨rfl, hb⟩
      exact ⟨_, S, rfl, ⟨tb, mb, T0, L, ks, val, h.later hb, hS⟩, alt_below hb _, fun j hj => .inl hj, hnil w', fun g hg => by cases hg⟩
end Go.Proofs.Ytodncamohimmmaa
