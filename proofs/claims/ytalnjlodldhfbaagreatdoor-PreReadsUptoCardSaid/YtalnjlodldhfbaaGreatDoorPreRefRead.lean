/-
  The reference's Read of layer 14. Conditions: those that each theorem states.
-/
import Derived.Test.YtalnjlodldhfbaaGreatDoorPreMath
import Derived.Test.YtalnjlodldhfbaaGreatDoorCorsRef
import Derived.Test.YtalnjlodldhfbaaGreatDoorAscSign
import Derived.Test.YtalnjlodldhfbaaGreatDoorAscRefList
import Derived.Test.YtalnjlodldhfbaaGreatDoorAscRefNum
import Derived.Test.YtalnjlodldhfbaaGreatDoorSafeRegion
import Derived.Laws.ResultCell
namespace Go.Proofs.YtalnjlodldhfbaaGreatDoor
open Go.RowKit Go.Lib Go.Shelf

set_option maxRecDepth 100000 in
theorem refRead_result {tmps : Array Value} {w : World} {g : Nat} {x y : Value} {z : Int} {b : Bool} (hp : tmps.getD 6 undef = .pointer (some ⟨g, 0, Option.none⟩)) (hb : tmps.getD 7 undef = .bool b)
    (h0 : w.cell? ⟨g, 0, Option.none⟩ = some x) (h1 : w.cell? ⟨g, 1, Option.none⟩ = some y) (h2 : w.cell? ⟨g, 2, Option.none⟩ = some (.int .i64 z)) :
    (results Tryz.f14 tmps).run Tryz.prog w = .ok (.tuple #[.agg #[x, y, .int .i64 z], .bool b]) w := by
  rw [results_cell_tmp (fn := Tryz.f14) (p := 6) (u := 7) (ty := 36) rfl, hp, hb]
  simp [go_sem, h0, h1, h2]

/-- Block g holds these three cells. -/
def Three (W : World) (g : Nat) (x y z : Value) (t : TypeId) : Prop := W.heap[g]? = some (.cells #[x, y, z] t (0, 0))
section
variable {W W' : World} {g : Nat} {x y z : Value} {t : TypeId}
theorem Three.lt (h : Three W g x y z t) : g < W.heap.size := (Array.getElem?_eq_some_iff.1 h).1
theorem Three.later (h : Three W g x y z t) (hb : Below W.heap.size W W') : Three W' g x y z t := (hb.block _ h.lt).trans h
theorem Three.cells (h : Three W g x y z t) : W.cell? ⟨g, 0, Option.none⟩ = some x ∧ W.cell? ⟨g, 1, Option.none⟩ = some y ∧ W.cell? ⟨g, 2, Option.none⟩ = some z := by
  refine ⟨?_, ?_, ?_⟩
  · rw [cell_of_row W _ 0 _ _ _ h]; rfl
  · rw [cell_of_row W _ 1 _ _ _ h]; rfl
  · rw [cell_of_row W _ 2 _ _ _ h]; rfl
theorem Three.free (h : Three W g x y z t) : W.frozen? ⟨g, 0, Option.none⟩ = false ∧ W.frozen? ⟨g, 1, Option.none⟩ = false ∧ W.frozen? ⟨g, 2, Option.none⟩ = false :=
  ⟨frozen_of_row W _ 0 _ _ h, frozen_of_row W _ 1 _ _ h, frozen_of_row W _ 2 _ _ h⟩
theorem Three.set0 (h : Three W g x y z t) (u : Value) : Three (W.setCell ⟨g, 0, Option.none⟩ u) g u y z t := heap_setCell_same W g 0 _ _ u h
theorem Three.set1 (h : Three W g x y z t) (u : Value) : Three (W.setCell ⟨g, 1, Option.none⟩ u) g x u z t := heap_setCell_same W g 1 _ _ u h
theorem Three.set2 (h : Three W g x y z t) (u : Value) : Three (W.setCell ⟨g, 2, Option.none⟩ u) g x y u t := heap_setCell_same W g 2 _ _ u h
theorem Three.other (h : Three W g x y z t) {g' : Nat} (hne : g ≠ g') (i : Nat) (u : Value) : Three (W.setCell ⟨g', i, Option.none⟩ u) g x y z t := (heap_setCell_other W ⟨g', i, Option.none⟩ g u hne).trans h
theorem three_new (w : World) (x y z : Value) (t : TypeId) : Three (w.alloc (.cells #[x, y, z] t)) w.heap.size x y z t := heap_alloc_new w _
end

theorem quo_two {st : Int} : (st.tdiv 100 = 2) ↔ (200 ≤ st ∧ st ≤ 299) := by
  rcases Int.le_total 0 st with h | h
  · rw [Int.tdiv_eq_ediv_of_nonneg h]
    omega
  · have h1 : st.tdiv 100 = -((-st).tdiv 100) := by rw [Int.neg_tdiv, Int.neg_neg]
    rw [h1, Int.tdiv_eq_ediv_of_nonneg (by omega)]
    omega

/-- A number of 64 bits with a sign. -/
def I64 (n : Int) : Prop := -9223372036854775808 ≤ n ∧ n ≤ 9223372036854775807
theorem quo_wrap {st : Int} (h : I64 st) : wrap64 (st.tdiv 100) = st.tdiv 100 := by
  obtain ⟨h1, h2⟩ := h
  have hb : -9223372036854775808 ≤ st.tdiv 100 ∧ st.tdiv 100 ≤ 9223372036854775807 := by
    rcases Int.le_total 0 st with h | h
    · rw [Int.tdiv_eq_ediv_of_nonneg h]
      omega
    · have h1 : st.tdiv 100 = -((-st).tdiv 100) := by rw [Int.neg_tdiv, Int.neg_neg]
      rw [h1, Int.tdiv_eq_ediv_of_nonneg (by omega)]
      omega
  exact IntWalk.wrap64_in _ hb

/-- What the reference's Read has laid: the response (its headers are v), its result and its empty answer. -/
structure RS (w W : World) (v : Value) : Prop where
  hd : W.cell? ⟨w.heap.size, 1, Option.none⟩ = some v
  res : Three W (w.heap.size + 1) (.slice Option.none 0 0) (.slice Option.none 0 0) (.int .i64 0) 36
  no : Three W (w.heap.size + 1 + 1) (.slice Option.none 0 0) (.slice Option.none 0 0) (.int .i64 0) 36
theorem RS.later {w W W' : World} {v : Value} (h : RS w W v) (hb : Below W.heap.size W W') : RS w W' v := ⟨cell_later hb h.hd, h.res.later hb, h.no.later hb⟩
theorem RS.other {w W : World} {v : Value} (h : RS w W v) {g : Nat} (hg : w.heap.size + 1 + 1 < g) (i : Nat) (u : Value) : RS w (W.setCell ⟨g, i, Option.none⟩ u) v :=
  ⟨by rw [World.cell?_setCell_other (h := fun c => by injection c with c1; omega)]; exact h.hd, h.res.other (by omega) i u, h.no.other (by omega) i u⟩
theorem rs_start (w : World) (x v y : Value) : RS w (((w.alloc (.cells #[x, v, y] 30)).alloc (.cells #[.slice Option.none 0 0, .slice Option.none 0 0, .int .i64 0] 36)).alloc (.cells #[.slice Option.none 0 0, .slice Option.none 0 0, .int .i64 0] 36)) v ∧
    Below w.heap.size w (((w.alloc (.cells #[x, v, y] 30)).alloc (.cells #[.slice Option.none 0 0, .slice Option.none 0 0, .int .i64 0] 36)).alloc (.cells #[.slice Option.none 0 0, .slice Option.none 0 0, .int .i64 0] 36)) := by
  have h1 := (box_three w x v y 30).2.1
  have h2 := three_new (w.alloc (.cells #[x, v, y] 30)) (.slice Option.none 0 0) (.slice Option.none 0 0) (.int .i64 0) 36
  have h3 := three_new ((w.alloc (.cells #[x, v, y] 30)).alloc (.cells #[.slice Option.none 0 0, .slice Option.none 0 0, .int .i64 0] 36)) (.slice Option.none 0 0) (.slice Option.none 0 0) (.int .i64 0) 36
  have e1 : (w.alloc (.cells #[x, v, y] 30)).heap.size = w.heap.size + 1 := by simp
  have e2 : ((w.alloc (.cells #[x, v, y] 30)).alloc (.cells #[.slice Option.none 0 0, .slice Option.none 0 0, .int .i64 0] 36)).heap.size = w.heap.size + 1 + 1 := by simp
  rw [e1] at h2
  rw [e2] at h3
  exact ⟨⟨cell_later (below_box _ _) (cell_later (below_box _ _) h1), h2.later (below_box _ _), h3⟩, below_then (below_then (below_box _ _) (below_box _ _)) (below_box _ _)⟩

set_option maxHeartbeats 8000000 in
set_option maxRecDepth 100000 in
/-- Where the state alone says no. -/
theorem refRead_state (A : Option Addr) (n c : Nat) (bd s : ByteArray) (st k : Int) (w : World) (hst : I64 st) (hno : (decide (200 ≤ st) && decide (st ≤ 299)) = false) :
    Calls Tryz.prog 14 #[.agg #[.int .i64 st, .slice A n c, .string bd], .string s, .int .i64 k] w fun e w' => ∃ v, e = .returned (.tuple #[v, .bool false]) ∧ Ans w' v [] [] 0 ∧ Below w.heap.size w w' := by
  have hq : (wrap64 (st.tdiv 100) != 2) = true := by
    rw [quo_wrap hst]
    have h : ¬ st.tdiv 100 = 2 := by
      rw [quo_two]
      rintro ⟨h1, h2⟩
      rw [decide_eq_true h1, decide_eq_true h2] at hno
      cases hno
    simpa using h
  have hS := Lib.hid (rs_start w (.int .i64 st) (.slice A n c) (.string bd))
  clear hno
  go_enter Tryz.func14, Tryz.ntmps14
  go_wp2
  (try simp only [Exit.inBlock, Exit.then])
  exact bodyPost_ret (refRead_result rfl rfl hS.out.1.res.cells.1 hS.out.1.res.cells.2.1 hS.out.1.res.cells.2.2) rfl ⟨_, rfl, ans_none _, hS.out.2⟩

-- the ways behind the state

theorem Three.put {W : World} {g : Nat} {a b c : Value} {t : TypeId} (h : Three W g a b c t) (x y z : Value) : Three (((W.setCell ⟨g, 0, Option.none⟩ x).setCell ⟨g, 1, Option.none⟩ y).setCell ⟨g, 2, Option.none⟩ z) g x y z t := ((h.set0 x).set1 y).set2 z
theorem below_put3 {B : Nat} {w W : World} (h : Below B w W) {g : Nat} (hg : B ≤ g) (x y z : Value) : Below B w (((W.setCell ⟨g, 0, Option.none⟩ x).setCell ⟨g, 1, Option.none⟩ y).setCell ⟨g, 2, Option.none⟩ z) :=
  ((h.setCell (p := ⟨g, 0, Option.none⟩) hg x).setCell (p := ⟨g, 1, Option.none⟩) hg y).setCell (p := ⟨g, 2, Option.none⟩) hg z

set_option maxHeartbeats 16000000 in
set_option maxRecDepth 100000 in
/-- Where the check says no. -/
theorem refRead_check (A : Option Addr) (n c : Nat) (l : List Hd) (bd s : ByteArray) (st k : Int) (w : World) (h : Hds w A n c l) (hB : Fits l) (hby : bytesIn l ≤ 10000000) (hst : I64 st) (hs1 : 200 ≤ st) (hs2 : st ≤ 299) (hno : seen l s k = false) :
    Calls Tryz.prog 14 #[.agg #[.int .i64 st, .slice A n c, .string bd], .string s, .int .i64 k] w fun e w' => ∃ v, e = .returned (.tuple #[v, .bool false]) ∧ Ans w' v [] [] 0 ∧ Below w.heap.size w w' := by
  have hC := Lib.hid (fun W (hb : Below w.heap.size w W) => refCheck_any A n c l s k W (h.later hb) hB hby)
  rw [hno] at hC
  have hq : (wrap64 (st.tdiv 100) != 2) = false := by
    rw [quo_wrap hst]
    have h : st.tdiv 100 = 2 := quo_two.2 ⟨hs1, hs2⟩
    simpa using h
  obtain ⟨w0, hw0⟩ : ∃ w0, w0 = (((w.alloc (.cells #[.int .i64 st, .slice A n c, .string bd] 30)).alloc (.cells #[.slice Option.none 0 0, .slice Option.none 0 0, .int .i64 0] 36)).alloc (.cells #[.slice Option.none 0 0, .slice Option.none 0 0, .int .i64 0] 36)) := ⟨_, rfl⟩
  have hR0 := Lib.hid (hw0 ▸ rs_start w (.int .i64 st) (.slice A n c) (.string bd))
  have hw0' := Lib.hid hw0.symm
  clear hw0 h hB hst hs1 hs2
  go_enter Tryz.func14, Tryz.ntmps14
  go_wp2_with fail
  rw [hw0'.out]
  go_wp2_with (first
    | (go_at_call 28; (with_reducible refine (hC.out w0 hR0.out.2).mono ?_); rintro e1 w1 ⟨rfl, hb1⟩; have R1 := Lib.hid (hR0.out.1.later hb1); have B1 := Lib.hid (below_then hR0.out.2 hb1); have q1 := R1.out.hd; obtain ⟨x10, x11, x12⟩ := R1.out.res.cells; obtain ⟨f10, f11, f12⟩ := R1.out.res.free; obtain ⟨n10, n11, n12⟩ := R1.out.no.cells))
  (try simp only [Exit.inBlock, Exit.then])
  have hP := (R1.out.res.put (.slice Option.none 0 0) (.slice Option.none 0 0) (.int .i64 0)).cells
  exact bodyPost_ret (refRead_result rfl rfl hP.1 hP.2.1 hP.2.2) rfl ⟨_, rfl, ans_none _, below_put3 B1.out (Nat.le_succ _) _ _ _⟩

theorem OwnsT.under {W W' : World} {B C : Nat} {v : Value} {l : List (List UInt8)} (h : OwnsT W B v l) (hv : ∀ k, v.ownBlock = some k → k < C) (hb : Below C W W') : OwnsT W' B v l := by
  refine ⟨h.1, ?_⟩
  rcases h.2 with h0 | ⟨g, cap, cur, e, hB, hg, rest⟩
  · exact .inl h0
  · exact .inr ⟨g, cap, cur, e, hB, (hb.block g (hv g (by rw [e]; rfl))).trans hg, rest⟩
theorem OwnsT.setLow {W : World} {B g : Nat} {v : Value} {l : List (List UInt8)} (h : OwnsT W B v l) (hg : g < B) (i : Nat) (u : Value) : OwnsT (W.setCell ⟨g, i, Option.none⟩ u) B v l :=
  ownsRow_setCell_below h (a := ⟨g, i, Option.none⟩) hg u
theorem Three.under {W W' : World} {g C : Nat} {x y z : Value} {t : TypeId} (h : Three W g x y z t) (hg : g < C) (hb : Below C W W') : Three W' g x y z t := (hb.block g hg).trans h

/-- What stands still while the names are put one by one: the response, the result, the empty answer; the answer's methods; the lists. Its names are v1. -/
structure Still (w : World) (C ga B3 B5 : Nat) (hd vM vH v1 : Value) (ms ps : List (List UInt8)) (W : World) : Prop where
  rs : RS w W hd
  an : Three W ga vM v1 (.int .i64 5) 36
  om : OwnsT W B3 vM ms
  oh : OwnsT W B5 vH ps
  lo : Below w.heap.size w W
  up : C ≤ W.heap.size
/-- The blocks that are spoken of lie below C. -/
structure Lows (w : World) (C ga B3 B5 : Nat) (vM vH : Value) : Prop where
  l0 : w.heap.size + 1 + 1 < ga
  l1 : ga < B3
  l3 : B3 ≤ B5
  l5 : B5 ≤ C
  lm : ∀ k, vM.ownBlock = some k → k < C
  lh : ∀ k, vH.ownBlock = some k → k < C
section
variable {w : World} {C ga B3 B5 : Nat} {hd vM vH v1 : Value} {ms ps : List (List UInt8)} {W W' : World}
theorem Still.under (h : Still w C ga B3 B5 hd vM vH v1 ms ps W) (L : Lows w C ga B3 B5 vM vH) (hb : Below C W W') : Still w C ga B3 B5 hd vM vH v1 ms ps W' := by
  have h0 := L.l0
  have h1 := L.l1
  have h3 := L.l3
  have h5 := L.l5
  exact ⟨⟨by rw [World.cell?_of_block (hb.block w.heap.size (by omega))]; exact h.rs.hd, h.rs.res.under (by omega) hb, h.rs.no.under (by omega) hb⟩, h.an.under (by omega) hb, h.om.under L.lm hb, h.oh.under L.lh hb, h.lo.trans (hb.mono (by omega)), Nat.le_trans h.up hb.size⟩
theorem Still.later (h : Still w C ga B3 B5 hd vM vH v1 ms ps W) (L : Lows w C ga B3 B5 vM vH) (hb : Below W.heap.size W W') : Still w C ga B3 B5 hd vM vH v1 ms ps W' := h.under L (hb.mono h.up)
theorem Still.grown (h : Still w C ga B3 B5 hd vM vH v1 ms ps W) (L : Lows w C ga B3 B5 vM vH) {row : Option Nat} (hg : W.grownBy W' row) (hr : ∀ k, row = some k → C ≤ k) : Still w C ga B3 B5 hd vM vH v1 ms ps W' :=
  h.under L ((Below.refl C W).grown hg h.up hr)
theorem Still.store (h : Still w C ga B3 B5 hd vM vH v1 ms ps W) (L : Lows w C ga B3 B5 vM vH) (v : Value) : Still w C ga B3 B5 hd vM vH v ms ps (W.setCell ⟨ga, 1, Option.none⟩ v) := by
  have h0 := L.l0
  have h1 := L.l1
  have h3 := L.l3
  have h5 := L.l5
  exact ⟨h.rs.other h0 1 v, h.an.set1 v, h.om.setLow h1 1 v, h.oh.setLow (by omega) 1 v, h.lo.setCell (p := ⟨ga, 1, Option.none⟩) (by show w.heap.size ≤ ga; omega) v, by simpa [World.setCell] using h.up⟩
end

/-- What the slots of the statement hold that puts a name. -/
def rrF (ga q : Nat) (A3 A4 : Option Addr) (n3 c3 n4 c4 gh : Nat) (x y : ByteArray) (j : Nat) (v : Value) (w : World) : Prop :=
  match j with
  | 0 => v = .pointer (some ⟨ga, 1, Option.none⟩)
  | 1 => v = .slice A4 n4 c4
  | 2 => v = .slice A3 n3 c3
  | 3 => v = .int .i64 (q : Int)
  | 4 => v = .pointer (some ⟨gh, 0 + q, Option.none⟩)
  | 5 => v = .string x
  | 6 => v = .string y
  | 7 => SS [y] v w
  | _ => True
theorem rrF_later {ga q : Nat} {A3 A4 : Option Addr} {n3 c3 n4 c4 gh : Nat} {x y : ByteArray} : Outlives (rrF ga q A3 A4 n3 c3 n4 c4 gh x y) := by
  intro j v w w' h hk
  unfold rrF at h ⊢
  split at h
  all_goals first | exact h.keeps hk | exact h
theorem enters_rlow (vs : Array Value) (w : World) : (callFunc 32 vs).run Tryz.prog w = .ok (.enter 32 vs) w := by kernel_rfl
set_option maxRecDepth 100000 in
theorem run_fieldR (w : World) (g : Nat) : (Instr.fieldAt 36 (.pointer (some ⟨g, 0, Option.none⟩)) 1).run Tryz.prog w = .ok (.pointer (some ⟨g, 1, Option.none⟩)) w := by go_simp
set_option maxRecDepth 100000 in
theorem run_loadSl (w : World) (g k : Nat) (A : Option Addr) (n c : Nat) (h : w.cell? ⟨g, k, Option.none⟩ = some (.slice A n c)) : (Instr.loadAt 31 (.pointer (some ⟨g, k, Option.none⟩))).run Tryz.prog w = .ok (.slice A n c) w := by go_simp
set_option maxRecDepth 100000 in
theorem run_storeSl (w : World) (g k : Nat) (A : Option Addr) (n c : Nat) (u : Value) (h : w.cell? ⟨g, k, Option.none⟩ = some u) (hf : w.frozen? ⟨g, k, Option.none⟩ = false) : (Instr.storeAt 31 (.pointer (some ⟨g, k, Option.none⟩)) (.slice A n c)).run Tryz.prog w = .ok () (w.setCell ⟨g, k, Option.none⟩ (.slice A n c)) := by go_simp

set_option maxHeartbeats 16000000 in
set_option maxRecDepth 100000 in
/-- Where the check says yes. -/
theorem refRead_yes (A : Option Addr) (n c : Nat) (l : List Hd) (bd s : ByteArray) (st k : Int) (w : World) (h : Hds w A n c l) (hB : Fits l) (hby : bytesIn l ≤ 10000000) (hst : I64 st) (hs1 : 200 ≤ st) (hs2 : st ≤ 299) (hc : seen l s k = true) :
    Calls Tryz.prog 14 #[.agg #[.int .i64 st, .slice A n c, .string bd], .string s, .int .i64 k] w fun e w' => ∃ v, e = .returned (.tuple #[v, .bool (allTok (partsOf nameM l) && allTok (partsOf nameH l))]) ∧ Ans w' v (mOf (allTok (partsOf nameM l) && allTok (partsOf nameH l)) l) (hOf (allTok (partsOf nameM l) && allTok (partsOf nameH l)) l) (aOf (allTok (partsOf nameM l) && allTok (partsOf nameH l)) l) ∧ Below w.heap.size w w' := by
  have hC := Lib.hid (fun W (hb : Below w.heap.size w W) => refCheck_any A n c l s k W (h.later hb) hB hby)
  rw [hc] at hC
  have hM := Lib.hid (fun W (hb : Below w.heap.size w W) => refGet_any A n c l nameM W (h.later hb) hB (by decide) hby)
  have hH := Lib.hid (fun W (hb : Below w.heap.size w W) => refGet_any A n c l nameH W (h.later hb) hB (by decide) hby)
  have hG := Lib.hid (fun W (hb : Below w.heap.size w W) => refGet_any A n c l nameA W (h.later hb) hB (by decide) hby)
  have hjM := joined_len nameM l
  have hjH := joined_len nameH l
  have hjA := joined_len nameA l
  have hLM := Lib.hid (fun W => refList_any (mk (joined (vals nameM l))) (by rw [mk_size]; omega) W)
  have hLH := Lib.hid (fun W => refList_any (mk (joined (vals nameH l))) (by rw [mk_size]; omega) W)
  have hN := Lib.hid (fun W => refNumber_any (mk (joined (vals nameA l))) (by rw [mk_size]; simp only [maxLen]; omega) 86400 (show 86400 ≤ 9223372036854775807 by decide) W)
  have hpM := Lib.hid (show ∀ p ∈ partsOf nameM l, p.length ≤ 140000000 from fun p hp => by have := part_len hp; omega)
  have hpH := Lib.hid (show ∀ p ∈ partsOf nameH l, p.length ≤ 140000000 from fun p hp => by have := part_len hp; omega)
  have hnM : (partsOf nameM l).length ≤ 140000000 := by have := listOf_len (joined (vals nameM l)); unfold partsOf; omega
  have hnH : (partsOf nameH l).length ≤ 140000000 := by have := listOf_len (joined (vals nameH l)); unfold partsOf; omega
  rw [mk_list] at hLM hLH hN
  rw [show ((86400 : Nat) : Int) = 86400 by simp] at hN
  change Hid (∀ W, Calls _ _ _ _ (GivesT W (partsOf nameM l))) at hLM
  change Hid (∀ W, Calls _ _ _ _ (GivesT W (partsOf nameH l))) at hLH
  obtain ⟨ok, hok⟩ : ∃ ok, ok = (allTok (partsOf nameM l) && allTok (partsOf nameH l)) := ⟨_, rfl⟩
  rw [← hok]
  have hOK : Hid (ok = ((partsOf nameM l).all token && (partsOf nameH l).all token)) := Lib.hid hok
  obtain ⟨rm, hrm⟩ : ∃ rm, rm = mOf ok l := ⟨_, rfl⟩
  obtain ⟨rh, hrh⟩ : ∃ rh, rh = hOf ok l := ⟨_, rfl⟩
  obtain ⟨ra, hra⟩ : ∃ ra, ra = aOf ok l := ⟨_, rfl⟩
  rw [← hrm, ← hrh, ← hra]
  have hRM : Hid (rm = if ok then partsOf nameM l else []) := Lib.hid hrm
  have hRH : Hid (rh = if ok then (partsOf nameH l).map lowP else []) := Lib.hid hrh
  have hRA : Hid (ra = if ok then (if isNumber (joined (vals nameA l)) then number (joined (vals nameA l)) 86400 else 5) else 0) := Lib.hid hra
  clear hok hrm hrh hra hjM hjH hjA hby
  generalize number (joined (vals nameA l)) 86400 = nu at hN hRA
  generalize isNumber (joined (vals nameA l)) = isn at hN hRA
  generalize mk (joined (vals nameA l)) = tA at hG hN
  generalize decide (0 < (vals nameA l).length) = bA at hG
  generalize partsOf nameM l = ms at hLM hpM hnM hOK hRM
  generalize mk (joined (vals nameM l)) = tM at hM hLM
  generalize decide (0 < (vals nameM l).length) = bM at hM
  generalize partsOf nameH l = ps at hLH hpH hnH hOK hRH
  generalize mk (joined (vals nameH l)) = tH at hH hLH
  generalize decide (0 < (vals nameH l).length) = bH at hH
  have hq : (wrap64 (st.tdiv 100) != 2) = false := by
    rw [quo_wrap hst]
    have h : st.tdiv 100 = 2 := quo_two.2 ⟨hs1, hs2⟩
    simpa using h
  obtain ⟨w0, hw0⟩ : ∃ w0, w0 = (((w.alloc (.cells #[.int .i64 st, .slice A n c, .string bd] 30)).alloc (.cells #[.slice Option.none 0 0, .slice Option.none 0 0, .int .i64 0] 36)).alloc (.cells #[.slice Option.none 0 0, .slice Option.none 0 0, .int .i64 0] 36)) := ⟨_, rfl⟩
  have hR0 := Lib.hid (hw0 ▸ rs_start w (.int .i64 st) (.slice A n c) (.string bd))
  have hw0' := Lib.hid hw0.symm
  clear hw0 h hB hst hs1 hs2
  go_enter Tryz.func14, Tryz.ntmps14
  go_wp2_with fail
  rw [hw0'.out]
  go_wp2_with (first
    | (go_at_call 28; (with_reducible refine (hC.out w0 hR0.out.2).mono ?_); rintro e1 w1 ⟨rfl, hb1⟩; have R1 := Lib.hid (hR0.out.1.later hb1); have B1 := Lib.hid (below_then hR0.out.2 hb1); have q1 := R1.out.hd; obtain ⟨x10, x11, x12⟩ := R1.out.res.cells; obtain ⟨f10, f11, f12⟩ := R1.out.res.free; have Ra := Lib.hid (R1.out.later (below_box w1 (.cells #[.slice Option.none 0 0, .slice Option.none 0 0, .int .i64 5] 36))); have Ba := Lib.hid (below_then B1.out (below_box w1 (.cells #[.slice Option.none 0 0, .slice Option.none 0 0, .int .i64 5] 36))); have Ta := Lib.hid (three_new w1 (.slice Option.none 0 0) (.slice Option.none 0 0) (.int .i64 5) 36); have qa := Ra.out.hd; have l1 := Lib.hid R1.out.no.lt)
    | (go_at_call 29; (with_reducible refine (hM.out _ Ba.out).mono ?_); rintro e2 w2 ⟨rfl, hb2⟩; have R2 := Lib.hid (Ra.out.later hb2); have B2 := Lib.hid (below_then Ba.out hb2); have T2 := Lib.hid (Ta.out.later hb2); have q2 := R2.out.hd)
    | (go_at_call 29; (with_reducible refine (hH.out w2 B2.out).mono ?_); rintro e3 w3 ⟨rfl, hb3⟩; have R3 := Lib.hid (R2.out.later hb3); have B3 := Lib.hid (below_then B2.out hb3); have T3 := Lib.hid (T2.out.later hb3); have l3 := Lib.hid T3.out.lt)
    | (go_at_call 30; (with_reducible refine (hLM.out w3).mono ?_); rintro e4 w4 ⟨v2, rfl, o2, hb4⟩; obtain ⟨A2, n2, c2, rfl, X2, _⟩ := o2.both; have O2 := Lib.hid o2; have hT2 := Lib.hid X2; have R4 := Lib.hid (R3.out.later hb4); have B4 := Lib.hid (below_then B3.out hb4); have T4 := Lib.hid (T3.out.later hb4); have z4 := Lib.hid hb4.size; obtain ⟨x40, x41, x42⟩ := T4.out.cells; obtain ⟨f40, f41, f42⟩ := T4.out.free; clear o2 X2))
  have hT5 := Lib.hid (T4.out.set0 (.slice A2 n2 c2))
  have R5 := Lib.hid (R4.out.other l1.out 0 (.slice A2 n2 c2))
  have O25 := Lib.hid (O2.out.setLow l3.out 0 (.slice A2 n2 c2))
  have B5 := Lib.hid (B4.out.setCell (p := ⟨w1.heap.size, 0, Option.none⟩) (by have := l1.out; show w.heap.size ≤ w1.heap.size; omega) (.slice A2 n2 c2))
  have z5 := Lib.hid (show (w4.setCell ⟨w1.heap.size, 0, Option.none⟩ (.slice A2 n2 c2)).heap.size = w4.heap.size by simp [World.setCell])
  generalize w4.setCell ⟨w1.heap.size, 0, Option.none⟩ (.slice A2 n2 c2) = w5 at hT5 R5 O25 B5 z5 ⊢
  have hT2 := Lib.hid (show Texts w5 A2 n2 ms by
    obtain ⟨A', n', c', e, hX, _⟩ := O25.out.both
    injection e with e1 e2 e3
    subst e1 e2
    exact hX)
  have hn2 : n2 ≤ 9223372036854775807 := by have := hT2.out.len; omega
  obtain ⟨x50, x51, x52⟩ := hT5.out.cells
  clear x40 x41 x42 f40 f41 f42 q2 qa x10 x11 x12 f10 f11 f12 q1 hb1 hb2 hb3 hb4 hC hM hH hLM
  go_loop [14] (fun i => ∃ q : Nat, q ≤ n2 ∧ i = .int .i64 q ∧ Hid ((ms.take q).all token = true)) (fun i => n2 - (RowKit.intOf i).toNat)
  case atStart => exact ⟨0, Nat.zero_le _, rfl, Lib.hid rfl⟩
  case round =>
    obtain ⟨q, hq, rfl, hall⟩ := hrel
    by_cases hlt : q < n2
    · have hql : q < ms.length := by rw [hT2.out.len]; exact hlt
      obtain ⟨g, rfl, _, hc⟩ := hT2.out.cell (by omega)
      have h1 := hc q hlt
      rw [List.getElem?_eq_getElem hql] at h1
      replace h1 : w5.cell? ⟨g, q, Option.none⟩ = some (.string (mk ms[q])) := h1
      have hst := Lib.hid (all_take (p := token) hql)
      have hms := Lib.hid (fun hp => all_miss (p := token) hql hp)
      have hin := Lib.hid (fun W => refToken_any sign_any (mk ms[q]) (by rw [mk_size]; have := hpM.out ms[q] (List.getElem_mem hql); simp only [maxLen]; omega) W)
      rw [mk_list] at hin
      clear hc
      generalize token ms[q] = b1 at hst hms hin
      generalize mk ms[q] = z at h1 hin
      cases b1 with
      | true =>
        have hn : Hid ((ms.take (q + 1)).all token = true) := Lib.hid (by rw [hst.out, hall.out]; rfl)
        clear hst hms
        go_wp2_with (go_at_call 31; (with_reducible refine (hin.out _).mono ?_); rintro e1 w8 ⟨rfl, hw⟩; have hw := hw.symm; subst hw)
        go_round
        case rel => exact ⟨q + 1, by omega, by go_num, hn⟩
        case measure => simp [RowKit.intOf]; omega
      | false =>
        have hf := Lib.hid (hms.out rfl)
        clear hst hms
        obtain ⟨n50, n51, n52⟩ := R5.out.no.cells
        obtain ⟨y50, y51, y52⟩ := R5.out.res.cells
        obtain ⟨f50, f51, f52⟩ := R5.out.res.free
        go_wp2_with (go_at_call 31; (with_reducible refine (hin.out _).mono ?_); rintro e1 w8 ⟨rfl, hw⟩; have hw := hw.symm; subst hw)
        (try simp only [Exit.inBlock, Exit.then])
        have hP := (R5.out.res.put (.slice Option.none 0 0) (.slice Option.none 0 0) (.int .i64 0)).cells
        have e1 : ok = false := by rw [hOK.out, hf.out]; simp
        subst e1
        obtain rfl : rm = [] := hRM.out
        obtain rfl : rh = [] := hRH.out
        obtain rfl : ra = 0 := hRA.out
        exact bodyPost_ret (refRead_result rfl rfl hP.1 hP.2.1 hP.2.2) rfl ⟨_, rfl, ans_none _, below_put3 B5.out (Nat.le_succ _) _ _ _⟩
    · have e : q = n2 := by omega
      subst e
      have hfM := Lib.hid (show ms.all token = true by
        have h1 := hall.out
        rw [← hT2.out.len, List.take_length] at h1
        exact h1)
      clear hall hlt hq hT2
      obtain ⟨i0, hinf, hz0, hz1, hz2⟩ := info_parts Tryz.info9
      go_wp2_with (go_at_call 30; (with_reducible refine (hLH.out w5).mono ?_); rintro e6 w6 ⟨v3, rfl, o3, hb6⟩; obtain ⟨A3, n3, c3, rfl, X3, _⟩ := o3.both; have hl3 := Lib.hid X3.len; have O26 := O25.out.kept hb6 (Nat.le_refl _)
                   have L := Lib.hid (Lows.mk (w := w) (C := w6.heap.size) (ga := w1.heap.size) (B3 := w3.heap.size) (B5 := w5.heap.size) (vM := .slice A2 q c2) (vH := .slice A3 n3 c3) l1.out l3.out (by have := z4.out; have := z5.out; omega) hb6.size (fun k hk => (World.ownsRow.lt O26 k hk).2) (fun k hk => (World.ownsRow.lt o3 k hk).2))
                   have S6 := Lib.hid (Still.mk (w := w) (C := w6.heap.size) (ms := ms) (ps := ps) (R5.out.later hb6) (hT5.out.later hb6) O26 o3 (below_then B5.out hb6) (Nat.le_refl _))
                   clear o3 O26 hb6 X3)
      have hn3 : n3 ≤ 9223372036854775807 := by have := hl3.out; omega
      have hn3' : n3 ≤ 140000000 := by have := hl3.out; omega
      clear Ra Ba Ta T2 T3 T4 hT5 x50 x51 x52 R1 R2 R3 R4 R5 B1 B2 B3 B4 B5 O2 O25 l1 l3 z4 z5
      generalize w1.heap.size = ga at L S6 ⊢
      go_loopw [16] (fun i wr => ∃ (r : Nat) (v : Value), r ≤ n3 ∧ i = .int .i64 r ∧ Hid ((ps.take r).all token = true) ∧ Still w w6.heap.size ga w3.heap.size w5.heap.size (.slice A n c) (.slice A2 q c2) (.slice A3 n3 c3) v ms ps wr ∧ OwnsT wr w6.heap.size v ((ps.take r).map lowP)) (fun i _ => n3 - (RowKit.intOf i).toNat)
      case atStart => exact ⟨0, _, Nat.zero_le _, rfl, Lib.hid rfl, S6.out, World.ownsRow_nil _ _ _ _⟩
      case round =>
        obtain ⟨r, v, hr, rfl, hall, hS, hO⟩ := hrel
        have hS' := Lib.hid hS
        have hO' := Lib.hid hO
        by_cases hlt : r < n3
        · have hrl : r < ps.length := by rw [hl3.out]; exact hlt
          obtain ⟨A3', n3', c3', e, X3, _⟩ := hS.oh.both
          injection e with e1 e2 e3
          subst e1 e2 e3
          obtain ⟨g, rfl, _, hc⟩ := X3.cell (by omega)
          have h1 := hc r hlt
          rw [List.getElem?_eq_getElem hrl] at h1
          replace h1 : wr.cell? ⟨g, r, Option.none⟩ = some (.string (mk ps[r])) := h1
          have hst := Lib.hid (all_take (p := token) hrl)
          have hms := Lib.hid (fun hp => all_miss (p := token) hrl hp)
          have hpz := hpH.out ps[r] (List.getElem_mem hrl)
          have hin := Lib.hid (fun W => refToken_any sign_any (mk ps[r]) (by rw [mk_size]; simp only [maxLen]; omega) W)
          rw [mk_list] at hin
          have hlow := Lib.hid (fun W => refLower_any (mk ps[r]) (by rw [mk_size]; omega) W)
          have hu : mk (lowP ps[r]) = ⟨((mk ps[r]).data.toList.map (turn 65 90 32)).toArray⟩ := by rw [mk_list]; rfl
          rw [← hu] at hlow
          clear hc hu X3 hpz
          generalize token ps[r] = b1 at hst hms hin
          generalize mk ps[r] = x at h1 hin hlow
          cases b1 with
          | true =>
            have hn : Hid ((ps.take (r + 1)).all token = true) := Lib.hid (by rw [hst.out, hall.out]; rfl)
            obtain ⟨y, hyy⟩ : ∃ y, y = mk (lowP ps[r]) := ⟨_, rfl⟩
            rw [← hyy] at hlow
            have hy := Lib.hid hyy.symm
            clear hst hms hyy
            obtain ⟨A4, n4, c4, rfl, _, _⟩ := hO.both
            have hx1 := hS.an.cells.2.1
            have h1' : wr.cell? ⟨g, 0 + r, Option.none⟩ = some (.string x) := by rw [Nat.zero_add]; exact h1
            clear hS hO
            go_wp2_with (go_at_call 31; (with_reducible refine (hin.out _).mono ?_); rintro e1 w8 ⟨rfl, hw⟩; have hw := hw.symm; subst hw)
            refine wp_region_tail 8 12 (by decide) (by kernel_rfl) (RInv 106 [81, 82, 83, 84, 85, 86, 87, 88] _ (rrF ga r (some ⟨g, 0, Option.none⟩) A4 n3 c3 n4 c4 g x y) wr NoMore) (by kernel_rfl) (by kernel_rfl) (RInv.start rfl trivial (Below.refl _ _).drew) ?_ ?_
            · intro i hi D a wx hI hcl hnd hpre
              have hi' : i < 8 := hi
              have hcase : i = 0 ∨ i = 1 ∨ i = 2 ∨ i = 3 ∨ i = 4 ∨ i = 5 ∨ i = 6 ∨ i = 7 := by omega
              have hF := hI.fact
              rcases hcase with rfl | rfl | rfl | rfl | rfl | rfl | rfl | rfl
              · exact wpOp_field rfl (wanted_free rfl) _ _ _ rfl _ _ (hI.same 9 (by decide)) (run_fieldR wx ga) (hI.add (by decide) rrF_later (by decide) (Below.refl _ _) rfl)
              · exact wpOp_load rfl (wanted_free rfl) _ _ rfl _ _ (hF 0 (hpre 0 (by kernel_rfl))) (run_loadSl wx ga 1 A4 n4 c4 (cell_later hI.below hx1)) (hI.add (by decide) rrF_later (by decide) (Below.refl _ _) rfl)
              · exact wpOp_move rfl (wanted_free rfl) _ rfl _ (hI.same 15 (by decide)) (hI.add (by decide) rrF_later (by decide) (Below.refl _ _) rfl)
              · exact wpOp_move rfl (wanted_free rfl) _ rfl _ (hI.same 16 (by decide)) (hI.add (by decide) rrF_later (by decide) (Below.refl _ _) rfl)
              · exact wpOp_index rfl (wanted_free rfl) _ _ _ rfl _ _ _ (hF 2 (hpre 2 (by kernel_rfl))) (hF 3 (hpre 3 (by kernel_rfl))) (run_idx9 wx g 0 n3 c3 r hlt) (hI.add (by decide) rrF_later (by decide) (Below.refl _ _) rfl)
              · exact wpOp_load rfl (wanted_free rfl) _ _ rfl _ _ (hF 4 (hpre 4 (by kernel_rfl))) (run_load9 wx g (0 + r) x (cell_later hI.below h1')) (hI.add (by decide) rrF_later (by decide) (Below.refl _ _) rfl)
              · exact wpOp_call1 rfl (wanted_free rfl) 32 _ _ rfl _ (hF 5 (hpre 5 (by kernel_rfl))) (enters_rlow _ _) (hlow.out wx) (fun e w' h => ⟨_, h.1, hI.add (by decide) rrF_later (by decide) h.2 rfl⟩)
              · have h6 : a.eval (.tmp 87) = _ := (hF 6 (hpre 6 (by kernel_rfl)))
                exact wpOp_build rfl (wanted_free rfl) _ _ _ rfl #[(0, .string y)] (by simp [h6]) _ (run_build9 wx y) (hI.add (by decide) rrF_later (by decide) (below_box wx _) ⟨_, _, _, rfl, strs_one wx y _ rfl⟩)
            · intro D a wx hI hall
              have hB1 := hI.below
              have hsz := hI.size
              have h9 : a.eval (.tmp 9) = .pointer (some ⟨ga, 0, Option.none⟩) := hI.same 9 (by decide)
              have h82 : a.eval (.tmp 82) = .slice A4 n4 c4 := hI.fact 1 (hall 1 (by decide))
              obtain ⟨A5, n5, c5, h88, hS5⟩ : SS [y] (a.eval (.tmp 88)) wx := hI.fact 7 (hall 7 (by decide))
              have hdone := hI.done (by decide) rfl hall
              have S1 := hS'.out.later L.out hB1
              have O1 := hO'.out.kept hB1 (Nat.le_refl _)
              have hn5 : n5 = 1 := hS5.len.symm
              clear hI hall
              show wpOps _ _ _ [8, 9, 10] a wx
              rw [wpOps_cons]
              refine wpOp_append_strs rfl (wanted_free rfl) _ _ _ rfl w6.heap.size i0 Tryz.underlying31 hinf hz0 hz1 hz2 _ _ h82 (ownsSt O1) _ _ _ _ h88 hS5 (by simp only [List.length_map, List.length_take]; omega) S1.up ?_
              intro v' w' ho hg _
              have ho' : OwnsT w' w6.heap.size v' ((ps.take (r + 1)).map lowP) := ownsTs ho (by rw [take_snoc hrl, List.map_append, List.map_append, ← hy.out]; rfl)
              have S2 := S1.grown L.out hg (fun k hk => (World.ownsRow.lt O1 k hk).1)
              clear ho hg
              obtain ⟨A6, n6, c6, rfl, _, _⟩ := ho'.both
              show wpOps _ _ _ _ (a.put (some 89) (.slice A6 n6 c6)) w'
              rw [wpOps_cons]
              refine wpOp_field rfl (wanted_free rfl) _ _ _ rfl _ _ ((eval_put_other _ _ (by decide)).trans h9) (run_fieldR w' ga) ?_
              show wpOps _ _ _ _ ((a.put (some 89) (.slice A6 n6 c6)).put (some 90) (.pointer (some ⟨ga, 1, Option.none⟩))) w'
              rw [wpOps_cons]
              refine wpOp_store rfl (wanted_free rfl) _ _ _ rfl _ _ (eval_put_same _ _ _ (by rw [size_put, hsz]; decide)) ((eval_put_other _ _ (by decide)).trans (eval_put_same _ _ _ (by rw [hsz]; decide))) (run_storeSl w' ga 1 A6 n6 c6 _ S2.an.cells.2.1 S2.an.free.2.1) ?_
              show wpOps _ _ _ _ ((a.put (some 89) (.slice A6 n6 c6)).put (some 90) (.pointer (some ⟨ga, 1, Option.none⟩))) (w'.setCell ⟨ga, 1, Option.none⟩ (.slice A6 n6 c6))
              rw [wpOps]
              have S3 := Lib.hid (S2.store L.out (.slice A6 n6 c6))
              have O3' := Lib.hid (ho'.setLow (g := ga) (by have := L.out; have h1 := this.l1; have h3 := this.l3; have h5 := this.l5; omega) 1 (.slice A6 n6 c6))
              obtain ⟨fs, rfl, _⟩ := hdone
              clear h9 h82 h88 hsz S1 S2 O1 ho' hS5 hB1
              simp only [putAll, List.map_cons, List.map_nil, Act.put, List.setIfInBounds_toArray, List.set_cons_zero, List.set_cons_succ]
              generalize fs 81 = y81
              generalize fs 82 = y82
              generalize fs 83 = y83
              generalize fs 84 = y84
              generalize fs 85 = y85
              generalize fs 86 = y86
              generalize fs 87 = y87
              generalize fs 88 = y88
              go_wp2
              go_roundw
              case rel => exact ⟨r + 1, _, by omega, by go_num, hn, S3.out, O3'.out⟩
              case measure => simp [RowKit.intOf]; omega
          | false =>
            have hf := Lib.hid (hms.out rfl)
            have hRS := Lib.hid hS.rs
            have hLO := Lib.hid hS.lo
            obtain ⟨n50, n51, n52⟩ := hS.rs.no.cells
            obtain ⟨y50, y51, y52⟩ := hS.rs.res.cells
            obtain ⟨f50, f51, f52⟩ := hS.rs.res.free
            clear hst hms hS hO
            go_wp2_with (go_at_call 31; (with_reducible refine (hin.out _).mono ?_); rintro e1 w8 ⟨rfl, hw⟩; have hw := hw.symm; subst hw)
            (try simp only [Exit.inBlock, Exit.then])
            have hP := (hRS.out.res.put (.slice Option.none 0 0) (.slice Option.none 0 0) (.int .i64 0)).cells
            have e1 : ok = false := by rw [hOK.out, hf.out]; simp
            subst e1
            obtain rfl : rm = [] := hRM.out
            obtain rfl : rh = [] := hRH.out
            obtain rfl : ra = 0 := hRA.out
            exact bodyPost_ret (refRead_result rfl rfl hP.1 hP.2.1 hP.2.2) rfl ⟨_, rfl, ans_none _, below_put3 hLO.out (Nat.le_succ _) _ _ _⟩
        · have e : r = n3 := by omega
          have hfH := Lib.hid (show ps.all token = true by
            have h1 := hall.out
            rw [e, ← hl3.out, List.take_length] at h1
            exact h1)
          rw [e, ← hl3.out, List.take_length] at hO
          obtain ⟨A4, n4, c4, rfl, _, _⟩ := hO.both
          have hO'' := Lib.hid hO
          have hqd := hS.rs.hd
          clear hO hall hO'
          cases isn with
          | false =>
            go_wp2_with (first
              | (go_at_call 29; (with_reducible refine (hG.out wr hS'.out.lo).mono ?_); rintro e7 w7 ⟨rfl, hb7⟩; have S7 := Lib.hid (hS'.out.later L.out hb7); have O7 := Lib.hid (hO''.out.kept hb7 (Nat.le_refl _)); obtain ⟨x70, x71, x72⟩ := S7.out.an.cells; obtain ⟨y70, y71, y72⟩ := S7.out.rs.res.cells; obtain ⟨f70, f71, f72⟩ := S7.out.rs.res.free)
              | (go_at_call 33; (with_reducible refine (hN.out _).mono ?_); rintro e1 w8 ⟨rfl, hw⟩; have hw := hw.symm; subst hw))
            have R8 := Lib.hid S7.out.rs.res
            have B8 := Lib.hid S7.out.lo
            have O8 := Lib.hid S7.out.om
            have O9 := O7
            (try simp only [Exit.inBlock, Exit.then])
            have hP := (R8.out.put (.slice A2 q c2) (.slice A4 n4 c4) (.int .i64 (5 : Int))).cells
            have e1 : ok = true := by rw [hOK.out, hfM.out, hfH.out]; rfl
            subst e1
            obtain rfl : rm = ms := hRM.out
            obtain rfl : rh = ps.map lowP := hRH.out
            obtain rfl : ra = 5 := hRA.out
            obtain ⟨A2', n2', c2', e2, T2, S2⟩ := (O8.out.put (w := w) (by have h0 := L.out.l0; have h1 := L.out.l1; omega) (.slice A2 q c2) (.slice A4 n4 c4) (.int .i64 (5 : Int))).both
            obtain ⟨A3', n3', c3', e3, T3, S3⟩ := (O9.out.put (w := w) (by have h0 := L.out.l0; have h1 := L.out.l1; have h3 := L.out.l3; have h5 := L.out.l5; omega) (.slice A2 q c2) (.slice A4 n4 c4) (.int .i64 (5 : Int))).both
            injection e2 with e21 e22 e23
            injection e3 with e31 e32 e33
            subst e21 e22 e23 e31 e32 e33
            exact bodyPost_ret (refRead_result rfl rfl hP.1 hP.2.1 hP.2.2) rfl ⟨_, rfl, ⟨_, _, _, _, _, _, rfl, T2, T3, S2, S3⟩, below_put3 B8.out (Nat.le_succ _) _ _ _⟩
          | true =>
            go_wp2_with (first
              | (go_at_call 29; (with_reducible refine (hG.out wr hS'.out.lo).mono ?_); rintro e7 w7 ⟨rfl, hb7⟩; have S7 := Lib.hid (hS'.out.later L.out hb7); have O7 := Lib.hid (hO''.out.kept hb7 (Nat.le_refl _)); obtain ⟨x70, x71, x72⟩ := S7.out.an.cells; obtain ⟨f70, f71, f72⟩ := S7.out.an.free
                 have hga : w.heap.size + 1 ≠ ga := by have h0 := L.out.l0; omega
                 obtain ⟨z70, z71, z72⟩ := (S7.out.an.set2 (.int .i64 (nu : Int))).cells
                 obtain ⟨y70, y71, y72⟩ := (S7.out.rs.res.other hga 2 (.int .i64 (nu : Int))).cells
                 obtain ⟨g70, g71, g72⟩ := (S7.out.rs.res.other hga 2 (.int .i64 (nu : Int))).free)
              | (go_at_call 33; (with_reducible refine (hN.out _).mono ?_); rintro e1 w8 ⟨rfl, hw⟩; have hw := hw.symm; subst hw))
            have R8 := Lib.hid (S7.out.rs.res.other hga 2 (.int .i64 (nu : Int)))
            have B8 := Lib.hid (S7.out.lo.setCell (p := ⟨ga, 2, Option.none⟩) (by have h0 := L.out.l0; show w.heap.size ≤ ga; omega) (.int .i64 (nu : Int)))
            have O8 := Lib.hid (S7.out.om.setLow L.out.l1 2 (.int .i64 (nu : Int)))
            have O9 := Lib.hid (O7.out.setLow (g := ga) (by have h0 := L.out.l0; have h1 := L.out.l1; have h3 := L.out.l3; have h5 := L.out.l5; omega) 2 (.int .i64 (nu : Int)))
            (try simp only [Exit.inBlock, Exit.then])
            have hP := (R8.out.put (.slice A2 q c2) (.slice A4 n4 c4) (.int .i64 (nu : Int))).cells
            have e1 : ok = true := by rw [hOK.out, hfM.out, hfH.out]; rfl
            subst e1
            obtain rfl : rm = ms := hRM.out
            obtain rfl : rh = ps.map lowP := hRH.out
            obtain rfl : nu = ra := hRA.out.symm
            obtain ⟨A2', n2', c2', e2, T2, S2⟩ := (O8.out.put (w := w) (by have h0 := L.out.l0; have h1 := L.out.l1; omega) (.slice A2 q c2) (.slice A4 n4 c4) (.int .i64 (nu : Int))).both
            obtain ⟨A3', n3', c3', e3, T3, S3⟩ := (O9.out.put (w := w) (by have h0 := L.out.l0; have h1 := L.out.l1; have h3 := L.out.l3; have h5 := L.out.l5; omega) (.slice A2 q c2) (.slice A4 n4 c4) (.int .i64 (nu : Int))).both
            injection e2 with e21 e22 e23
            injection e3 with e31 e32 e33
            subst e21 e22 e23 e31 e32 e33
            exact bodyPost_ret (refRead_result rfl rfl hP.1 hP.2.1 hP.2.2) rfl ⟨_, rfl, ⟨_, _, _, _, _, _, rfl, T2, T3, S2, S3⟩, below_put3 B8.out (Nat.le_succ _) _ _ _⟩

theorem refRead_any (A : Option Addr) (n c : Nat) (l : List Hd) (bd s : ByteArray) (st k : Int) (w : World) (h : Hds w A n c l) (hB : Fits l) (hby : bytesIn l ≤ 10000000) (hst : I64 st) :
    Calls Tryz.prog 14 #[.agg #[.int .i64 st, .slice A n c, .string bd], .string s, .int .i64 k] w fun e w' => ∃ v, e = .returned (.tuple #[v, .bool (readOk st l s k)]) ∧ Ans w' v (mOf (readOk st l s k) l) (hOf (readOk st l s k) l) (aOf (readOk st l s k) l) ∧ Below w.heap.size w w' := by
  unfold readOk
  cases hs : (decide (200 ≤ st) && decide (st ≤ 299)) with
  | false => exact refRead_state A n c bd s st k w hst hs
  | true =>
    rw [Bool.and_eq_true, decide_eq_true_eq, decide_eq_true_eq] at hs
    cases hc : seen l s k with
    | false => exact refRead_check A n c l bd s st k w h hB hby hst hs.1 hs.2 hc
    | true => exact refRead_yes A n c l bd s st k w h hB hby hst hs.1 hs.2 hc
end Go.Proofs.YtalnjlodldhfbaaGreatDoor
