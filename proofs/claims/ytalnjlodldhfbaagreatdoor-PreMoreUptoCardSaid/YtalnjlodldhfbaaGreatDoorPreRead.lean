/-
  pre.Read as the program has it. Conditions: those that each theorem states.
-/
import Derived.Test.YtalnjlodldhfbaaGreatDoorPreTokens
import Derived.Test.YtalnjlodldhfbaaGreatDoorCorsCheck
import Derived.Laws.ResultCell
namespace Go.Proofs.YtalnjlodldhfbaaGreatDoor
open Go.RowKit Go.Lib Go.Shelf

set_option maxRecDepth 100000 in
theorem read_result {tmps : Array Value} {w : World} {g : Nat} {x y : Value} {z : Int} {b : Bool} (hp : tmps.getD 6 undef = .pointer (some ⟨g, 0, Option.none⟩)) (hb : tmps.getD 7 undef = .bool b)
    (h0 : w.cell? ⟨g, 0, Option.none⟩ = some x) (h1 : w.cell? ⟨g, 1, Option.none⟩ = some y) (h2 : w.cell? ⟨g, 2, Option.none⟩ = some (.int .i64 z)) :
    (results Tryz.f13 tmps).run Tryz.prog w = .ok (.tuple #[.agg #[x, y, .int .i64 z], .bool b]) w := by
  rw [results_cell_tmp (fn := Tryz.f13) (p := 6) (u := 7) (ty := 33) rfl, hp, hb]
  simp [go_sem, h0, h1, h2]

/-- What Read has laid: the response (its headers are v), and its result, still empty. -/
def Rd (w W : World) (v : Value) : Prop := W.cell? ⟨w.heap.size, 1, Option.none⟩ = some v ∧ W.heap[w.heap.size + 1]? = some (.cells #[.slice Option.none 0 0, .slice Option.none 0 0, .int .i64 0] 33 (0, 0)) ∧ w.heap.size + 1 < W.heap.size
theorem Rd.later {w W W' : World} {v : Value} (h : Rd w W v) (hb : Below W.heap.size W W') : Rd w W' v :=
  ⟨cell_later hb h.1, (hb.block _ h.2.2).trans h.2.1, Nat.lt_of_lt_of_le h.2.2 hb.size⟩
theorem Rd.cells {w W : World} {v : Value} (h : Rd w W v) : W.cell? ⟨w.heap.size + 1, 0, Option.none⟩ = some (.slice Option.none 0 0) ∧ W.cell? ⟨w.heap.size + 1, 1, Option.none⟩ = some (.slice Option.none 0 0) ∧ W.cell? ⟨w.heap.size + 1, 2, Option.none⟩ = some (.int .i64 0) := by
  refine ⟨?_, ?_, ?_⟩
  · rw [cell_of_row W _ 0 _ _ _ h.2.1]; rfl
  · rw [cell_of_row W _ 1 _ _ _ h.2.1]; rfl
  · rw [cell_of_row W _ 2 _ _ _ h.2.1]; rfl
theorem Rd.free {w W : World} {v : Value} (h : Rd w W v) : W.frozen? ⟨w.heap.size + 1, 0, Option.none⟩ = false ∧ W.frozen? ⟨w.heap.size + 1, 1, Option.none⟩ = false ∧ W.frozen? ⟨w.heap.size + 1, 2, Option.none⟩ = false :=
  ⟨frozen_of_row W _ 0 _ _ h.2.1, frozen_of_row W _ 1 _ _ h.2.1, frozen_of_row W _ 2 _ _ h.2.1⟩
theorem rd_start (w : World) (x v y : Value) : Rd w ((w.alloc (.cells #[x, v, y] 30)).alloc (.cells #[.slice Option.none 0 0, .slice Option.none 0 0, .int .i64 0] 33)) v := by
  have h1 := (box_three w x v y 30).2.1
  have h2 := heap_alloc_new (w.alloc (.cells #[x, v, y] 30)) (.cells #[.slice Option.none 0 0, .slice Option.none 0 0, .int .i64 0] 33)
  have e : (w.alloc (.cells #[x, v, y] 30)).heap.size = w.heap.size + 1 := by simp
  rw [e] at h2
  exact ⟨cell_later (below_box _ _) h1, h2, by simp⟩

theorem Rd.put {w W : World} {v : Value} (h : Rd w W v) (x y z : Value) : (((W.setCell ⟨w.heap.size + 1, 0, Option.none⟩ x).setCell ⟨w.heap.size + 1, 1, Option.none⟩ y).setCell ⟨w.heap.size + 1, 2, Option.none⟩ z).cell? ⟨w.heap.size + 1, 0, Option.none⟩ = some x ∧
    (((W.setCell ⟨w.heap.size + 1, 0, Option.none⟩ x).setCell ⟨w.heap.size + 1, 1, Option.none⟩ y).setCell ⟨w.heap.size + 1, 2, Option.none⟩ z).cell? ⟨w.heap.size + 1, 1, Option.none⟩ = some y ∧
    (((W.setCell ⟨w.heap.size + 1, 0, Option.none⟩ x).setCell ⟨w.heap.size + 1, 1, Option.none⟩ y).setCell ⟨w.heap.size + 1, 2, Option.none⟩ z).cell? ⟨w.heap.size + 1, 2, Option.none⟩ = some z := by
  have e1 := heap_setCell_same W (w.heap.size + 1) 0 _ _ x h.2.1
  have e2 := heap_setCell_same _ (w.heap.size + 1) 1 _ _ y e1
  have e3 := heap_setCell_same _ (w.heap.size + 1) 2 _ _ z e2
  refine ⟨?_, ?_, ?_⟩
  · rw [cell_of_row _ _ 0 _ _ _ e3]; rfl
  · rw [cell_of_row _ _ 1 _ _ _ e3]; rfl
  · rw [cell_of_row _ _ 2 _ _ _ e3]; rfl
theorem below_put {w W : World} (h : Below w.heap.size w W) (x y z : Value) : Below w.heap.size w (((W.setCell ⟨w.heap.size + 1, 0, Option.none⟩ x).setCell ⟨w.heap.size + 1, 1, Option.none⟩ y).setCell ⟨w.heap.size + 1, 2, Option.none⟩ z) :=
  ((h.setCell (p := ⟨w.heap.size + 1, 0, Option.none⟩) (Nat.le_succ _) x).setCell (p := ⟨w.heap.size + 1, 1, Option.none⟩) (Nat.le_succ _) y).setCell (p := ⟨w.heap.size + 1, 2, Option.none⟩) (Nat.le_succ _) z
/-- The first q parts with small letters. -/
def mix (ps : List (List UInt8)) (q : Nat) : List (List UInt8) := (ps.take q).map lowP ++ ps.drop q
theorem mix_len (ps : List (List UInt8)) (q : Nat) : (mix ps q).length = ps.length := by
  unfold mix
  simp only [List.length_append, List.length_map, List.length_take, List.length_drop]
  omega
theorem mix_zero (ps : List (List UInt8)) : mix ps 0 = ps := by simp [mix]
theorem mix_all (ps : List (List UInt8)) : mix ps ps.length = ps.map lowP := by simp [mix]
theorem mix_at {ps : List (List UInt8)} {q : Nat} (hq : q < ps.length) : (mix ps q)[q]? = some ps[q] := by
  unfold mix
  rw [List.getElem?_append_right (by simp; omega)]
  simp [Nat.min_eq_left (Nat.le_of_lt hq)]
theorem mix_set {ps : List (List UInt8)} {q : Nat} (hq : q < ps.length) : (mix ps q).set q (lowP ps[q]) = mix ps (q + 1) := by
  unfold mix
  have e : ((ps.take q).map lowP).length = q := by simp; omega
  rw [List.set_append_right _ _ (by omega), e, Nat.sub_self, List.drop_eq_getElem_cons hq, List.set_cons_zero, take_snoc hq, List.map_append]
  simp
/-- A part gets small letters. -/
theorem OwnsT.low1 {w : World} {B g n c q : Nat} {ps : List (List UInt8)} (h : OwnsT w B (.slice (some ⟨g, 0, Option.none⟩) n c) (mix ps q)) (hn : n = ps.length) (hq : q < ps.length) {u : ByteArray} (hu : u = mk (lowP ps[q])) : OwnsT (w.setCell ⟨g, q, Option.none⟩ (.string u)) B (.slice (some ⟨g, 0, Option.none⟩) n c) (mix ps (q + 1)) := by
  subst hn
  subst hu
  unfold OwnsT at h ⊢
  rw [mix_len] at h ⊢
  have h1 := (World.ownsRow.stored h q (.string (mk (lowP ps[q])))).1
  rw [← mix_set hq, List.map_set]
  exact h1
theorem OwnsT.nth {w : World} {B g n c q : Nat} {ps : List (List UInt8)} (h : OwnsT w B (.slice (some ⟨g, 0, Option.none⟩) n c) (mix ps q)) (hn : n = ps.length) (hq : q < ps.length) : w.cell? ⟨g, q, Option.none⟩ = some (.string (mk ps[q])) ∧ w.frozen? ⟨g, q, Option.none⟩ = false := by
  subst hn
  unfold OwnsT at h
  rw [mix_len] at h
  refine ⟨?_, World.ownsRow.frozenAt h q⟩
  rw [World.ownsRow.cellAt h q (by omega), List.getElem?_map, mix_at hq]
  rfl
theorem OwnsT.place {w : World} {B : Nat} {A : Option Addr} {n c : Nat} {ps : List (List UInt8)} (h : OwnsT w B (.slice A n c) ps) (hn : 0 < n) : ∃ g, A = some ⟨g, 0, Option.none⟩ ∧ B ≤ g := by
  rcases h.2 with ⟨e, h0⟩ | ⟨g, cap, cur, e, hb, _⟩
  · injection e with _ e2 _
    omega
  · injection e with e1 _ _
    exact ⟨g, e1, hb⟩

set_option maxHeartbeats 8000000 in
set_option maxRecDepth 100000 in
/-- Where the state alone says no. -/
theorem read_state (A : Option Addr) (n c : Nat) (bd s : ByteArray) (st k : Int) (w : World) (hno : (decide (200 ≤ st) && decide (st ≤ 299)) = false) :
    Calls Tryz.prog 13 #[.agg #[.int .i64 st, .slice A n c, .string bd], .string s, .int .i64 k] w fun e w' => ∃ v, e = .returned (.tuple #[v, .bool false]) ∧ Ans w' v [] [] 0 ∧ Below w.heap.size w w' := by
  have hR := Lib.hid (rd_start w (.int .i64 st) (.slice A n c) (.string bd))
  have hb := Lib.hid (below_then (below_box w (.cells #[.int .i64 st, .slice A n c, .string bd] 30)) (below_box _ (.cells #[.slice Option.none 0 0, .slice Option.none 0 0, .int .i64 0] 33)))
  by_cases h1 : st < 200
  · clear hno
    go_enter Tryz.func13, Tryz.ntmps13
    go_wp2
    (try simp only [Exit.inBlock, Exit.then])
    exact bodyPost_ret (read_result rfl rfl hR.out.cells.1 hR.out.cells.2.1 hR.out.cells.2.2) rfl ⟨_, rfl, ans_none _, hb.out⟩
  · have h2 : 299 < st := by
      rw [Bool.and_eq_false_iff, decide_eq_false_iff_not, decide_eq_false_iff_not] at hno
      omega
    clear hno
    go_enter Tryz.func13, Tryz.ntmps13
    go_wp2
    (try simp only [Exit.inBlock, Exit.then])
    exact bodyPost_ret (read_result rfl rfl hR.out.cells.1 hR.out.cells.2.1 hR.out.cells.2.2) rfl ⟨_, rfl, ans_none _, hb.out⟩

set_option maxHeartbeats 8000000 in
set_option maxRecDepth 100000 in
/-- Where the check says no. -/
theorem read_check (A : Option Addr) (n c : Nat) (l : List Hd) (bd s : ByteArray) (st k : Int) (w : World) (h : Hds w A n c l) (hn : n ≤ 1000) (hB : Short maxLen l) (hby : bytesIn l ≤ 40000000) (hm : Lim w) (hs1 : 200 ≤ st) (hs2 : st ≤ 299) (hno : seen l s k = false) :
    Calls Tryz.prog 13 #[.agg #[.int .i64 st, .slice A n c, .string bd], .string s, .int .i64 k] w fun e w' => ∃ v, e = .returned (.tuple #[v, .bool false]) ∧ Ans w' v [] [] 0 ∧ Below w.heap.size w w' := by
  have hC := Lib.hid (fun W (hb : Below w.heap.size w W) => check_any A n c l s k W (h.later hb) hn hB (by omega))
  have hM := Lib.hid (fun W (hb : Below w.heap.size w W) => tokens_any A n c l nameM W (h.later hb) hn hB (tiny (by decide)) hby (hm.later hb))
  have hH := Lib.hid (fun W (hb : Below w.heap.size w W) => tokens_any A n c l nameH W (h.later hb) hn hB (tiny (by decide)) hby (hm.later hb))
  have hA := Lib.hid (fun W (hb : Below w.heap.size w W) => age_any A n c l W (h.later hb) hn hB hby)
  rw [hno] at hC
  obtain ⟨w0, hw0⟩ : ∃ w0, w0 = (w.alloc (.cells #[.int .i64 st, .slice A n c, .string bd] 30)).alloc (.cells #[.slice Option.none 0 0, .slice Option.none 0 0, .int .i64 0] 33) := ⟨_, rfl⟩
  have hR0 := Lib.hid (hw0 ▸ rd_start w (.int .i64 st) (.slice A n c) (.string bd))
  have hb0 := Lib.hid (hw0 ▸ below_then (below_box w (.cells #[.int .i64 st, .slice A n c, .string bd] 30)) (below_box _ (.cells #[.slice Option.none 0 0, .slice Option.none 0 0, .int .i64 0] 33)))
  have hw0' := Lib.hid hw0.symm
  clear hw0 h hB hm
  go_enter Tryz.func13, Tryz.ntmps13
  go_wp2_with fail
  rw [hw0'.out]
  go_wp2_with (first
    | (go_at_call 24; (with_reducible refine (hC.out w0 hb0.out).mono ?_); rintro e1 w1 ⟨rfl, hb1⟩; have R1 := Lib.hid (hR0.out.later hb1); have B1 := Lib.hid (below_then hb0.out hb1); have q1 := R1.out.1; obtain ⟨x10, x11, x12⟩ := R1.out.cells; obtain ⟨f10, f11, f12⟩ := R1.out.free))
  (try simp only [Exit.inBlock, Exit.then])
  have hP := R1.out.put (.slice Option.none 0 0) (.slice Option.none 0 0) (.int .i64 0)
  exact bodyPost_ret (read_result rfl rfl hP.1 hP.2.1 hP.2.2) rfl ⟨_, rfl, ans_none _, below_put B1.out _ _ _⟩

set_option maxHeartbeats 8000000 in
set_option maxRecDepth 100000 in
/-- Where a method is no token. -/
theorem read_methods (A : Option Addr) (n c : Nat) (l : List Hd) (bd s : ByteArray) (st k : Int) (w : World) (h : Hds w A n c l) (hn : n ≤ 1000) (hB : Short maxLen l) (hby : bytesIn l ≤ 40000000) (hm : Lim w) (hs1 : 200 ≤ st) (hs2 : st ≤ 299) (hc : seen l s k = true) (hno : allTok (partsOf nameM l) = false) :
    Calls Tryz.prog 13 #[.agg #[.int .i64 st, .slice A n c, .string bd], .string s, .int .i64 k] w fun e w' => ∃ v, e = .returned (.tuple #[v, .bool false]) ∧ Ans w' v [] [] 0 ∧ Below w.heap.size w w' := by
  have hC := Lib.hid (fun W (hb : Below w.heap.size w W) => check_any A n c l s k W (h.later hb) hn hB (by omega))
  have hM := Lib.hid (fun W (hb : Below w.heap.size w W) => tokens_any A n c l nameM W (h.later hb) hn hB (tiny (by decide)) hby (hm.later hb))
  have hH := Lib.hid (fun W (hb : Below w.heap.size w W) => tokens_any A n c l nameH W (h.later hb) hn hB (tiny (by decide)) hby (hm.later hb))
  have hA := Lib.hid (fun W (hb : Below w.heap.size w W) => age_any A n c l W (h.later hb) hn hB hby)
  rw [hc] at hC
  rw [hno] at hM
  obtain ⟨w0, hw0⟩ : ∃ w0, w0 = (w.alloc (.cells #[.int .i64 st, .slice A n c, .string bd] 30)).alloc (.cells #[.slice Option.none 0 0, .slice Option.none 0 0, .int .i64 0] 33) := ⟨_, rfl⟩
  have hR0 := Lib.hid (hw0 ▸ rd_start w (.int .i64 st) (.slice A n c) (.string bd))
  have hb0 := Lib.hid (hw0 ▸ below_then (below_box w (.cells #[.int .i64 st, .slice A n c, .string bd] 30)) (below_box _ (.cells #[.slice Option.none 0 0, .slice Option.none 0 0, .int .i64 0] 33)))
  have hw0' := Lib.hid hw0.symm
  clear hw0 h hB hm
  go_enter Tryz.func13, Tryz.ntmps13
  go_wp2_with fail
  rw [hw0'.out]
  go_wp2_with (first
    | (go_at_call 24; (with_reducible refine (hC.out w0 hb0.out).mono ?_); rintro e1 w1 ⟨rfl, hb1⟩; have R1 := Lib.hid (hR0.out.later hb1); have B1 := Lib.hid (below_then hb0.out hb1); have q1 := R1.out.1; obtain ⟨x10, x11, x12⟩ := R1.out.cells; obtain ⟨f10, f11, f12⟩ := R1.out.free)
    | (go_at_call 25; (with_reducible refine (hM.out w1 B1.out).mono ?_); rintro e2 w2 ⟨v2, rfl, o2, hb2⟩; obtain ⟨A2, n2, c2, rfl, _, _⟩ := o2.both; have O2 := Lib.hid o2; have R2 := Lib.hid (R1.out.later hb2); have B2 := Lib.hid (below_then B1.out hb2); have q2 := R2.out.1; obtain ⟨x20, x21, x22⟩ := R2.out.cells; obtain ⟨f20, f21, f22⟩ := R2.out.free))
  (try simp only [Exit.inBlock, Exit.then])
  have hP := R2.out.put (.slice Option.none 0 0) (.slice Option.none 0 0) (.int .i64 0)
  exact bodyPost_ret (read_result rfl rfl hP.1 hP.2.1 hP.2.2) rfl ⟨_, rfl, ans_none _, below_put B2.out _ _ _⟩

set_option maxHeartbeats 8000000 in
set_option maxRecDepth 100000 in
/-- Where a name is no token. -/
theorem read_names (A : Option Addr) (n c : Nat) (l : List Hd) (bd s : ByteArray) (st k : Int) (w : World) (h : Hds w A n c l) (hn : n ≤ 1000) (hB : Short maxLen l) (hby : bytesIn l ≤ 40000000) (hm : Lim w) (hs1 : 200 ≤ st) (hs2 : st ≤ 299) (hc : seen l s k = true) (h1 : allTok (partsOf nameM l) = true) (hno : allTok (partsOf nameH l) = false) :
    Calls Tryz.prog 13 #[.agg #[.int .i64 st, .slice A n c, .string bd], .string s, .int .i64 k] w fun e w' => ∃ v, e = .returned (.tuple #[v, .bool false]) ∧ Ans w' v [] [] 0 ∧ Below w.heap.size w w' := by
  have hC := Lib.hid (fun W (hb : Below w.heap.size w W) => check_any A n c l s k W (h.later hb) hn hB (by omega))
  have hM := Lib.hid (fun W (hb : Below w.heap.size w W) => tokens_any A n c l nameM W (h.later hb) hn hB (tiny (by decide)) hby (hm.later hb))
  have hH := Lib.hid (fun W (hb : Below w.heap.size w W) => tokens_any A n c l nameH W (h.later hb) hn hB (tiny (by decide)) hby (hm.later hb))
  have hA := Lib.hid (fun W (hb : Below w.heap.size w W) => age_any A n c l W (h.later hb) hn hB hby)
  rw [hc] at hC
  rw [h1] at hM
  rw [hno] at hH
  obtain ⟨w0, hw0⟩ : ∃ w0, w0 = (w.alloc (.cells #[.int .i64 st, .slice A n c, .string bd] 30)).alloc (.cells #[.slice Option.none 0 0, .slice Option.none 0 0, .int .i64 0] 33) := ⟨_, rfl⟩
  have hR0 := Lib.hid (hw0 ▸ rd_start w (.int .i64 st) (.slice A n c) (.string bd))
  have hb0 := Lib.hid (hw0 ▸ below_then (below_box w (.cells #[.int .i64 st, .slice A n c, .string bd] 30)) (below_box _ (.cells #[.slice Option.none 0 0, .slice Option.none 0 0, .int .i64 0] 33)))
  have hw0' := Lib.hid hw0.symm
  clear hw0 h hB hm
  go_enter Tryz.func13, Tryz.ntmps13
  go_wp2_with fail
  rw [hw0'.out]
  go_wp2_with (first
    | (go_at_call 24; (with_reducible refine (hC.out w0 hb0.out).mono ?_); rintro e1 w1 ⟨rfl, hb1⟩; have R1 := Lib.hid (hR0.out.later hb1); have B1 := Lib.hid (below_then hb0.out hb1); have q1 := R1.out.1; obtain ⟨x10, x11, x12⟩ := R1.out.cells; obtain ⟨f10, f11, f12⟩ := R1.out.free)
    | (go_at_call 25; (with_reducible refine (hM.out w1 B1.out).mono ?_); rintro e2 w2 ⟨v2, rfl, o2, hb2⟩; obtain ⟨A2, n2, c2, rfl, _, _⟩ := o2.both; have O2 := Lib.hid o2; have R2 := Lib.hid (R1.out.later hb2); have B2 := Lib.hid (below_then B1.out hb2); have q2 := R2.out.1; obtain ⟨x20, x21, x22⟩ := R2.out.cells; obtain ⟨f20, f21, f22⟩ := R2.out.free)
    | (go_at_call 25; (with_reducible refine (hH.out w2 B2.out).mono ?_); rintro e3 w3 ⟨v3, rfl, o3, hb3⟩; obtain ⟨A3, n3, c3, rfl, T3, _⟩ := o3.both; have O3 := Lib.hid o3; have R3 := Lib.hid (R2.out.later hb3); have B3 := Lib.hid (below_then B2.out hb3); have q3 := R3.out.1; obtain ⟨x30, x31, x32⟩ := R3.out.cells; obtain ⟨f30, f31, f32⟩ := R3.out.free))
  (try simp only [Exit.inBlock, Exit.then])
  have hP := R3.out.put (.slice Option.none 0 0) (.slice Option.none 0 0) (.int .i64 0)
  exact bodyPost_ret (read_result rfl rfl hP.1 hP.2.1 hP.2.2) rfl ⟨_, rfl, ans_none _, below_put B3.out _ _ _⟩

set_option maxHeartbeats 8000000 in
set_option maxRecDepth 100000 in
/-- Where it is read. -/
theorem read_yes (A : Option Addr) (n c : Nat) (l : List Hd) (bd s : ByteArray) (st k : Int) (w : World) (h : Hds w A n c l) (hn : n ≤ 1000) (hB : Short maxLen l) (hby : bytesIn l ≤ 40000000) (hm : Lim w) (hs1 : 200 ≤ st) (hs2 : st ≤ 299) (hc : seen l s k = true) (h1 : allTok (partsOf nameM l) = true) (h2 : allTok (partsOf nameH l) = true) :
    Calls Tryz.prog 13 #[.agg #[.int .i64 st, .slice A n c, .string bd], .string s, .int .i64 k] w fun e w' => ∃ v, e = .returned (.tuple #[v, .bool true]) ∧ Ans w' v (partsOf nameM l) ((partsOf nameH l).map lowP) (ageOf l) ∧ Below w.heap.size w w' := by
  have hC := Lib.hid (fun W (hb : Below w.heap.size w W) => check_any A n c l s k W (h.later hb) hn hB (by omega))
  have hM := Lib.hid (fun W (hb : Below w.heap.size w W) => tokens_any A n c l nameM W (h.later hb) hn hB (tiny (by decide)) hby (hm.later hb))
  have hH := Lib.hid (fun W (hb : Below w.heap.size w W) => tokens_any A n c l nameH W (h.later hb) hn hB (tiny (by decide)) hby (hm.later hb))
  have hA := Lib.hid (fun W (hb : Below w.heap.size w W) => age_any A n c l W (h.later hb) hn hB hby)
  rw [hc] at hC
  rw [h1, if_pos rfl] at hM
  rw [h2, if_pos rfl] at hH
  have hpl := Lib.hid (show ∀ p ∈ partsOf nameH l, p.length ≤ 140000000 from fun p hp => by have := part_len hp; have := joined_len nameH l; omega)
  have hpn : (partsOf nameH l).length ≤ 140000000 := by have := listOf_len (joined (vals nameH l)); have := joined_len nameH l; unfold partsOf; omega
  clear h1 h2
  generalize partsOf nameH l = ps at hH hpl hpn ⊢
  generalize partsOf nameM l = ms at hM ⊢
  generalize ageOf l = ag at hA ⊢
  obtain ⟨w0, hw0⟩ : ∃ w0, w0 = (w.alloc (.cells #[.int .i64 st, .slice A n c, .string bd] 30)).alloc (.cells #[.slice Option.none 0 0, .slice Option.none 0 0, .int .i64 0] 33) := ⟨_, rfl⟩
  have hR0 := Lib.hid (hw0 ▸ rd_start w (.int .i64 st) (.slice A n c) (.string bd))
  have hb0 := Lib.hid (hw0 ▸ below_then (below_box w (.cells #[.int .i64 st, .slice A n c, .string bd] 30)) (below_box _ (.cells #[.slice Option.none 0 0, .slice Option.none 0 0, .int .i64 0] 33)))
  have hw0' := Lib.hid hw0.symm
  clear hw0 h hB hm
  go_enter Tryz.func13, Tryz.ntmps13
  go_wp2_with fail
  rw [hw0'.out]
  go_wp2_with (first
    | (go_at_call 24; (with_reducible refine (hC.out w0 hb0.out).mono ?_); rintro e1 w1 ⟨rfl, hb1⟩; have R1 := Lib.hid (hR0.out.later hb1); have B1 := Lib.hid (below_then hb0.out hb1); have q1 := R1.out.1; obtain ⟨x10, x11, x12⟩ := R1.out.cells; obtain ⟨f10, f11, f12⟩ := R1.out.free)
    | (go_at_call 25; (with_reducible refine (hM.out w1 B1.out).mono ?_); rintro e2 w2 ⟨v2, rfl, o2, hb2⟩; obtain ⟨A2, n2, c2, rfl, _, _⟩ := o2.both; have O2 := Lib.hid o2; have R2 := Lib.hid (R1.out.later hb2); have B2 := Lib.hid (below_then B1.out hb2); have q2 := R2.out.1; obtain ⟨x20, x21, x22⟩ := R2.out.cells; obtain ⟨f20, f21, f22⟩ := R2.out.free)
    | (go_at_call 25; (with_reducible refine (hH.out w2 B2.out).mono ?_); rintro e3 w3 ⟨v3, rfl, o3, hb3⟩; obtain ⟨A3, n3, c3, rfl, T3, _⟩ := o3.both; have O3 := Lib.hid o3; have R3 := Lib.hid (R2.out.later hb3); have B3 := Lib.hid (below_then B2.out hb3); have q3 := R3.out.1; obtain ⟨x30, x31, x32⟩ := R3.out.cells; obtain ⟨f30, f31, f32⟩ := R3.out.free))
  have hps := Lib.hid (show n3 = ps.length from T3.len.symm)
  have hn3 : n3 ≤ 9223372036854775807 := by rw [hps.out]; omega
  have hb3' := Lib.hid hb3
  have hs12 := Lib.hid (show w.heap.size + 1 < w1.heap.size from R1.out.2.2)
  have hz2 := Lib.hid (show w1.heap.size ≤ w2.heap.size from hb2.size)
  clear x30 x31 x32 f30 f31 f32 q3 x20 x21 x22 f20 f21 f22 q2 x10 x11 x12 f10 f11 f12 q1 T3 hb1 hb2 hb3 hC hM hH
  go_loopw [50] (fun i wr => ∃ q : Nat, q ≤ n3 ∧ i = .int .i64 q ∧ OwnsT wr w2.heap.size (.slice A3 n3 c3) (mix ps q) ∧ Below w2.heap.size w2 wr) (fun i _ => n3 - (RowKit.intOf i).toNat)
  case atStart => exact ⟨0, Nat.zero_le _, rfl, by rw [mix_zero]; exact O3.out, hb3'.out⟩
  case round =>
    obtain ⟨q, hq, rfl, hown, hbe⟩ := hrel
    by_cases hlt : q < n3
    · have hql : q < ps.length := by rw [← hps.out]; exact hlt
      obtain ⟨g, rfl, hg⟩ := hown.place (by omega)
      obtain ⟨h1, f1⟩ := hown.nth hps.out hql
      have hlow := Lib.hid (fun W => lower_any (mk ps[q]) (by rw [mk_size]; have := hpl.out ps[q] (List.getElem_mem hql); simp only [maxLen]; omega) W)
      have hu : mk (lowP ps[q]) = ⟨((mk ps[q]).data.toList.map (turn 65 90 32)).toArray⟩ := by rw [mk_list]; rfl
      rw [← hu] at hlow
      clear hu
      have hst := Lib.hid (fun W (hW : OwnsT W w2.heap.size (.slice (some ⟨g, 0, Option.none⟩) n3 c3) (mix ps q)) u hu => hW.low1 hps.out hql (u := u) hu)
      have hown' := Lib.hid hown
      clear hown
      have hnth := Lib.hid (fun W (hW : OwnsT W w2.heap.size (.slice (some ⟨g, 0, Option.none⟩) n3 c3) (mix ps q)) => hW.nth hps.out hql)
      generalize mk (lowP ps[q]) = y at hlow hst
      generalize mk ps[q] = x at h1 hlow hnth
      go_wp2_with (go_at_call 26; (with_reducible refine (hlow.out wr).mono ?_); rintro e4 w4 ⟨rfl, hb4⟩; have hown4 := hown'.out.kept hb4 (Nat.le_refl _); obtain ⟨h14, f14⟩ := hnth.out w4 hown4; have hb24 := Lib.hid (hbe.trans (hb4.mono hbe.size)); have hown4' := Lib.hid hown4; clear hown4)
      go_roundw
      case rel => exact ⟨q + 1, by omega, by go_num, hst.out w4 hown4'.out y rfl, hb24.out.setCell hg _⟩
      case measure => simp [RowKit.intOf]; omega
    · have e : q = n3 := by omega
      have em : mix ps q = ps.map lowP := by rw [e, hps.out, mix_all]
      subst e
      rw [em] at hown
      have hown' := Lib.hid hown
      have Br := Lib.hid (below_then B2.out hbe)
      have Rr := Lib.hid (R2.out.later hbe)
      have O2r := Lib.hid (O2.out.kept hbe (Nat.le_refl _))
      have qr := Rr.out.1
      clear em hown hbe
      go_wp2_with (go_at_call 27; (with_reducible refine (hA.out wr Br.out).mono ?_); rintro e5 w5 ⟨rfl, hb5⟩; have R5 := Lib.hid (Rr.out.later hb5); have B5 := Lib.hid (below_then Br.out hb5); have O25 := Lib.hid (O2r.out.kept hb5 (Nat.le_refl _)); have O35 := Lib.hid (hown'.out.kept hb5 (Nat.le_refl _)); obtain ⟨x50, x51, x52⟩ := R5.out.cells; obtain ⟨f50, f51, f52⟩ := R5.out.free)
      (try simp only [Exit.inBlock, Exit.then])
      have hP := R5.out.put (.slice A2 n2 c2) (.slice A3 q c3) (.int .i64 (ag : Int))
      obtain ⟨A2', n2', c2', e2, T2, S2⟩ := (O25.out.put (w := w) hs12.out (.slice A2 n2 c2) (.slice A3 q c3) (.int .i64 (ag : Int))).both
      obtain ⟨A3', n3', c3', e3, T3, S3⟩ := (O35.out.put (w := w) (Nat.lt_of_lt_of_le hs12.out hz2.out) (.slice A2 n2 c2) (.slice A3 q c3) (.int .i64 (ag : Int))).both
      injection e2 with e21 e22 e23
      injection e3 with e31 e32 e33
      subst e21 e22 e23 e31 e32 e33
      exact bodyPost_ret (read_result rfl rfl hP.1 hP.2.1 hP.2.2) rfl ⟨_, rfl, ⟨_, _, _, _, _, _, rfl, T2, T3, S2, S3⟩, below_put B5.out _ _ _⟩

theorem read_any (A : Option Addr) (n c : Nat) (l : List Hd) (bd s : ByteArray) (st k : Int) (w : World) (h : Hds w A n c l) (hn : n ≤ 1000) (hB : Short maxLen l) (hby : bytesIn l ≤ 40000000) (hm : Lim w) :
    Calls Tryz.prog 13 #[.agg #[.int .i64 st, .slice A n c, .string bd], .string s, .int .i64 k] w fun e w' => ∃ v, e = .returned (.tuple #[v, .bool (readOk st l s k)]) ∧ Ans w' v (mOf (readOk st l s k) l) (hOf (readOk st l s k) l) (aOf (readOk st l s k) l) ∧ Below w.heap.size w w' := by
  unfold readOk mOf hOf aOf
  cases hst : (decide (200 ≤ st) && decide (st ≤ 299)) with
  | false => exact read_state A n c bd s st k w hst
  | true =>
    rw [Bool.and_eq_true, decide_eq_true_eq, decide_eq_true_eq] at hst
    cases hc : seen l s k with
    | false => exact read_check A n c l bd s st k w h hn hB hby hm hst.1 hst.2 hc
    | true =>
      cases h1 : allTok (partsOf nameM l) with
      | false => exact read_methods A n c l bd s st k w h hn hB hby hm hst.1 hst.2 hc h1
      | true =>
        cases h2 : allTok (partsOf nameH l) with
        | false => exact read_names A n c l bd s st k w h hn hB hby hm hst.1 hst.2 hc h1 h2
        | true => exact read_yes A n c l bd s st k w h hn hB hby hm hst.1 hst.2 hc h1 h2
end Go.Proofs.YtalnjlodldhfbaaGreatDoor
