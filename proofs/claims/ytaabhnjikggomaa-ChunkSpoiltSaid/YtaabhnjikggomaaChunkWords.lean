/-
  Words that the statements of layer 3 share: what 'short' and 'table' return; single operations. Conditions: those that each theorem states.
-/
import Derived.Test.YtaabhnjikggomaaRefUnpack
import Derived.Test.YtaabhnjikggomaaTurned
namespace Go.Proofs.Ytaabhnjikggomaa
open Go.RowKit Leb

section
variable {P : Program} {ops : Array Oper} {Q : Exit → Act → World → Prop} {i : Nat} {o : Oper} {a : Act} {w w' : World} {K : Act → World → Prop}
theorem wpOp_extract (ho : ops[i]? = some o) (hw : Region.wanted o (yielded ops a.tmps) = true) (x : Operand) (k : Nat) (hop : o.op = .extract x k) (u v : Value) (hx : a.eval x = u) (hr : (Instr.extract u k).run P w = .ok v w) (hK : K (a.put o.dst v) w) : wpOp P ops Q i K a w :=
  wpOp_value ho hw (v := v) (w' := w) (by simp only [execOp, hop, hx, Sem.run_bind, hr]; rfl) hK
theorem wpOp_call3 (ho : ops[i]? = some o) (hw : Region.wanted o (yielded ops a.tmps) = true) (f : FuncId) (x y z : Operand) (ts : Array TypeId) (hop : o.op = .call { callee := .value (.func f), args := #[x, y, z], argTypes := ts }) (u u' u'' : Value) (hx : a.eval x = u) (hy : a.eval y = u') (hz : a.eval z = u'')
    {R : Ending → World → Prop} (hcf : (callFunc f #[u, u', u'']).run P w = .ok (.enter f #[u, u', u'']) w) (hc : Calls P f #[u, u', u''] w R) (hK : ∀ e w', R e w' → ∃ v, e = .returned v ∧ K (a.put o.dst v) w') : wpOp P ops Q i K a w :=
  wpOp_call ho hw f #[u, u', u''] (by
    subst hx
    subst hy
    subst hz
    unfold execOp
    simp only [hop, resolve, Act.eval, Deferred.ofValue, invoke, Sem.run_bind, Sem.run_pure, Result.andThen_ok, List.map_toArray, List.map_cons, List.map_nil, Array.append_empty]
    exact hcf) hc hK
/-- '[]byte("..")': the mark behind the new row. -/
theorem wpList_mark {rest : List Oper} (hgd : o.guard = Option.none) (t e : TypeId) (ht : P.underlying t = some (.slice e)) (he : P.underlying e = some (.int .u8)) (x : Operand) (ho : o.op = .convert t t x) (g n c : Nat) (hx : a.eval x = .slice (some ⟨g, 0, Option.none⟩) n c)
    (h : ∀ w', Keeps w w' → (∀ B a, Below B a w → B ≤ g → Below B a w') → wpList P ops Q rest (a.put o.dst (.slice (some ⟨g, 0, Option.none⟩) n c)) w') : wpList P ops Q (o :: rest) a w := by
  obtain ⟨w', hr, hk, hb⟩ := run_mark P w t e g n c ht he
  refine wpList_plain hgd fun K hK => ?_
  unfold Oper.wp
  have e : (execOp a.eval o).run P w = .ok (.value (.slice (some ⟨g, 0, Option.none⟩) n c)) w' := by simp only [execOp, ho, hx, Sem.run_bind, hr]; rfl
  rw [e]
  exact hK _ _ (h w' hk hb)
end

/-- A slot holds what Unpack gives. -/
def UP (r : List Int × Int × Int) (v : Value) (w : World) : Prop := ∃ u, v = .tuple #[u, .int .i64 r.2.1, .int .i64 r.2.2] ∧ BB r.1 u w
theorem UP.keeps {r : List Int × Int × Int} {v : Value} {w w' : World} (h : UP r v w) (hk : Keeps w w') : UP r v w' := by
  obtain ⟨u, h1, h2⟩ := h
  exact ⟨u, h1, h2.keeps hk⟩
theorem run_extract0 (w : World) (u : Value) (p q : Int) : (Instr.extract (.tuple #[u, .int .i64 p, .int .i64 q]) 0).run Try.prog w = .ok u w := by simp [Instr.extract]
theorem run_extract1 (w : World) (u : Value) (p q : Int) : (Instr.extract (.tuple #[u, .int .i64 p, .int .i64 q]) 1).run Try.prog w = .ok (.int .i64 p) w := by simp [Instr.extract]
theorem run_extract2 (w : World) (u : Value) (p q : Int) : (Instr.extract (.tuple #[u, .int .i64 p, .int .i64 q]) 2).run Try.prog w = .ok (.int .i64 q) w := by simp [Instr.extract]

set_option maxRecDepth 100000 in
set_option maxHeartbeats 400000 in
theorem short3_any (A : Option Addr) (n c : Nat) (l : List Int) (w : World) (hA : Holds w A n c l) :
    Calls Try.prog 10 #[.slice A n c] w fun e w' => e = .returned (.slice A (min n 900) c) ∧ w = w' := by
  have h1 := hA.cap
  have h2 := hA.room
  unfold maxLen at h2
  by_cases h : n ≤ 900
  · have hm : min n 900 = n := by omega
    rw [hm]
    clear hm
    go_enter Try.func10, Try.ntmps10
    go_wp2
    go_ret
    exact ⟨rfl, rfl⟩
  · have hm : min n 900 = 900 := by omega
    rw [hm]
    clear hm
    obtain ⟨b, off, rfl, _⟩ := hA.cell (by omega)
    go_enter Try.func10, Try.ntmps10
    go_wp2
    go_ret
    exact ⟨rfl, rfl⟩

/-- What 'short' gives, in whatever later world: the front of the bytes, its length theirs. -/
theorem short3_later {A : Option Addr} {n c : Nat} {l0 : List Int} {w : World} (hA : Holds w A n c l0) :
    ∃ l : List Int, l.length ≤ 900 ∧ Holds w A l.length c l ∧ ∀ W, Below w.heap.size w W → Calls Try.prog 10 #[.slice A n c] W fun e w' => e = .returned (.slice A l.length c) ∧ W = w' := by
  have hF := hA.front (k := min n 900) (Nat.min_le_left _ _)
  have hl := hF.len
  refine ⟨l0.take (min n 900), by rw [hl]; exact Nat.min_le_right _ _, by rw [hl]; exact hF, fun W hb => ?_⟩
  rw [hl]
  exact short3_any A n c l0 W (hA.later hb)

theorem enters_short3 (vs : Array Value) (w : World) : (callFunc 10 vs).run Try.prog w = .ok (.enter 10 vs) w := by kernel_rfl
theorem enters_awake3 (vs : Array Value) (w : World) : (callFunc 8 vs).run Try.prog w = .ok (.enter 8 vs) w := by kernel_rfl
theorem enters_pack (vs : Array Value) (w : World) : (callFunc 9 vs).run Try.prog w = .ok (.enter 9 vs) w := by kernel_rfl
theorem enters_unpack (vs : Array Value) (w : World) : (callFunc 13 vs).run Try.prog w = .ok (.enter 13 vs) w := by kernel_rfl
theorem enters_rpack (vs : Array Value) (w : World) : (callFunc 11 vs).run Try.prog w = .ok (.enter 11 vs) w := by kernel_rfl
theorem enters_runpack (vs : Array Value) (w : World) : (callFunc 14 vs).run Try.prog w = .ok (.enter 14 vs) w := by kernel_rfl

/-- The table, with another number at q. -/
def tabAt (q n c : Nat) : Nat := if q < 256 ∧ c = q then n else tab0 c
theorem tabAt_lt {q n : Nat} (hn : n < 4294967296) (c : Nat) : tabAt q n c < 4294967296 := by
  unfold tabAt
  split
  · exact hn
  · exact tab0_lt c
theorem tabAt_over {q n : Nat} (hq : 256 ≤ q) : tabAt q n = tab0 := by
  funext c
  unfold tabAt
  rw [if_neg (fun h => by omega)]
theorem tabAt_set {q n : Nat} (hq : q < 256) : (cells32 tab0).toArray.setIfInBounds q (.int .u32 (n : Int)) = (cells32 (tabAt q n)).toArray := by
  apply Array.ext
  · simp [cells32]
  · intro i h1 h2
    rw [Array.getElem_setIfInBounds (by simpa using h1)]
    have hi : i < 256 := by simpa [cells32] using h2
    by_cases e : q = i
    · subst e
      simp [cells32, tabAt, hq]
    · rw [if_neg e]
      simp only [List.getElem_toArray, cells32, List.getElem_map, List.getElem_range, tabAt]
      rw [if_neg (fun h => e h.2.symm)]

theorem tab_facts (s : Nat → Nat) {w X : World} {g : Nat} (hg : X.heap[g]? = some (.cells (cells32 s).toArray 25 (0, 0))) (hz : X.heap[w.heap.size]? = some (.cells zeros32 25 (0, 0))) (hb : Below w.heap.size w X) :
    ∃ T, Hid (T = (cells32 s).toArray) ∧ X.heap[g]? = some (.cells T 25 (0, 0)) ∧ X.heap[w.heap.size]? = some (.cells zeros32 25 (0, 0)) ∧ (Try.prog.info? 25).map (·.size) = some T.size ∧ zeros32.size = T.size ∧ T.all (·.oneCell') = true ∧ Hid ((X.setRow w.heap.size T).heap[w.heap.size]? = some (.cells T 25 (0, 0))) ∧ Hid (Below w.heap.size w (X.setRow w.heap.size T)) :=
  ⟨(cells32 s).toArray, rfl, hg, hz, by rw [info32]; simp [length_cells32], by rw [size_zeros32]; simp [length_cells32], one_cells32 s, setRow_heap _ w.heap.size _ _ _ _ hz, below_setRow hb (Nat.le_refl _) _⟩

theorem tab_set {q n : Nat} (hq : q < 256) {w w2 : World} {g : Nat} (hw : w.heap.size < g) (ht0 : ∀ c, c < 256 → w2.cell? ⟨g, c, Option.none⟩ = some (.int .u32 (tab0 c))) (hg2 : w2.heap[g]? = some (.cells (cells32 tab0).toArray 25 (0, 0))) (hz2 : w2.heap[w.heap.size]? = some (.cells zeros32 25 (0, 0))) (hb : Below w.heap.size w w2) :
    w2.cell? ⟨g, q, Option.none⟩ = some (.int .u32 (tab0 q)) ∧ w2.frozen? ⟨g, q, Option.none⟩ = false ∧ ∃ T, Hid (T = (cells32 (tabAt q n)).toArray) ∧ (w2.setCell ⟨g, q, Option.none⟩ (.int .u32 (n : Int))).heap[g]? = some (.cells T 25 (0, 0)) ∧ (w2.setCell ⟨g, q, Option.none⟩ (.int .u32 (n : Int))).heap[w.heap.size]? = some (.cells zeros32 25 (0, 0)) ∧ (Try.prog.info? 25).map (·.size) = some T.size ∧ zeros32.size = T.size ∧ T.all (·.oneCell') = true ∧
      Hid (((w2.setCell ⟨g, q, Option.none⟩ (.int .u32 (n : Int))).setRow w.heap.size T).heap[w.heap.size]? = some (.cells T 25 (0, 0))) ∧ Hid (Below w.heap.size w ((w2.setCell ⟨g, q, Option.none⟩ (.int .u32 (n : Int))).setRow w.heap.size T)) := by
  refine ⟨ht0 q hq, frozen_of_row _ _ q _ _ hg2, tab_facts (tabAt q n) ?_ ?_ ?_⟩
  · rw [heap_setCell_same _ _ _ _ _ _ hg2, tabAt_set hq]
  · rw [heap_setCell_other _ _ _ _ (by simp; omega), hz2]
  · exact hb.setCell (p := ⟨g, q, Option.none⟩) (by simp; omega) _

set_option maxRecDepth 100000 in
set_option maxHeartbeats 400000 in
theorem table3_any (q n : Nat) (w : World) (_hq : q < 65536) (_hn : n < 4294967296) :
    Calls Try.prog 7 #[.int .u16 q, .int .u32 n] w fun e w' => e = .returned (.agg (cells32 (tabAt q n)).toArray) ∧ Below w.heap.size w w' := by
  have hb0 : Below w.heap.size w (w.alloc (.cells zeros32 25)) := (Below.refl _ _).alloc (Nat.le_refl _) _
  have hz0 := heap_alloc_new w (.cells zeros32 25)
  have HX := Lib.hid hz0
  have HB := Lib.hid hb0
  clear hz0 hb0
  go_enter Try.func7, Try.ntmps7
  go_wp2_with fail
  refine (table_said _).mono ?_
  rintro e wt ⟨rfl, hbt⟩
  have Hbw := Lib.hid (HB.out.trans (hbt.mono HB.out.size))
  have Hzt := Lib.hid ((hbt.block _ (Array.getElem?_eq_some_iff.1 HX.out).1).trans HX.out)
  have hsz : w.heap.size < wt.heap.size := (Array.getElem?_eq_some_iff.1 Hzt.out).1
  clear hbt HX HB
  by_cases h256 : q < 256
  · go_wp2_with (first
      | (with_reducible refine wpList_table rfl _ _ rfl rfl wt.heap.size rfl tab0 rfl rfl ?_; intro w2 ht0 hg2 hb2; obtain ⟨hc, hf, T, HT, hr3, hz3, hi1, hz1, ho1, hr, hb1⟩ := tab_set (n := n) h256 hsz ht0 hg2 ((hb2.block _ hsz).trans Hzt.out) (Hbw.out.trans (hb2.mono Hbw.out.size)); clear ht0 hg2 hb2)
      | (with_reducible refine wpList_load_row rfl _ _ rfl wt.heap.size rfl 25 T (0, 0) _ hr3 Try.underlying25 rfl hi1 ?_)
      | (with_reducible refine wpList_store_row rfl _ _ _ rfl w.heap.size T rfl rfl 25 zeros32 hz3 hi1 hz1 ho1 ?_))
    refine bodyPost_ret (results_cell_row rfl _ _ w.heap.size 25 T (0, 0) _ rfl hr.out Try.underlying25 rfl hi1) rfl ⟨by rw [HT.out], hb1.out⟩
  · have Hov := Lib.hid (tabAt_over (q := q) (n := n) (by omega))
    go_wp2_with (first
      | (with_reducible refine wpList_table rfl _ _ rfl rfl wt.heap.size rfl tab0 rfl rfl ?_; intro w2 ht0 hg2 hb2; obtain ⟨T, HT, hr3, hz3, hi1, hz1, ho1, hr, hb1⟩ := tab_facts tab0 hg2 ((hb2.block _ hsz).trans Hzt.out) (Hbw.out.trans (hb2.mono Hbw.out.size)); clear ht0 hg2 hb2)
      | (with_reducible refine wpList_load_row rfl _ _ rfl wt.heap.size rfl 25 T (0, 0) _ hr3 Try.underlying25 rfl hi1 ?_)
      | (with_reducible refine wpList_store_row rfl _ _ _ rfl w.heap.size T rfl rfl 25 zeros32 hz3 hi1 hz1 ho1 ?_))
    refine bodyPost_ret (results_cell_row rfl _ _ w.heap.size 25 T (0, 0) _ rfl hr.out Try.underlying25 rfl hi1) rfl ⟨by rw [HT.out, Hov.out], hb1.out⟩
end Go.Proofs.Ytaabhnjikggomaa
