/-
  Texts of one sort, one behind the other: numbers, memory, regions, strings, headers. Conditions: those that each theorem states.
-/
import Derived.Test.YtodncamohimmmaaLow12
import Derived.Test.YtodncamohimmmaaLow1
import Derived.Maps.AppendAt
import Derived.BigQuiet

namespace Go.Proofs.Ytodncamohimmmaa
open Go.RowKit Go.Lib Leb

theorem isL_iff {s : Int} {a : Bool} {l : Ln} : isL s a l = true ↔ l.ses = s ∧ l.ans = a := by simp [isL]
theorem findL_set : ∀ (ls : List Ln) (i : Nat) (l l' : Ln), (∀ (j : Nat) (x : Ln), j < i → ls[j]? = some x → isL l.ses l.ans x = false) → ls[i]? = some l → l'.ses = l.ses → l'.ans = l.ans →
    ∀ s a, findL (ls.set i l') s a = if s = l.ses ∧ a = l.ans then l'.hs else findL ls s a
  | [], i, l, l', _, h, _, _, s, a => by simp at h
  | x :: r, 0, l, l', _, h, h1, h2, s, a => by
    have e : x = l := by simpa using h
    subst e
    show (if isL s a l' = true then l'.hs else findL r s a) = _
    by_cases hc : s = x.ses ∧ a = x.ans
    · rw [if_pos hc, if_pos (isL_iff.2 ⟨by rw [h1, hc.1], by rw [h2, hc.2]⟩)]
    · have hn : ¬ isL s a l' = true := fun h' => hc (by obtain ⟨g1, g2⟩ := isL_iff.1 h'; exact ⟨by rw [← g1, h1], by rw [← g2, h2]⟩)
      have hn2 : ¬ isL s a x = true := fun h' => hc (by obtain ⟨g1, g2⟩ := isL_iff.1 h'; exact ⟨g1.symm, g2.symm⟩)
      rw [if_neg hc, if_neg hn]
      show findL r s a = if isL s a x = true then x.hs else findL r s a
      rw [if_neg hn2]
  | x :: r, i + 1, l, l', hb, h, h1, h2, s, a => by
    have h0 := hb 0 x (by omega) rfl
    have ih := findL_set r i l l' (fun j y hj hy => hb (j + 1) y (by omega) (by simpa using hy)) (by simpa using h) h1 h2 s a
    show (if isL s a x = true then x.hs else findL (r.set i l') s a) = _
    rw [ih]
    show _ = if s = l.ses ∧ a = l.ans then l'.hs else (if isL s a x = true then x.hs else findL r s a)
    by_cases hx : isL s a x = true
    · have hc : ¬ (s = l.ses ∧ a = l.ans) := fun hc => by
        rw [hc.1, hc.2, h0] at hx
        cases hx
      rw [if_pos hx, if_neg hc, if_pos hx]
    · rw [if_neg hx, if_neg hx]
theorem findL_snoc : ∀ (ls : List Ln) (l : Ln), (∀ (j : Nat) (x : Ln), ls[j]? = some x → isL l.ses l.ans x = false) → ∀ s a, findL (ls ++ [l]) s a = if s = l.ses ∧ a = l.ans then l.hs else findL ls s a
  | [], l, _, s, a => by
    show (if isL s a l = true then l.hs else []) = _
    by_cases hc : s = l.ses ∧ a = l.ans
    · rw [if_pos hc, if_pos (isL_iff.2 ⟨hc.1.symm, hc.2.symm⟩)]
    · rw [if_neg hc, if_neg (fun h' => hc (by obtain ⟨g1, g2⟩ := isL_iff.1 h'; exact ⟨g1.symm, g2.symm⟩))]
      rfl
  | x :: r, l, hb, s, a => by
    have h0 := hb 0 x rfl
    have ih := findL_snoc r l (fun j y hy => hb (j + 1) y (by simpa using hy)) s a
    show (if isL s a x = true then x.hs else findL (r ++ [l]) s a) = _
    rw [ih]
    show _ = if s = l.ses ∧ a = l.ans then l.hs else (if isL s a x = true then x.hs else findL r s a)
    by_cases hx : isL s a x = true
    · have hc : ¬ (s = l.ses ∧ a = l.ans) := fun hc => by
        rw [hc.1, hc.2, h0] at hx
        cases hx
      rw [if_pos hx, if_neg hc, if_pos hx]
    · rw [if_neg hx, if_neg hx]

theorem lcells_set {ls : List Ln} {i : Nat} {l : Ln} (h : ls[i]? = some l) (A : Option Addr) (n c : Nat) (hs : List Hd) : (lcells ls).set (i * 3 + 2) (.slice A n c) = lcells (ls.set i ⟨l.ses, l.ans, A, n, c, hs⟩) := by
  induction ls generalizing i with
  | nil => simp at h
  | cons x r ih =>
    cases i with
    | zero =>
      have : x = l := by simpa using h
      subst this
      simp [lcells]
    | succ i =>
      have := ih (i := i) (by simpa using h)
      have e : lcells (x :: r) = .int .i64 x.ses :: .bool x.ans :: .slice x.A x.n x.c :: lcells r := rfl
      have e2 : lcells ((x :: r).set (i + 1) ⟨l.ses, l.ans, A, n, c, hs⟩) = .int .i64 x.ses :: .bool x.ans :: .slice x.A x.n x.c :: lcells (r.set i ⟨l.ses, l.ans, A, n, c, hs⟩) := rfl
      rw [e, e2, show (i + 1) * 3 + 2 = i * 3 + 2 + 3 by omega, ← this]
      rfl

def ToldR (w : World) (b t : Nat) (T0 : Nat → Prop) (u : Value) (ls : List Ln) (T : List (List UInt8)) (x : Ev) (A : Option Addr) (m : Nat) (w' : World) : Prop :=
  ∃ u' ls', RBk w' b t T0 u' ls' T x.tick ∧ (∀ s a, findL ls' s a = lookE (findL ls) x s a) ∧ ls'.length ≤ ls.length + 1 ∧ Alt w w' (inB b T0 u) ∧ (∀ k, inB b T0 u' k → inB b T0 u k ∨ w.heap.size ≤ k) ∧ ∀ l ∈ ls', (∃ l0 ∈ ls, l.A = l0.A ∧ l.n = l0.n) ∨ (l.A = A ∧ l.n = m)

section
variable {w w' : World} {b t : Nat} {T0 : Nat → Prop} {u : Value} {ls : List Ln} {T : List (List UInt8)} {tick : Int}
theorem RBk.ticked (h : RBk w b t T0 u ls T tick) (z : Int) : RBk (w.setCell ⟨b, 1, Option.none⟩ (.int .i64 z)) b t T0 u ls T z := by
  have ha := alt_set w ⟨b, 1, Option.none⟩ (.int .i64 z) (S := fun k => k = b) rfl
  refine ⟨heap_setCell_same w b 1 _ _ _ h.blk, h.tab.alt ha fun k hk e => h.nbt (e ▸ hk), ownsRow_alt h.own ha fun g hg e => h.nub (e ▸ hg), h.nbt, h.nub, h.nut, fun l hl => ?_⟩
  have hl := h.hds l hl
  exact ⟨hl.rd.alt ha fun g off e hn hk => hl.off g off e hn (.inl hk), hl.off⟩
theorem RBk.lineFree (h : RBk w b t T0 u ls T tick) {g : Nat} (hg : u.ownBlock = some g) (i : Nat) : w.frozen? ⟨g, i, Option.none⟩ = false := by
  rcases h.own.2 with ⟨e, h0⟩ | ⟨g', cap', cur, e, _, hgg, _⟩
  · rw [e] at hg
    cases hg
  · rw [e] at hg
    have : g' = g := by simpa [Value.ownBlock] using hg
    subst this
    exact frozen_of_row w _ i _ _ hgg
theorem RBk.line (h : RBk w b t T0 u ls T tick) {i : Nat} {l : Ln} (hi : ls[i]? = some l) {g : Nat} (hg : u.ownBlock = some g) {A : Option Addr} {n c : Nat} {hs : List Hd} (hA : HdO w A n c hs (inB b T0 u)) :
    RBk (w.setCell ⟨g, i * 3 + 2, Option.none⟩ (.slice A n c)) b t T0 u (ls.set i ⟨l.ses, l.ans, A, n, c, hs⟩) T tick := by
  have hgb : g ≠ b := fun e => h.nub (by rw [hg, e])
  have hgT := h.nut g hg
  have ha := alt_set w ⟨g, i * 3 + 2, Option.none⟩ (.slice A n c) (S := fun k => k = g) rfl
  obtain ⟨A', cap, hu, _⟩ := h.slice
  have hu2 : u = .slice (some ⟨g, 0, Option.none⟩) ls.length cap := by
    rcases h.own.2 with ⟨e, h0⟩ | ⟨g', cap', cur, e, _⟩
    · rw [e] at hg
      cases hg
    · rw [e] at hg hu ⊢
      have : g' = g := by simpa [Value.ownBlock] using hg
      subst this
      injection hu with _ _ h3
      rw [h3]
  have hst := World.ownsRow.stored (by rw [← hu2]; exact h.own) (i * 3 + 2) (.slice A n c)
  rw [lcells_set hi A n c hs] at hst
  refine ⟨(heap_setCell_other w ⟨g, i * 3 + 2, Option.none⟩ b _ (Ne.symm hgb)).trans h.blk, h.tab.alt ha fun k hk e => hgT (e ▸ hk), ?_, h.nbt, h.nub, h.nut, fun l2 hl2 => ?_⟩
  · rw [List.length_set, hu2]
    exact hst.1
  · have hoff : ∀ {A : Option Addr} {n : Nat}, Off (inB b T0 u) A n → Off (fun k => k = g) A n := fun ho g' off e hn hk => ho g' off e hn (.inr (.inr (by rw [hg]; exact congrArg some hk.symm)))
    rcases List.mem_or_eq_of_mem_set hl2 with h2 | h2
    · have := h.hds l2 h2
      exact ⟨this.rd.alt ha (hoff this.off), this.off⟩
    · subst h2
      exact ⟨hA.rd.alt ha (hoff hA.off), hA.off⟩
end
end Go.Proofs.Ytodncamohimmmaa

namespace Go.Proofs.Ytodncamohimmmaa
open Go.RowKit Go.Lib Leb

theorem alt_tick (w : World) (b : Nat) (T0 : Nat → Prop) (u : Value) (o : Obj) (z : Value) : Alt w ((w.alloc o).setCell ⟨b, 1, Option.none⟩ z) (inB b T0 u) :=
  (alt_below (below_box w o) _).trans (alt_set (w.alloc o) ⟨b, 1, Option.none⟩ z (S := fun k => k = b) rfl) fun _ _ e => .inl e
structure TRel (w : World) (b t : Nat) (T0 : Nat → Prop) (u : Value) (ls : List Ln) (T : List (List UInt8)) (x : Ev) (A : Option Addr) (m c : Nat) (wr : World) : Prop where
  book : RBk wr b t T0 u ls T x.tick
  ev : EvAt wr w.heap.size x A m c
  hs : HdO wr A m c x.hs (inB b T0 u)
  alt : Alt w wr (inB b T0 u)
theorem TRel.later {w : World} {b t : Nat} {T0 : Nat → Prop} {u : Value} {ls : List Ln} {T : List (List UInt8)} {x : Ev} {A : Option Addr} {m c : Nat} {wr w' : World} (h : TRel w b t T0 u ls T x A m c wr) (hb : Below wr.heap.size wr w') : TRel w b t T0 u ls T x A m c w' :=
  ⟨h.book.later hb, h.ev.later hb, h.hs.later hb, h.alt.behind hb⟩
theorem told_line {w : World} {b t : Nat} {T0 : Nat → Prop} {u : Value} {ls : List Ln} {T : List (List UInt8)} {x : Ev} {A : Option Addr} {m c : Nat} {wr w' : World} (h : TRel w b t T0 u ls T x A m c wr) (hk3 : x.kind ≤ 3) {k : Nat} {l : Ln} (hl : ls[k]? = some l) (h1 : l.ses = x.ses) (h2 : l.ans = decide (x.kind = 3))
    (hno : ∀ (j : Nat) (y : Ln), j < k → ls[j]? = some y → isL x.ses (decide (x.kind = 3)) y = false) {g : Nat} (hg : u.ownBlock = some g)
    (hb : Below (wr.setCell ⟨g, k * 3 + 2, Option.none⟩ (.slice A m c)).heap.size (wr.setCell ⟨g, k * 3 + 2, Option.none⟩ (.slice A m c)) w') : ToldR w b t T0 u ls T x A m w' := by
  have hB := (h.book.line hl hg h.hs).later hb
  refine ⟨u, _, hB, fun s a => ?_, by rw [List.length_set]; omega, ?_, fun j hj => .inl hj, fun l2 hl2 => (List.mem_or_eq_of_mem_set hl2).imp (fun h2 => ⟨l2, h2, rfl, rfl⟩) (fun h2 => by subst h2; exact ⟨rfl, rfl⟩)⟩
  · have e := findL_set ls k l ⟨l.ses, l.ans, A, m, c, x.hs⟩ (by rw [h1, h2]; exact hno) hl rfl rfl s a
    rw [e, h1, h2]
    unfold lookE
    by_cases hc : s = x.ses ∧ a = decide (x.kind = 3)
    · rw [if_pos hc, if_pos ⟨hk3, hc⟩]
    · rw [if_neg hc, if_neg (fun h' => hc h'.2)]
  · exact (h.alt.trans (alt_set wr ⟨g, k * 3 + 2, Option.none⟩ (.slice A m c) (S := fun j => j = g) rfl) fun j _ e => .inr (.inr (by rw [hg]; exact congrArg some e.symm))).behind hb
theorem TRel.drew {w : World} {b t : Nat} {T0 : Nat → Prop} {u : Value} {ls : List Ln} {T : List (List UInt8)} {x : Ev} {A : Option Addr} {m c : Nat} {wr : World} (h : TRel w b t T0 u ls T x A m c wr) : TRel w b t T0 u ls T x A m c wr.drew :=
  ⟨h.book.later (Below.refl _ _).drew, h.ev.later (Below.refl _ _).drew, h.hs.later (Below.refl _ _).drew, h.alt.behind (Below.refl _ _).drew⟩

theorem trel_start {w : World} {b t : Nat} {T0 : Nat → Prop} {u : Value} {ls : List Ln} {T : List (List UInt8)} {tick : Int} {x : Ev} {A : Option Addr} {m c : Nat} (h : RBk w b t T0 u ls T tick) (hx : HdO w A m c x.hs (inB b T0 u)) :
    TRel w b t T0 u ls T x A m c ((w.alloc (.cells (ecell12 x A m c) 25)).setCell ⟨b, 1, Option.none⟩ (.int .i64 x.tick)) := by
  have hbe := below_box w (.cells (ecell12 x A m c) 25)
  have hset := alt_set (w.alloc (.cells (ecell12 x A m c) 25)) ⟨b, 1, Option.none⟩ (.int .i64 x.tick) (S := fun k => k = b) rfl
  have hlt := h.lt
  refine ⟨(h.later hbe).ticked x.tick, EvAt.row ((hset.block w.heap.size (by simp) (fun e => by omega)).trans (heap_alloc_new w _)), ?_, alt_tick w b T0 u _ _⟩
  have h1 := hx.later hbe
  exact ⟨h1.rd.alt hset fun g off e hn hk => h1.off g off e hn (.inl hk), h1.off⟩
end Go.Proofs.Ytodncamohimmmaa

namespace Go.Proofs.Ytodncamohimmmaa
open Go.RowKit Go.Lib Go.Maps Leb

theorem grown9 {w a b : World} {r : Option Nat} (h : w.grownBy a r) (k : a.grownBy b r) : w.grownBy b r :=
  ⟨k.os.trans h.os, k.tape.trans h.tape, k.output.trans h.output, Nat.le_trans h.size k.size, fun j hj hne => (k.block j (Nat.lt_of_lt_of_le hj h.size) hne).trans (h.block j hj hne)⟩
theorem grows9 {w w' : World} (h : Below w.heap.size w w') (r : Option Nat) : w.grownBy w' r := ⟨h.os, h.tape, h.output, h.size, fun k hk _ => h.block k hk⟩
theorem infoLn : (Try.prog.info? 123).map (fun i => (i.zero, i.size, i.bytes)) = some (some (.agg #[.int .i64 0, .bool false, .slice Option.none 0 0]), 3, 40) := by kernel_rfl
theorem lcells_one (ls : List Ln) : ∀ u ∈ lcells ls, u.oneCell' = true := by
  intro u hu
  obtain ⟨l, _, hl⟩ := List.mem_flatMap.1 hu
  simp at hl
  rcases hl with rfl | rfl | rfl <;> rfl
theorem own_slice {w : World} {v : Value} {n : Nat} {xs : List Value} (h : w.ownsRow 0 123 3 v n xs) : ∃ A n c, v = .slice A n c := by
  rcases h.2 with ⟨e, _⟩ | ⟨g, cap, cur, e, _⟩
  · exact ⟨_, _, _, e⟩
  · exact ⟨_, _, _, e⟩
theorem run_append_lines {P : Program} {w : World} (t ty : TypeId) (i : TypeInfo) (ht : P.underlying t = some (.slice 123)) (hi : P.info? 123 = some i) (hz : i.zero = some (.agg #[.int .i64 0, .bool false, .slice Option.none 0 0])) (hs : i.size = 3) (hb : i.bytes = 40)
    {u : Value} {ls : List Ln} (hown : w.ownsRow 0 123 3 u ls.length (lcells ls)) {l : Ln} {gx : Nat} (hx : ∀ (j : Nat) (z : Value), (lcells [l])[j]? = some z → w.cell? ⟨gx, j, Option.none⟩ = some z) (hl : ls.length ≤ 1000000) :
    ∃ v' w', (Builtin.append_ #[t, t] ty #[u, .slice (some ⟨gx, 0, Option.none⟩) 1 1]).run P w = .ok v' w' ∧ w'.ownsRow 0 123 3 v' (ls.length + 1) (lcells (ls ++ [l])) ∧ w.grownBy w' u.ownBlock ∧ (v'.ownBlock = u.ownBlock ∨ v'.ownBlock = some w.heap.size) := by
  obtain ⟨v', w', hrun, h2, h3, _, h5⟩ := run_append_own_at (P := P) w 0 t ty _ i _ 3 40 ht hi hz hs hb rfl (by omega) u _ _ hown ⟨gx, 0, Option.none⟩ 1 1 (lcells [l]) rfl (fun j z hz => by rw [addr_add, Nat.zero_add]; exact hx j z hz) (lcells_one _) (by simp only [maxLen]; omega) (by omega) (Nat.zero_le _)
  refine ⟨v', w', hrun, ?_, h3, h5⟩
  rw [lcells_append]
  exact h2
theorem wpOp_appendL {P : Program} {ops : Array Oper} {Q : Exit → Act → World → Prop} {i : Nat} {o : Oper} {a : Act} {w w' : World} {K : Act → World → Prop} (ho : ops[i]? = some o) (hw : Region.wanted o (yielded ops a.tmps) = true) (s x : Operand) (t : TypeId) (hop : o.op = .call { callee := .builtin .append, args := #[s, x], argTypes := #[t, t] })
    (u u' v : Value) (hs : a.eval s = u) (hx : a.eval x = u') (hrun : (Builtin.append_ #[t, t] o.type #[u, u']).run P w = .ok v w') (hK : K (a.put o.dst v) w') : wpOp P ops Q i K a w :=
  wpOp_value ho hw (v := v) (w' := w') (by
    unfold execOp
    simp only [hop, resolve, invoke, builtin, Sem.run_bind, Sem.run_pure, Result.andThen_ok, List.map_toArray, List.map_cons, List.map_nil, hs, hx, hrun]) hK
set_option maxRecDepth 100000 in
theorem run_fieldB2 (w : World) (b : Nat) : (Instr.fieldAt 73 (.pointer (some ⟨b, 0, Option.none⟩)) 2).run Try.prog w = .ok (.pointer (some ⟨b, 2, Option.none⟩)) w := by go_simp
set_option maxRecDepth 100000 in
theorem run_fieldE0 (w : World) (g : Nat) : (Instr.fieldAt 25 (.pointer (some ⟨g, 0, Option.none⟩)) 0).run Try.prog w = .ok (.pointer (some ⟨g, 0, Option.none⟩)) w := by go_simp
set_option maxRecDepth 100000 in
theorem run_fieldE_1 (w : World) (g : Nat) : (Instr.fieldAt 25 (.pointer (some ⟨g, 0, Option.none⟩)) 1).run Try.prog w = .ok (.pointer (some ⟨g, 1, Option.none⟩)) w := by go_simp
set_option maxRecDepth 100000 in
theorem run_fieldE_5 (w : World) (g : Nat) : (Instr.fieldAt 25 (.pointer (some ⟨g, 0, Option.none⟩)) 5).run Try.prog w = .ok (.pointer (some ⟨g, 5, Option.none⟩)) w := by go_simp
set_option maxRecDepth 100000 in
theorem run_loadLn (w : World) (b k : Nat) (A : Option Addr) (n c : Nat) (h : w.cell? ⟨b, k, Option.none⟩ = some (.slice A n c)) : (Instr.loadAt 71 (.pointer (some ⟨b, k, Option.none⟩))).run Try.prog w = .ok (.slice A n c) w := by go_simp
set_option maxRecDepth 100000 in
theorem run_loadHs (w : World) (b k : Nat) (A : Option Addr) (n c : Nat) (h : w.cell? ⟨b, k, Option.none⟩ = some (.slice A n c)) : (Instr.loadAt 22 (.pointer (some ⟨b, k, Option.none⟩))).run Try.prog w = .ok (.slice A n c) w := by go_simp
set_option maxRecDepth 100000 in
theorem run_loadI9 (w : World) (b k : Nat) (x : Int) (h : w.cell? ⟨b, k, Option.none⟩ = some (.int .i64 x)) : (Instr.loadAt 3 (.pointer (some ⟨b, k, Option.none⟩))).run Try.prog w = .ok (.int .i64 x) w := by go_simp
set_option maxRecDepth 100000 in
theorem run_aggLn (w : World) (s : Int) (a : Bool) (A : Option Addr) (m c : Nat) : (Instr.build 123 #[(0, .int .i64 s), (1, .bool a), (2, .slice A m c)]).run Try.prog w = .ok (.agg #[.int .i64 s, .bool a, .slice A m c]) w := by go_simp
set_option maxRecDepth 100000 in
theorem run_buildLn (w : World) (l : Ln) : (Instr.buildSlice 71 1 #[(0, .agg #[.int .i64 l.ses, .bool l.ans, .slice l.A l.n l.c])]).run Try.prog w = .ok (.slice (some ⟨w.heap.size, 0, Option.none⟩) 1 1) (w.alloc (.cells (lcells [l]).toArray 123)) := by
  simp only [lcells, List.flatMap_cons, List.flatMap_nil, List.append_nil]
  go_simp
set_option maxRecDepth 100000 in
theorem run_storeLn (w : World) (b : Nat) (A : Option Addr) (n c : Nat) (u : Value) (h : w.cell? ⟨b, 2, Option.none⟩ = some u) (hf : w.frozen? ⟨b, 2, Option.none⟩ = false) : (Instr.storeAt 71 (.pointer (some ⟨b, 2, Option.none⟩)) (.slice A n c)).run Try.prog w = .ok () (w.setCell ⟨b, 2, Option.none⟩ (.slice A n c)) := by go_simp

theorem run_eq3 {x y : Operand} (w : World) (k : Int) : (do eqGuard .eql 3 x y (.int .i64 k) (.int .i64 3); binOp .eql 3 (.int .i64 k) (.int .i64 3) : Sem Value).run Try.prog w = .ok (.bool (decide (k = 3))) w := by
  have h : (k == 3) = decide (k = 3) := by by_cases e : k = 3 <;> simp [e]
  rw [← h]
  go_simp
def apF (b g : Nat) (ses kind : Int) (A : Option Addr) (m c : Nat) (A0 : Option Addr) (n c0 : Nat) (j : Nat) (v : Value) (_ : World) : Prop :=
  match j with
  | 0 => v = .pointer (some ⟨b, 0, Option.none⟩)
  | 1 => v = .pointer (some ⟨b, 0, Option.none⟩)
  | 2 => v = .pointer (some ⟨b, 0, Option.none⟩)
  | 3 => v = .pointer (some ⟨b, 2, Option.none⟩)
  | 4 => v = .slice A0 n c0
  | 5 => v = .pointer (some ⟨g, 1, Option.none⟩)
  | 6 => v = .int .i64 ses
  | 7 => v = .pointer (some ⟨g, 0, Option.none⟩)
  | 8 => v = .int .i64 kind
  | 9 => v = .bool (decide (kind = 3))
  | 10 => v = .pointer (some ⟨g, 5, Option.none⟩)
  | 11 => v = .slice A m c
  | 12 => v = .agg #[.int .i64 ses, .bool (decide (kind = 3)), .slice A m c]
  | 13 => True
  | 14 => True
  | _ => True
theorem apF_any {b g : Nat} {ses kind : Int} {A : Option Addr} {m c : Nat} {A0 : Option Addr} {n c0 : Nat} {j : Nat} {v : Value} {w w' : World} (h : apF b g ses kind A m c A0 n c0 j v w) : apF b g ses kind A m c A0 n c0 j v w' := by
  unfold apF at h ⊢
  split at h
  all_goals exact h

structure TX (wr : World) (u : Value) (ls : List Ln) (l : Ln) (D : Nat → Prop) (a : Act) (w : World) : Prop where
  calm : ¬ D 14 → Below wr.heap.size wr w
  one : D 13 → ¬ D 14 → ∃ gx, a.eval (.tmp 69) = .slice (some ⟨gx, 0, Option.none⟩) 1 1 ∧ ∀ (j : Nat) (z : Value), (lcells [l])[j]? = some z → w.cell? ⟨gx, j, Option.none⟩ = some z
  full : D 14 → ∃ v', a.eval (.tmp 70) = v' ∧ w.ownsRow 0 123 3 v' (ls.length + 1) (lcells (ls ++ [l])) ∧ wr.grownBy w u.ownBlock ∧ (v'.ownBlock = u.ownBlock ∨ ∀ k, v'.ownBlock = some k → wr.heap.size ≤ k)
theorem TX.pure {wr : World} {u : Value} {ls : List Ln} {l : Ln} {D : Nat → Prop} {a : Act} {w : World} (h : TX wr u ls l D a w) {i s : Nat} (z : Value) (h6 : i ≠ 13) (h7 : i ≠ 14) (hs1 : s ≠ 69) (hs2 : s ≠ 70) : TX wr u ls l (fun j => D j ∨ j = i) (a.put (some s) z) w :=
  ⟨fun hn => h.calm (fun h' => hn (.inl h')), fun hd hn => by
    obtain ⟨gx, e, hE⟩ := h.one (hd.resolve_right (fun e => h6 e.symm)) (fun h' => hn (.inl h'))
    exact ⟨gx, by rw [eval_put_other _ _ (Ne.symm hs1)]; exact e, hE⟩, fun hd => by
    obtain ⟨v', e, r⟩ := h.full (hd.resolve_right (fun e => h7 e.symm))
    exact ⟨v', by rw [eval_put_other _ _ (Ne.symm hs2)]; exact e, r⟩⟩

theorem told_new {w : World} {b t : Nat} {T0 : Nat → Prop} {u : Value} {ls : List Ln} {T : List (List UInt8)} {x : Ev} {A : Option Addr} {m c : Nat} {wr w1 : World} {v : Value} (h : TRel w b t T0 u ls T x A m c wr) (hk3 : x.kind ≤ 3)
    (hno : ∀ (j : Nat) (y : Ln), ls[j]? = some y → isL x.ses (decide (x.kind = 3)) y = false)
    (hO : w1.ownsRow 0 123 3 v (ls.length + 1) (lcells (ls ++ [⟨x.ses, decide (x.kind = 3), A, m, c, x.hs⟩]))) (hG : wr.grownBy w1 u.ownBlock) (hM : v.ownBlock = u.ownBlock ∨ ∀ k, v.ownBlock = some k → wr.heap.size ≤ k) :
    ToldR w b t T0 u ls T x A m (w1.setCell ⟨b, 2, Option.none⟩ v) ∧ w1.cell? ⟨b, 2, Option.none⟩ = some u ∧ w1.frozen? ⟨b, 2, Option.none⟩ = false := by
  have hB := h.book
  have hlt := hB.lt
  have hblk : w1.heap[b]? = wr.heap[b]? := hG.block b hlt (fun e => hB.nub e.symm)
  have ha1 : Alt wr w1 (fun k => u.ownBlock = some k) := alt_grown hG fun _ hk => hk
  have ha2 := alt_set w1 ⟨b, 2, Option.none⟩ v (S := fun k => k = b) rfl
  have hvb : v.ownBlock ≠ some b := fun e => by
    rcases hM with h1 | h1
    · exact hB.nub (by rw [← h1, e])
    · have := h1 b e
      omega
  have hvt : ∀ g, v.ownBlock = some g → ¬ T0 g := fun g hg hT => by
    rcases hM with h1 | h1
    · exact hB.nut g (by rw [← h1, hg]) hT
    · have h2 := h1 g hg
      have h3 := hB.tab.low g hT
      omega
  have hd : ∀ {A : Option Addr} {n c : Nat} {hs : List Hd}, HdO wr A n c hs (inB b T0 u) → HdO (w1.setCell ⟨b, 2, Option.none⟩ v) A n c hs (inB b T0 v) := fun {A n c hs} hx => by
    have h1 := hx.rd.alt ha1 fun g off e hn hk => hx.off g off e hn (.inr (.inr hk))
    refine ⟨h1.alt ha2 fun g off e hn hk => hx.off g off e hn (.inl hk), fun g off e hn hk => ?_⟩
    rcases hk with hk | hk | hk
    · exact hx.off g off e hn (.inl hk)
    · exact hx.off g off e hn (.inr (.inl hk))
    · rcases hM with h2 | h2
      · exact hx.off g off e hn (.inr (.inr (by rw [← h2, hk])))
      · have h3 := h2 g hk
        subst e
        have h4 := hx.rd.block hn
        omega
  refine ⟨⟨v, ls ++ [⟨x.ses, decide (x.kind = 3), A, m, c, x.hs⟩], ⟨heap_setCell_same w1 b 2 _ _ _ (hblk.trans hB.blk), ?_, ?_, hB.nbt, hvb, hvt, fun l hl => ?_⟩, fun s a => ?_, by simp, ?_, fun k hk => ?_, fun l hl => ?_⟩, ?_, ?_⟩
  · exact (hB.tab.alt ha1 fun k hk e => hB.nut k e hk).alt ha2 fun k hk e => hB.nbt (e ▸ hk)
  · rw [List.length_append]
    exact ownsRow_alt hO ha2 fun g hg e => hvb (by rw [hg, e])
  · rcases List.mem_append.1 hl with h1 | h1
    · exact hd (hB.hds l h1)
    · have : l = ⟨x.ses, decide (x.kind = 3), A, m, c, x.hs⟩ := by simpa using h1
      subst this
      exact hd h.hs
  · rw [findL_snoc ls ⟨x.ses, decide (x.kind = 3), A, m, c, x.hs⟩ hno s a]
    unfold lookE
    by_cases hc : s = x.ses ∧ a = decide (x.kind = 3)
    · rw [if_pos hc, if_pos ⟨hk3, hc⟩]
    · rw [if_neg hc, if_neg (fun h' => hc h'.2)]
  · exact (h.alt.trans ha1 fun j _ e => .inr (.inr e)).trans ha2 fun j _ e => .inl e
  · rcases hk with hk | hk | hk
    · exact .inl (.inl hk)
    · exact .inl (.inr (.inl hk))
    · rcases hM with h2 | h2
      · exact .inl (.inr (.inr (by rw [← h2, hk])))
      · exact .inr (Nat.le_trans h.alt.size (h2 k hk))
  · rcases List.mem_append.1 hl with h1 | h1
    · exact .inl ⟨l, h1, rfl, rfl⟩
    · have : l = ⟨x.ses, decide (x.kind = 3), A, m, c, x.hs⟩ := by simpa using h1
      subst this
      exact .inr ⟨rfl, rfl⟩
  · rw [World.cell?_of_block (a := ⟨b, 2, Option.none⟩) hblk]
    exact hB.cell.2.2
  · exact frozen_of_row w1 b 2 _ _ (hblk.trans hB.blk)
end Go.Proofs.Ytodncamohimmmaa

namespace Go.Proofs.Ytodncamohimmmaa
open Go.RowKit Go.Lib Leb

set_option maxHeartbeats 4000000 in
set_option maxRecDepth 100000 in
theorem refTold_late (b t : Nat) (T0 : Nat → Prop) (u : Value) (ls : List Ln) (T : List (List UInt8)) (tick : Int) (x : Ev) (A : Option Addr) (m c : Nat) (w : World) (h : RBk w b t T0 u ls T tick) (hk : 3 < x.kind) :
    Calls Try.prog 41 #[.pointer (some ⟨b, 0, Option.none⟩), evv x A m c] w fun e w' => e = .returned (.tuple #[]) ∧ ToldR w b t T0 u ls T x A m w' := by
  have hr := Lib.hid ((h.later (below_box w (.cells (ecell12 x A m c) 25))).ticked x.tick)
  have ha := Lib.hid (alt_tick w b T0 u (.cells (ecell12 x A m c) 25) (.int .i64 x.tick))
  have hl := h.later (below_box w (.cells (ecell12 x A m c) 25))
  have c1 := hl.cell.2.1
  have f1 := hl.free 1
  have hlook : ∀ s a, findL ls s a = lookE (findL ls) x s a := fun s a => by unfold lookE; rw [if_neg (by omega)]
  have hlook' := Lib.hid hlook
  clear h hl hlook
  obtain ⟨kind, ses, tk, me, url, hs, body, status, code, cred, no, k⟩ := x
  unfold evv
  unfold ecell12 at *
  simp only at *
  go_enter Try.func41, Try.ntmps41
  go_wp2
  refine bodyPost_ret (results_none rfl _ _ _) rfl ⟨rfl, u, ls, hr.out, hlook'.out, by omega, ha.out, fun k hk => .inl hk, fun l hl => .inl ⟨l, hl, rfl, rfl⟩⟩

set_option maxHeartbeats 16000000 in
set_option maxRecDepth 100000 in
theorem refTold_early (b t : Nat) (T0 : Nat → Prop) (u : Value) (ls : List Ln) (T : List (List UInt8)) (tick : Int) (x : Ev) (A : Option Addr) (m c : Nat) (w : World) (h : RBk w b t T0 u ls T tick) (hls : ls.length ≤ 1000000) (hx : HdO w A m c x.hs (inB b T0 u)) (hk : x.kind ≤ 3) :
    Calls Try.prog 41 #[.pointer (some ⟨b, 0, Option.none⟩), evv x A m c] w fun e w' => e = .returned (.tuple #[]) ∧ ToldR w b t T0 u ls T x A m w' := by
  have hr := Lib.hid (trel_start h hx)
  have hl := h.later (below_box w (.cells (ecell12 x A m c) 25))
  have c1 := hl.cell.2.1
  have f1 := hl.free 1
  have hbl := Lib.hid h.lt
  obtain ⟨n, hn⟩ : ∃ n, n = ls.length := ⟨_, rfl⟩
  have hn' := Lib.hid hn
  rw [← hn] at hls
  clear h hl hx hn
  have hlook := Lib.hid (show ∀ s a, lookE (findL ls) x s a = if s = x.ses ∧ a = decide (x.kind = 3) then x.hs else findL ls s a from fun s a => by unfold lookE; simp [hk])
  obtain ⟨kind, ses, tk, me, url, hs, body, status, code, cred, no, kk⟩ := x
  unfold evv
  unfold ecell12 at *
  simp only at *
  have hnk : ¬ 3 < kind := by omega
  go_enter Try.func41, Try.ntmps41
  go_wp2
  go_loopw [4] (fun i wr => ∃ k : Nat, k ≤ n ∧ i = .int .i64 k ∧ TRel w b t T0 u ls T ⟨kind, ses, tk, me, url, hs, body, status, code, cred, no, kk⟩ A m c wr ∧ ∀ (j : Nat) (y : Ln), j < k → ls[j]? = some y → isL ses (decide (kind = 3)) y = false) (fun i _ => n - (RowKit.intOf i).toNat)
  case atStart => exact ⟨0, Nat.zero_le _, rfl, hr.out, fun j _ hj => absurd hj (by omega)⟩
  case round =>
    clear hr c1 f1
    obtain ⟨k, hkn0, rfl, hrel, hno⟩ := hrel
    have hR := Lib.hid hrel
    have hno' := Lib.hid hno
    clear hrel hno
    obtain ⟨A0, c0, hu, hcs⟩ := hR.out.book.slice
    have b0 := hR.out.book.cell.1
    have b2 := hR.out.book.cell.2.2
    have e0 := hR.out.ev.c0
    have e1 := hR.out.ev.c1
    have e5 := hR.out.ev.c5
    simp only at e0 e1 e5
    rw [hu, ← hn'.out] at b2
    rw [← hn'.out] at hcs
    have hcs' := Lib.hid hcs
    have hu' := Lib.hid hu
    clear hcs hu
    by_cases hkn : k < n
    · obtain ⟨g, rfl, hc⟩ := hcs'.out (by omega)
      obtain ⟨l, hlk⟩ : ∃ l, ls[k]? = some l := ⟨_, List.getElem?_eq_getElem (by rw [← hn'.out]; exact hkn)⟩
      obtain ⟨d0, d1, d2⟩ := hc k l hlk
      have hlk' := Lib.hid hlk
      clear hc hlk
      obtain ⟨lses, lans, lA, ln, lc, lhs⟩ := l
      simp only at d0 d1 d2
      by_cases q1 : lses = ses
      · have q1' : (lses == ses) = true := by simp [q1]
        have q3 := Lib.hid q1
        clear q1
        by_cases q2 : lans = decide (kind = 3)
        · have q2' : (lans == (kind == 3)) = true := by simp [q2]; rfl
          have q4 := Lib.hid q2
          clear q2
          go_wp2
          have fz := hR.out.book.lineFree (g := g) (by rw [hu'.out]; rfl) (k * 3 + 2)
          go_quiet (fail)
          go_wp2
          go_region
          all_goals
            go_wp2
            refine bodyPost_ret (results_none rfl _ _ _) rfl ⟨rfl, ?_⟩
            exact told_line (hR.out.later (below_drewN (Below.refl _ _) _)) (by simp only; omega) hlk'.out q3.out q4.out hno'.out (g := g) (by rw [hu'.out]; rfl) (Below.refl _ _)
        · have q2' : (lans == (kind == 3)) = false := by cases lans <;> by_cases hk3 : kind = 3 <;> simp_all
          have q4 := Lib.hid q2
          clear q2
          go_wp2
          go_quiet (fail)
          go_wp2
          go_roundw
          case rel =>
            refine ⟨k + 1, by omega, by go_num, hR.out.later (below_drewN (Below.refl _ _) _), fun j y hj hy => ?_⟩
            by_cases ej : j = k
            · subst ej
              rw [hlk'.out] at hy
              injection hy with hy
              subst hy
              simp [isL, q4.out]
            · exact hno'.out j y (by omega) hy
          case measure => simp [RowKit.intOf]; omega
      · have q1' : (lses == ses) = false := by simp [q1]
        have q3 := Lib.hid q1
        clear q1
        go_wp2
        go_quiet (fail)
        go_wp2
        go_roundw
        case rel =>
          refine ⟨k + 1, by omega, by go_num, hR.out.later (below_drewN (Below.refl _ _) _), fun j y hj hy => ?_⟩
          by_cases ej : j = k
          · subst ej
            rw [hlk'.out] at hy
            injection hy with hy
            subst hy
            simp [isL, q3.out]
          · exact hno'.out j y (by omega) hy
        case measure => simp [RowKit.intOf]; omega
    · obtain rfl : n = k := by omega
      have hno := Lib.hid (fun (j : Nat) (y : Ln) (hy : ls[j]? = some y) => hno'.out j y (by have := (List.getElem?_eq_some_iff.1 hy).1; rw [hn'.out]; exact this) hy)
      obtain ⟨i0, hi0, hi1, hi2, hi3⟩ := info_parts infoLn
      go_wp2
      refine wp_region_tail 15 19 (by decide) (by kernel_rfl) (RInv 73 [56, 57, 58, 59, 60, 61, 62, 63, 64, 65, 66, 67, 68, 69, 70] _ (apF b w.heap.size ses kind A m c A0 n c0) { wr with heap := #[] } (TX wr u ls ⟨ses, decide (kind = 3), A, m, c, hs⟩)) (by kernel_rfl) (by kernel_rfl) (RInv.start rfl ⟨fun _ => (Below.refl _ _).drew, fun h => h.elim, fun h => h.elim⟩ ⟨rfl, rfl, rfl, Nat.zero_le _, fun k hk => absurd hk (Nat.not_lt_zero _)⟩) ?_ ?_
      · intro i hi D a w1 hI hcl hnd hpre
        have hi' : i < 15 := hi
        have hcase : i = 0 ∨ i = 1 ∨ i = 2 ∨ i = 3 ∨ i = 4 ∨ i = 5 ∨ i = 6 ∨ i = 7 ∨ i = 8 ∨ i = 9 ∨ i = 10 ∨ i = 11 ∨ i = 12 ∨ i = 13 ∨ i = 14 := by omega
        have hF := hI.fact
        rcases hcase with rfl | rfl | rfl | rfl | rfl | rfl | rfl | rfl | rfl | rfl | rfl | rfl | rfl | rfl | rfl
        · exact wpOp_move rfl (wanted_free rfl) _ rfl _ (hI.same 0 (by decide)) (hI.put (by decide) (by decide) (fun j _ _ h => apF_any h) rfl (hI.more.pure _ (by decide) (by decide) (by decide) (by decide)) hI.below)
        · exact wpOp_move rfl (wanted_free rfl) _ rfl _ (hI.same 0 (by decide)) (hI.put (by decide) (by decide) (fun j _ _ h => apF_any h) rfl (hI.more.pure _ (by decide) (by decide) (by decide) (by decide)) hI.below)
        · exact wpOp_nil9 rfl (wanted_free rfl) _ rfl _ (hF 1 (hpre 1 (by kernel_rfl))) (hI.put (by decide) (by decide) (fun j _ _ h => apF_any h) rfl (hI.more.pure _ (by decide) (by decide) (by decide) (by decide)) hI.below)
        · exact wpOp_field rfl (wanted_free rfl) _ _ _ rfl _ _ (hF 2 (hpre 2 (by kernel_rfl))) (run_fieldB2 w1 b) (hI.put (by decide) (by decide) (fun j _ _ h => apF_any h) rfl (hI.more.pure _ (by decide) (by decide) (by decide) (by decide)) hI.below)
        · exact wpOp_load rfl (wanted_free rfl) _ _ rfl _ _ (hF 3 (hpre 3 (by kernel_rfl))) (run_loadLn w1 b 2 _ _ _ (by have := (hR.out.book.later (hI.more.calm (fun h14 => hnd (hcl 14 h14 4 (by kernel_rfl))))).cell.2.2; rw [hu'.out, ← hn'.out] at this; exact this)) (hI.put (by decide) (by decide) (fun j _ _ h => apF_any h) rfl (hI.more.pure _ (by decide) (by decide) (by decide) (by decide)) hI.below)
        · exact wpOp_field rfl (wanted_free rfl) _ _ _ rfl _ _ (hI.same 3 (by decide)) (run_fieldE_1 w1 w.heap.size) (hI.put (by decide) (by decide) (fun j _ _ h => apF_any h) rfl (hI.more.pure _ (by decide) (by decide) (by decide) (by decide)) hI.below)
        · exact wpOp_load rfl (wanted_free rfl) _ _ rfl _ _ (hF 5 (hpre 5 (by kernel_rfl))) (run_loadI9 w1 w.heap.size 1 ses ((hR.out.ev.later (hI.more.calm (fun h14 => hnd (hcl 12 (hcl 13 (hcl 14 h14 13 (by kernel_rfl)) 12 (by kernel_rfl)) 6 (by kernel_rfl))))).c1)) (hI.put (by decide) (by decide) (fun j _ _ h => apF_any h) rfl (hI.more.pure _ (by decide) (by decide) (by decide) (by decide)) hI.below)
        · exact wpOp_field rfl (wanted_free rfl) _ _ _ rfl _ _ (hI.same 3 (by decide)) (run_fieldE0 w1 w.heap.size) (hI.put (by decide) (by decide) (fun j _ _ h => apF_any h) rfl (hI.more.pure _ (by decide) (by decide) (by decide) (by decide)) hI.below)
        · exact wpOp_load rfl (wanted_free rfl) _ _ rfl _ _ (hF 7 (hpre 7 (by kernel_rfl))) (run_loadI9 w1 w.heap.size 0 kind ((hR.out.ev.later (hI.more.calm (fun h14 => hnd (hcl 9 (hcl 12 (hcl 13 (hcl 14 h14 13 (by kernel_rfl)) 12 (by kernel_rfl)) 9 (by kernel_rfl)) 8 (by kernel_rfl))))).c0)) (hI.put (by decide) (by decide) (fun j _ _ h => apF_any h) rfl (hI.more.pure _ (by decide) (by decide) (by decide) (by decide)) hI.below)
        · exact wpOp_bin rfl (wanted_free rfl) _ _ _ _ _ rfl _ _ _ (hF 8 (hpre 8 (by kernel_rfl))) rfl (run_eq3 w1 kind) (hI.put (by decide) (by decide) (fun j _ _ h => apF_any h) rfl (hI.more.pure _ (by decide) (by decide) (by decide) (by decide)) hI.below)
        · exact wpOp_field rfl (wanted_free rfl) _ _ _ rfl _ _ (hI.same 3 (by decide)) (run_fieldE_5 w1 w.heap.size) (hI.put (by decide) (by decide) (fun j _ _ h => apF_any h) rfl (hI.more.pure _ (by decide) (by decide) (by decide) (by decide)) hI.below)
        · exact wpOp_load rfl (wanted_free rfl) _ _ rfl _ _ (hF 10 (hpre 10 (by kernel_rfl))) (run_loadHs w1 w.heap.size 5 A m c ((hR.out.ev.later (hI.more.calm (fun h14 => hnd (hcl 12 (hcl 13 (hcl 14 h14 13 (by kernel_rfl)) 12 (by kernel_rfl)) 11 (by kernel_rfl))))).c5)) (hI.put (by decide) (by decide) (fun j _ _ h => apF_any h) rfl (hI.more.pure _ (by decide) (by decide) (by decide) (by decide)) hI.below)
        · exact wpOp_agg rfl (wanted_free rfl) _ _ rfl #[(0, .int .i64 ses), (1, .bool (decide (kind = 3))), (2, .slice A m c)] (by simp only [List.map_toArray, List.map_cons, List.map_nil, show a.eval (.tmp 62) = .int .i64 ses from (hF 6 (hpre 6 (by kernel_rfl))), show a.eval (.tmp 65) = .bool (decide (kind = 3)) from (hF 9 (hpre 9 (by kernel_rfl))), show a.eval (.tmp 67) = .slice A m c from (hF 11 (hpre 11 (by kernel_rfl)))]) _ (run_aggLn w1 _ _ _ _ _) (hI.put (by decide) (by decide) (fun j _ _ h => apF_any h) rfl (hI.more.pure _ (by decide) (by decide) (by decide) (by decide)) hI.below)
        · have hcalm := (hI.more.calm (fun h14 => hnd (hcl 14 h14 13 (by kernel_rfl))))
          refine wpOp_build rfl (wanted_free rfl) _ _ _ rfl #[(0, .agg #[.int .i64 ses, .bool (decide (kind = 3)), .slice A m c])] ?_ _ (run_buildLn w1 ⟨ses, decide (kind = 3), A, m, c, hs⟩) (hI.put (by decide) (by decide) (fun j _ _ h => apF_any h) trivial ⟨fun _ => hcalm.alloc hcalm.size _, fun _ _ => ⟨w1.heap.size, eval_put_same _ _ _ (by rw [hI.size]; decide), fun j u hu => ?_⟩, fun hd => absurd (hcl 14 (hd.resolve_right (by decide)) 13 (by kernel_rfl)) hnd⟩ (hI.below.alloc (Nat.zero_le _) _))
          · have e12 : a.eval (.tmp 68) = .agg #[.int .i64 ses, .bool (decide (kind = 3)), .slice A m c] := (hF 12 (hpre 12 (by kernel_rfl)))
            simp [e12]
          · rw [cell_of_row _ _ _ _ _ _ (heap_alloc_new w1 _)]
            exact (List.getElem?_toArray ..).trans hu
        · have hcalm := hI.more.calm hnd
          obtain ⟨gx, e69, hEx⟩ := hI.more.one (hpre 13 (by kernel_rfl)) hnd
          have hBk := hR.out.book.later hcalm
          obtain ⟨v9, w9, hrun, hO9, hg9, hm9⟩ := run_append_lines (P := Try.prog) 71 71 i0 Try.underlying71 hi0 hi1 hi2 hi3 hBk.own (l := ⟨ses, decide (kind = 3), A, m, c, hs⟩) hEx (by have := hn'.out; omega)
          exact wpOp_appendL rfl (wanted_free rfl) _ _ _ rfl _ _ _ (by rw [show a.eval (.tmp 60) = .slice A0 n c0 from (hF 4 (hpre 4 (by kernel_rfl))), hu'.out, ← hn'.out]) e69 hrun (hI.put (by decide) (by decide) (fun j _ _ h => apF_any h) trivial ⟨fun hn => absurd (.inr rfl) hn, fun _ hn => absurd (.inr rfl) hn, fun _ => ⟨v9, eval_put_same _ _ _ (by rw [hI.size]; decide), hO9, grown9 (grows9 hcalm _) hg9, hm9.elim (fun e => .inl e) (fun e => .inr (fun k hk => by rw [e] at hk; injection hk with hk; have := hcalm.size; omega))⟩⟩ (hI.below.grown hg9 (Nat.zero_le _) (fun k _ => Nat.zero_le _)))
      · intro D a w1 hI hall
        obtain ⟨v9, e70, hO9, hG9, hV9⟩ := hI.more.full (hall 14 (by decide))
        have hd : a.defers = [] := hI.defs
        have e56 : a.eval (.tmp 56) = .pointer (some ⟨b, 0, Option.none⟩) := hI.fact 0 (hall 0 (by decide))
        have hsz := hI.size
        clear hI hall
        have hfin := Lib.hid (told_new hR.out (by simp only; omega) hno hO9 hG9 hV9)
        have hbb := hfin.out.2
        show wpOps _ _ _ [15, 16, 17] a w1
        rw [wpOps_cons]
        refine wpOp_nil9 rfl (wanted_free rfl) _ rfl _ e56 ?_
        show wpOps _ _ _ _ (a.put (some 71) (.pointer (some ⟨b, 0, Option.none⟩))) w1
        rw [wpOps_cons]
        refine wpOp_field rfl (wanted_free rfl) _ _ _ rfl _ _ (eval_put_same _ _ _ (by rw [hsz]; decide)) (run_fieldB2 w1 b) ?_
        show wpOps _ _ _ _ ((a.put (some 71) (.pointer (some ⟨b, 0, Option.none⟩))).put (some 72) (.pointer (some ⟨b, 2, Option.none⟩))) w1
        rw [wpOps_cons]
        obtain ⟨A9, n9, c9, rfl⟩ := own_slice hO9
        refine wpOp_store rfl (wanted_free rfl) _ _ _ rfl _ _ (eval_put_same _ _ _ (by rw [size_put, hsz]; decide)) (by rw [eval_put_other _ _ (by decide), eval_put_other _ _ (by decide)]; exact e70) (run_storeLn w1 b _ _ _ _ hbb.1 hbb.2) ?_
        rw [wpOps]
        go_wp2
        exact bodyPost_end (results_none rfl _ _ _) (by first | exact hd | rfl) ⟨rfl, hfin.out.1⟩

theorem refTold_any (b t : Nat) (T0 : Nat → Prop) (u : Value) (ls : List Ln) (T : List (List UInt8)) (tick : Int) (x : Ev) (A : Option Addr) (m c : Nat) (w : World) (h : RBk w b t T0 u ls T tick) (hls : ls.length ≤ 1000000) (hx : HdO w A m c x.hs (inB b T0 u)) :
    Calls Try.prog 41 #[.pointer (some ⟨b, 0, Option.none⟩), evv x A m c] w fun e w' => e = .returned (.tuple #[]) ∧ ToldR w b t T0 u ls T x A m w' := by
  by_cases hk : x.kind ≤ 3
  · exact refTold_early b t T0 u ls T tick x A m c w h hls hx hk
  · exact refTold_late b t T0 u ls T tick x A m c w h (by omega)
end Go.Proofs.Ytodncamohimmmaa
