/-
  'x, y = t.Put(x, s), r.Put(y, s)' in open order: what holds while it is done. Conditions: those that each theorem states.
-/
import Derived.Test.YtlmchoonokglaaaTabWords
namespace Go.Proofs.Ytlmchoonokglaaa
open Go.RowKit Go.Lib Go.Maps Go.WideMaps Leb

theorem bts_holds {w : World} {A : Option Addr} {n c : Nat} {Y : List Int} {S1 S2 : Nat → Prop} (h : Bts w (.slice A n c) Y S1 S2) : n = Y.length ∧ Holds w A n c Y ∧ Off S1 A n ∧ Off S2 A n := by
  obtain ⟨A', c', e, hY, h1, h2⟩ := h.rd
  injection e with e1 e2 e3
  subst e1
  subst e2
  subst e3
  exact ⟨rfl, hY, h1, h2⟩
theorem bts_arg {W w : World} {A : Option Addr} {n c : Nat} {X : List Int} {S1 S2 : Nat → Prop} (hX : Holds W A n c X) (hb : Below W.heap.size W w) (h1 : ∀ k, S1 k → W.heap.size ≤ k) (h2 : ∀ k, S2 k → W.heap.size ≤ k) : Bts w (.slice A n c) X S1 S2 := by
  have hl := hX.len
  subst hl
  refine ⟨A, c, rfl, hX.later hb, fun g off e hn hs => ?_, fun g off e hn hs => ?_⟩
  · subst e
    have := hX.block hn
    have := h1 g hs
    omega
  · subst e
    have := hX.block hn
    have := h2 g hs
    omega

section
variable {P : Program} {ops : Array Oper} {Q : Exit → Act → World → Prop} {i : Nat} {o : Oper} {a : Act} {w : World} {K : Act → World → Prop}
theorem wpOp_call3 (ho : ops[i]? = some o) (hw : Region.wanted o (yielded ops a.tmps) = true) (f : FuncId) (x y z : Operand) (ts : Array TypeId) (hop : o.op = .call { callee := .value (.func f), args := #[x, y, z], argTypes := ts }) (u u' u'' : Value) (hx : a.eval x = u) (hy : a.eval y = u') (hz : a.eval z = u'')
    {R : Ending → World → Prop} (hcf : (callFunc f #[u, u', u'']).run P w = .ok (.enter f #[u, u', u'']) w) (hc : Calls P f #[u, u', u''] w R) (hK : ∀ e w', R e w' → ∃ v, e = .returned v ∧ K (a.put o.dst v) w') : wpOp P ops Q i K a w :=
  wpOp_call ho hw f #[u, u', u''] (by
    subst hx
    subst hy
    subst hz
    unfold execOp
    simp only [hop, resolve, Act.eval, Deferred.ofValue, invoke, Sem.run_bind, Sem.run_pure, Result.andThen_ok, List.map_toArray, List.map_cons, List.map_nil, Array.append_empty]
    exact hcf) hc hK
end
theorem enters_pp (vs : Array Value) (w : World) : (callFunc 8 vs).run Try.prog w = .ok (.enter 8 vs) w := by kernel_rfl
theorem enters_rp (vs : Array Value) (w : World) : (callFunc 9 vs).run Try.prog w = .ok (.enter 9 vs) w := by kernel_rfl
set_option maxRecDepth 100000 in
theorem run_idx99 (w : World) (g n c k : Nat) (h : k < n) : (Instr.indexAt 23 (.slice (some ⟨g, 0, Option.none⟩) n c) (.int .i64 (k : Int))).run Try.prog w = .ok (.pointer (some ⟨g, k, Option.none⟩)) w := by go_simp
set_option maxRecDepth 100000 in
theorem run_load99 (w : World) (g k : Nat) (x : ByteArray) (h : w.cell? ⟨g, k, Option.none⟩ = some (.string x)) : (Instr.loadAt 9 (.pointer (some ⟨g, k, Option.none⟩))).run Try.prog w = .ok (.string x) w := by go_simp

theorem run_front9 (w : World) (A : Option Addr) (n c k : Nat) (h : k ≤ n) (hc : n ≤ c) : (Instr.sliceAt 22 (.slice A n c) Option.none (some (.int .i64 (k : Int))) Option.none).run Try.prog w = .ok (.slice A k c) w := by
  have f3 : (0 : Int) ≤ (k : Int) := by omega
  have f5 : (k : Int) ≤ (c : Int) := by omega
  go_simp
/-- What the slots hold of 'x, y = b[:300], b[:300]'. -/
def fxF (A : Option Addr) (n c : Nat) (j : Nat) (v : Value) (_ : World) : Prop :=
  match j with
  | 0 | 2 => v = .slice A n c
  | 1 | 3 | 4 => v = .slice A (300 : Nat) c
  | _ => True
theorem fxF_later {A : Option Addr} {n c : Nat} : Outlives (fxF A n c) := by
  intro j v w w' h _
  unfold fxF at h ⊢
  split at h
  all_goals exact h

/-- What the slots hold. -/
def pxF (b1 b2 : Nat) (x y l : Value) (k g : Nat) (s : ByteArray) (j : Nat) (v : Value) (_ : World) : Prop :=
  match j with
  | 0 => v = .pointer (some ⟨b1, 0, Option.none⟩)
  | 1 => v = x
  | 2 | 9 => v = l
  | 3 | 10 => v = .int .i64 (k : Int)
  | 4 | 11 => v = .pointer (some ⟨g, k, Option.none⟩)
  | 5 | 12 => v = .string s
  | 7 => v = .pointer (some ⟨b2, 0, Option.none⟩)
  | 8 => v = y
  | _ => True
theorem pxF_any {b1 b2 : Nat} {x y l : Value} {k g : Nat} {s : ByteArray} {j : Nat} {v : Value} {w w' : World} (h : pxF b1 b2 x y l k g s j v w) : pxF b1 b2 x y l k g s j v w' := by
  unfold pxF at h ⊢
  split at h
  all_goals exact h

structure IX (B : Nat) (W0 : World) (A : Option Addr) (m : Nat) (L : List (List UInt8)) (b1 b2 : Nat) (T T' : List (List UInt8)) (Y Y' : List Int) (x y : Value) (D : Nat → Prop) (a : Act) (w : World) : Prop where
  rd : ∃ S1 S2 l1 l2, Duo B w b1 l1 S1 b2 l2 S2 ∧ Lst w A m L S1 S2 ∧ Below B W0 w ∧ B ≤ w.heap.size ∧ (¬ D 6 → l1 = T ∧ Bts w x Y S1 S2) ∧ (D 6 → l1 = T' ∧ Bts w (a.eval (.tmp 37)) Y' S1 S2) ∧ (¬ D 13 → l2 = T ∧ Bts w y Y S1 S2) ∧ (D 13 → l2 = T' ∧ Bts w (a.eval (.tmp 44)) Y' S1 S2)

section
variable {B : Nat} {W0 : World} {A : Option Addr} {m : Nat} {L : List (List UInt8)} {b1 b2 : Nat} {T T' : List (List UInt8)} {Y Y' : List Int} {x y : Value} {D : Nat → Prop} {a : Act} {w w' : World}
theorem IX.pure (h : IX B W0 A m L b1 b2 T T' Y Y' x y D a w) {i s : Nat} (u : Value) (h6 : i ≠ 6) (h13 : i ≠ 13) (hs1 : s ≠ 37) (hs2 : s ≠ 44) : IX B W0 A m L b1 b2 T T' Y Y' x y (fun j => D j ∨ j = i) (a.put (some s) u) w := by
  obtain ⟨S1, S2, l1, l2, hD, hL, hB, hs, n6, d6, n13, d13⟩ := h.rd
  refine ⟨S1, S2, l1, l2, hD, hL, hB, hs, fun hn => n6 fun h' => hn (.inl h'), fun hd => ?_, fun hn => n13 fun h' => hn (.inl h'), fun hd => ?_⟩
  · rw [eval_put_other _ _ (Ne.symm hs1)]
    exact d6 (hd.resolve_right fun e => h6 e.symm)
  · rw [eval_put_other _ _ (Ne.symm hs2)]
    exact d13 (hd.resolve_right fun e => h13 e.symm)
/-- The Table has put. -/
theorem ix_opP (hn13 : ¬ D 13) (hsz : 37 < a.tmps.size) {S1 S2 : Nat → Prop} {l2 : List (List UInt8)} (hD : Duo B w b1 T S1 b2 l2 S2) (hL : Lst w A m L S1 S2) (hB : Below B W0 w) (hs : B ≤ w.heap.size) (hy : l2 = T ∧ Bts w y Y S1 S2)
    {r : Value} {S' : Nat → Prop} (hown : Owns w' w.heap.size 5 r Y') (hof : OffV S' r) (hst : PStep w w' b1 S1 S' T') : IX B W0 A m L b1 b2 T T' Y Y' x y (fun j => D j ∨ j = 6) (a.put (some 37) r) w' := by
  refine ⟨S', S2, T', l2, hD.stepP hst hs, hL.stepP hst, hD.onP hB hst hs, Nat.le_trans hs hst.alt.size, fun hn => absurd (.inr rfl) hn, fun _ => ?_, fun _ => ⟨hy.1, hy.2.stepP hst⟩, fun hd => hd.elim (fun h' => absurd h' hn13) (fun e => by omega)⟩
  rw [eval_put_same _ _ _ hsz]
  exact ⟨rfl, hD.madeP hown hof⟩
/-- The reference has put. -/
theorem ix_opR (hd6 : D 6) (hsz : 44 < a.tmps.size) {S1 S2 : Nat → Prop} {l1 : List (List UInt8)} (hD : Duo B w b1 l1 S1 b2 T S2) (hL : Lst w A m L S1 S2) (hB : Below B W0 w) (hs : B ≤ w.heap.size) (hx : l1 = T' ∧ Bts w (a.eval (.tmp 37)) Y' S1 S2)
    {r : Value} {S' : Nat → Prop} (hown : Owns w' w.heap.size 5 r Y') (hof : OffV S' r) (hst : RStep w w' b2 S2 S' T') : IX B W0 A m L b1 b2 T T' Y Y' x y (fun j => D j ∨ j = 13) (a.put (some 44) r) w' := by
  refine ⟨S1, S', l1, T', hD.stepR hst hs, hL.stepR hst, hD.onR hB hst hs, Nat.le_trans hs hst.alt.size, fun hn => absurd (.inl hd6) hn, fun _ => ?_, fun hn => absurd (.inr rfl) hn, fun _ => ?_⟩
  · rw [eval_put_other _ _ (by decide)]
    exact ⟨hx.1, hx.2.stepR hst⟩
  · rw [eval_put_same _ _ _ hsz]
    exact ⟨rfl, hD.madeR hown hof⟩
end

theorem ix_cell {B : Nat} {W0 : World} {g m : Nat} {L : List (List UInt8)} {b1 b2 : Nat} {T T' : List (List UInt8)} {Y Y' : List Int} {x y : Value} {D : Nat → Prop} {a : Act} {w : World} (h : IX B W0 (some ⟨g, 0, Option.none⟩) m L b1 b2 T T' Y Y' x y D a w) {k : Nat} (hk : k < m) {p : List UInt8} (hp : L[k]? = some p) : w.cell? ⟨g, k, Option.none⟩ = some (.string (mk p)) := by
  obtain ⟨S1, S2, l1, l2, _, hL, _⟩ := h.rd
  obtain ⟨g', p', e, e2, hc⟩ := lst_at hL hk
  injection e with e
  injection e with e
  subst e
  rw [hp] at e2
  injection e2 with e2
  subst e2
  exact hc
theorem below_none {w0 w w' : World} {S : Nat → Prop} (h : Below ({ w0 with heap := #[] } : World).heap.size { w0 with heap := #[] } w) (ha : Alt w w' S) : Below ({ w0 with heap := #[] } : World).heap.size { w0 with heap := #[] } w' :=
  ⟨ha.os.trans h.os, ha.tape.trans h.tape, ha.output.trans h.output, Nat.zero_le _, fun k hk => absurd hk (by simp)⟩
theorem putAll_eval {a0 : Act} {ds : List Nat} {f : Nat → Value} {a : Act} (ha : a = putAll a0 ds (ds.map f)) (hd : ds.Nodup) (hN : ∀ t ∈ ds, t < a0.tmps.size) {t : Nat} (ht : t ∈ ds) : a.eval (.tmp t) = f t := by
  rw [ha]
  exact putAll_at a0 f ds hd hN t ht
end Go.Proofs.Ytlmchoonokglaaa
