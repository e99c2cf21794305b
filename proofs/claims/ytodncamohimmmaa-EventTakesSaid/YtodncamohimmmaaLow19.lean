/-
  Texts of one sort, one behind the other: numbers, memory, regions, strings, headers. Conditions: those that each theorem states.
-/
import Derived.Test.YtodncamohimmmaaEvPRead
import Derived.Test.YtodncamohimmmaaEvPVisit

namespace Go.Proofs.Ytodncamohimmmaa
open Go.RowKit Go.Lib Go.Maps Leb

structure RdQ (W : World) (h : Nat) (pp : Addr) (C s0 : Nat) (q' e' : Int) (G : World → Value → Prop) (D : Nat → Prop) (a : Act) (w : World) : Prop where
  pre : ¬ D C → Below W.heap.size W w
  post : D C → ∃ w2 v, G w2 v ∧ a.eval (.tmp s0) = .tuple #[v, .int .i64 q', .int .i64 e'] ∧ (D (C + 1) → a.eval (.tmp 9) = .tuple #[v, .int .i64 q', .int .i64 e']) ∧ (D (C + 2) → a.eval (.tmp (s0 + 1)) = v) ∧ (D (C + 3) → a.eval (.tmp (s0 + 2)) = .int .i64 q') ∧ (D (C + 4) → a.eval (.tmp (s0 + 3)) = .int .i64 e') ∧
    (¬ D (C + 6) → w = w2) ∧ (D (C + 6) → ¬ D (C + 9) → w = w2.setCell pp v) ∧ (D (C + 9) → w = (w2.setCell pp v).setCell ⟨h, 1, Option.none⟩ (.int .i64 q'))
section
variable {W : World} {h : Nat} {pp : Addr} {C s0 : Nat} {q' e' : Int} {G : World → Value → Prop} {D : Nat → Prop} {a : Act} {w : World}
theorem RdQ.pure (H : RdQ W h pp C s0 q' e' G D a w) {i s : Nat} {v : Value} (hi : i ≠ C ∧ i ≠ C + 1 ∧ i ≠ C + 2 ∧ i ≠ C + 3 ∧ i ≠ C + 4 ∧ i ≠ C + 6 ∧ i ≠ C + 9) (hs : s0 ≠ s ∧ 9 ≠ s ∧ s0 + 1 ≠ s ∧ s0 + 2 ≠ s ∧ s0 + 3 ≠ s) : RdQ W h pp C s0 q' e' G (fun j => D j ∨ j = i) (a.put (some s) v) w := by
  obtain ⟨i1, i2, i3, i4, i5, i6, i7⟩ := hi
  obtain ⟨j1, j2, j3, j4, j5⟩ := hs
  refine ⟨fun hn => H.pre fun d => hn (.inl d), fun d => ?_⟩
  obtain ⟨w2, v2, hG, a1, a2, a3, a4, a5, a6, a7, a8⟩ := H.post (d.resolve_right (Ne.symm i1))
  exact ⟨w2, v2, hG, by rw [eval_put_other _ _ j1]; exact a1, fun d => by rw [eval_put_other _ _ j2]; exact a2 (d.resolve_right (Ne.symm i2)), fun d => by rw [eval_put_other _ _ j3]; exact a3 (d.resolve_right (Ne.symm i3)), fun d => by rw [eval_put_other _ _ j4]; exact a4 (d.resolve_right (Ne.symm i4)), fun d => by rw [eval_put_other _ _ j5]; exact a5 (d.resolve_right (Ne.symm i5)),
    fun hn => a6 fun d => hn (.inl d), fun d hn => a7 (d.resolve_right (Ne.symm i6)) fun d => hn (.inl d), fun d => a8 (d.resolve_right (Ne.symm i7))⟩
theorem RdQ.call {v : Value} (hsz : s0 < a.tmps.size) (hG : G w v) (n1 : ¬ D (C + 1)) (n2 : ¬ D (C + 2)) (n3 : ¬ D (C + 3)) (n4 : ¬ D (C + 4)) (n6 : ¬ D (C + 6)) (n9 : ¬ D (C + 9)) : RdQ W h pp C s0 q' e' G (fun j => D j ∨ j = C) (a.put (some s0) (.tuple #[v, .int .i64 q', .int .i64 e'])) w :=
  ⟨fun hn => absurd (.inr rfl) hn, fun _ => ⟨w, v, hG, eval_put_same _ _ _ hsz, fun d => absurd (d.resolve_right (by omega)) n1, fun d => absurd (d.resolve_right (by omega)) n2, fun d => absurd (d.resolve_right (by omega)) n3, fun d => absurd (d.resolve_right (by omega)) n4, fun _ => rfl, fun d _ => absurd (d.resolve_right (by omega)) n6, fun d => absurd (d.resolve_right (by omega)) n9⟩⟩
theorem RdQ.part {w2 : World} {v u : Value} {i s : Nat} (hd : D C) (hi : i ≠ C ∧ i ≠ C + 6 ∧ i ≠ C + 9) (hs : s0 ≠ s) (hG : G w2 v) (a1 : a.eval (.tmp s0) = .tuple #[v, .int .i64 q', .int .i64 e'])
    (a2 : (D (C + 1) ∨ C + 1 = i) → (a.put (some s) u).eval (.tmp 9) = .tuple #[v, .int .i64 q', .int .i64 e']) (a3 : (D (C + 2) ∨ C + 2 = i) → (a.put (some s) u).eval (.tmp (s0 + 1)) = v) (a4 : (D (C + 3) ∨ C + 3 = i) → (a.put (some s) u).eval (.tmp (s0 + 2)) = .int .i64 q') (a5 : (D (C + 4) ∨ C + 4 = i) → (a.put (some s) u).eval (.tmp (s0 + 3)) = .int .i64 e')
    (a6 : ¬ D (C + 6) → w = w2) (a7 : D (C + 6) → ¬ D (C + 9) → w = w2.setCell pp v) (a8 : D (C + 9) → w = (w2.setCell pp v).setCell ⟨h, 1, Option.none⟩ (.int .i64 q')) : RdQ W h pp C s0 q' e' G (fun j => D j ∨ j = i) (a.put (some s) u) w :=
  ⟨fun hn => absurd (.inl hd) hn, fun _ => ⟨w2, v, hG, by rw [eval_put_other _ _ hs]; exact a1, a2, a3, a4, a5, fun hn => a6 fun d => hn (.inl d), fun d hn => a7 (d.resolve_right (by omega)) fun d => hn (.inl d), fun d => a8 (d.resolve_right (by omega))⟩⟩
theorem RdQ.one (hd : D C) {w2 : World} {v : Value} (hG : G w2 v) (hi : ¬ D (C + 9)) (a1 : a.eval (.tmp s0) = .tuple #[v, .int .i64 q', .int .i64 e'])
    (a2 : D (C + 1) → a.eval (.tmp 9) = .tuple #[v, .int .i64 q', .int .i64 e']) (a3 : D (C + 2) → a.eval (.tmp (s0 + 1)) = v) (a4 : D (C + 3) → a.eval (.tmp (s0 + 2)) = .int .i64 q') (a5 : D (C + 4) → a.eval (.tmp (s0 + 3)) = .int .i64 e') : RdQ W h pp C s0 q' e' G (fun j => D j ∨ j = C + 6) a (w2.setCell pp v) :=
  ⟨fun hn => absurd (.inl hd) hn, fun _ => ⟨w2, v, hG, a1, fun d => a2 (d.resolve_right (by omega)), fun d => a3 (d.resolve_right (by omega)), fun d => a4 (d.resolve_right (by omega)), fun d => a5 (d.resolve_right (by omega)), fun hn => absurd (.inr rfl) hn, fun _ _ => rfl, fun d => absurd (d.resolve_right (by omega)) hi⟩⟩
theorem RdQ.two (hd : D C) {w2 : World} {v : Value} (hG : G w2 v) (h6 : D (C + 6)) (a1 : a.eval (.tmp s0) = .tuple #[v, .int .i64 q', .int .i64 e'])
    (a2 : D (C + 1) → a.eval (.tmp 9) = .tuple #[v, .int .i64 q', .int .i64 e']) (a3 : D (C + 2) → a.eval (.tmp (s0 + 1)) = v) (a4 : D (C + 3) → a.eval (.tmp (s0 + 2)) = .int .i64 q') (a5 : D (C + 4) → a.eval (.tmp (s0 + 3)) = .int .i64 e') : RdQ W h pp C s0 q' e' G (fun j => D j ∨ j = C + 9) a ((w2.setCell pp v).setCell ⟨h, 1, Option.none⟩ (.int .i64 q')) :=
  ⟨fun hn => absurd (.inl hd) hn, fun _ => ⟨w2, v, hG, a1, fun d => a2 (d.resolve_right (by omega)), fun d => a3 (d.resolve_right (by omega)), fun d => a4 (d.resolve_right (by omega)), fun d => a5 (d.resolve_right (by omega)), fun hn => absurd (.inl h6) hn, fun _ hn => absurd (.inr rfl) hn, fun _ => rfl⟩⟩
end
theorem RInv.stay {N : Nat} {ds : List Nat} {a0 : Act} {F : Nat → Value → World → Prop} {w0 : World} {X : (Nat → Prop) → Act → World → Prop} {D : Nat → Prop} {a : Act} {w w' : World} {i : Nat} (hI : RInv N ds a0 F w0 X D a w) (hi : i < ds.length)
    (hF : ∀ j, D j → F j (a.eval (.tmp (slotAt ds j))) w → F j (a.eval (.tmp (slotAt ds j))) w') (hv : F i (a.eval (.tmp (slotAt ds i))) w') (hX : X (fun j => D j ∨ j = i) a w') (hb : Below w0.heap.size w0 w') : RInv N ds a0 F w0 X (fun j => D j ∨ j = i) a w' :=
  ⟨hI.size, hI.defs, fun j hj => hj.elim (hI.few j) (fun e => e ▸ hi), hI.same, fun j hj => hj.elim (fun d => hF j d (hI.fact j d)) (fun e => e ▸ hv), hX, hb⟩
theorem below_nil {W w : World} {B : Nat} (h : Below B W w) : Below ({ W with heap := #[] } : World).heap.size { W with heap := #[] } w := ⟨h.os, h.tape, h.output, Nat.zero_le _, fun _ hk => absurd hk (Nat.not_lt_zero _)⟩
theorem below_nil_set {W w : World} (h : Below ({ W with heap := #[] } : World).heap.size { W with heap := #[] } w) (p : Addr) (v : Value) : Below ({ W with heap := #[] } : World).heap.size { W with heap := #[] } (w.setCell p v) := ⟨h.os, h.tape, h.output, Nat.zero_le _, fun _ hk => absurd hk (Nat.not_lt_zero _)⟩
theorem RdAt.later {W W' : World} {h : Nat} {A : Option Addr} {n c : Nat} {q : Int} {tb : Nat} {wv : Value} {e : Int} (H : RdAt W h A n c q tb wv e) (hb : Below W.heap.size W W') : RdAt W' h A n c q tb wv e := (hb.block _ H.lt).trans H
section
variable {P : Program} {ops : Array Oper} {Q : Exit → Act → World → Prop} {i : Nat} {o : Oper} {a : Act} {w : World} {K : Act → World → Prop}
theorem wpOp_call4q (ho : ops[i]? = some o) (hw : Region.wanted o (yielded ops a.tmps) = true) (f : FuncId) (x y z t : Operand) (ts : Array TypeId) (hop : o.op = .call { callee := .value (.func f), args := #[x, y, z, t], argTypes := ts }) (u u' u'' u3 : Value) (hx : a.eval x = u) (hy : a.eval y = u') (hz : a.eval z = u'') (ht : a.eval t = u3)
    {R : Ending → World → Prop} (hcf : (callFunc f #[u, u', u'', u3]).run P w = .ok (.enter f #[u, u', u'', u3]) w) (hc : Calls P f #[u, u', u'', u3] w R) (hK : ∀ e w', R e w' → ∃ v, e = .returned v ∧ K (a.put o.dst v) w') : wpOp P ops Q i K a w :=
  wpOp_call ho hw f #[u, u', u'', u3] (by
    subst hx
    subst hy
    subst hz
    subst ht
    unfold execOp
    simp only [hop, resolve, Act.eval, Deferred.ofValue, invoke, Sem.run_bind, Sem.run_pure, Result.andThen_ok, List.map_toArray, List.map_cons, List.map_nil, Array.append_empty]
    exact hcf) hc hK
end
section
variable {P : Program} {ops : Array Oper} {Q : Exit → Act → World → Prop} {i : Nat} {o : Oper} {a : Act} {w : World} {K : Act → World → Prop}
theorem wpOp_extractQ (ho : ops[i]? = some o) (hw : Region.wanted o (yielded ops a.tmps) = true) (x : Operand) (k : Nat) (hop : o.op = .extract x k) (u v : Value) (hx : a.eval x = u) (hr : (Instr.extract u k).run P w = .ok v w) (hK : K (a.put o.dst v) w) : wpOp P ops Q i K a w :=
  wpOp_value ho hw (v := v) (w' := w) (by simp only [execOp, hop, hx, Sem.run_bind, hr]; rfl) hK
end
theorem enters_tabtake (vs : Array Value) (w : World) : (callFunc 89 vs).run Try.prog w = .ok (.enter 89 vs) w := by kernel_rfl
theorem enters_deltake (vs : Array Value) (w : World) : (callFunc 88 vs).run Try.prog w = .ok (.enter 88 vs) w := by kernel_rfl
set_option maxRecDepth 100000 in
theorem run_loadQB (w : World) (p : Addr) (v : Value) (hc : w.cell? p = some v) : (Instr.loadAt 43 (.pointer (some p))).run Try.prog w = .ok v w := by go_simp
set_option maxRecDepth 100000 in
theorem run_loadQI (w : World) (p : Addr) (v : Value) (hc : w.cell? p = some v) : (Instr.loadAt 3 (.pointer (some p))).run Try.prog w = .ok v w := by go_simp
set_option maxRecDepth 100000 in
theorem run_loadQT (w : World) (p : Addr) (v : Value) (hc : w.cell? p = some v) : (Instr.loadAt 62 (.pointer (some p))).run Try.prog w = .ok v w := by go_simp
set_option maxRecDepth 100000 in
theorem run_loadQH (w : World) (p : Addr) (v : Value) (hc : w.cell? p = some v) : (Instr.loadAt 22 (.pointer (some p))).run Try.prog w = .ok v w := by go_simp
set_option maxRecDepth 100000 in
theorem run_fieldQ1 (w : World) (h : Nat) : (Instr.fieldAt 91 (.pointer (some ⟨h, 0, Option.none⟩)) 1).run Try.prog w = .ok (.pointer (some ⟨h, 1, Option.none⟩)) w := by go_simp
set_option maxRecDepth 100000 in
theorem run_fieldQ2 (w : World) (h : Nat) : (Instr.fieldAt 91 (.pointer (some ⟨h, 0, Option.none⟩)) 2).run Try.prog w = .ok (.pointer (some ⟨h, 2, Option.none⟩)) w := by go_simp
set_option maxRecDepth 100000 in
theorem run_fieldQ3 (w : World) (h : Nat) : (Instr.fieldAt 91 (.pointer (some ⟨h, 0, Option.none⟩)) 3).run Try.prog w = .ok (.pointer (some ⟨h, 3, Option.none⟩)) w := by go_simp
set_option maxRecDepth 100000 in
theorem run_fieldQ4 (w : World) (h : Nat) : (Instr.fieldAt 91 (.pointer (some ⟨h, 0, Option.none⟩)) 4).run Try.prog w = .ok (.pointer (some ⟨h, 4, Option.none⟩)) w := by go_simp
set_option maxRecDepth 100000 in
theorem run_fieldQ0 (w : World) (h : Nat) : (Instr.fieldAt 91 (.pointer (some ⟨h, 0, Option.none⟩)) 0).run Try.prog w = .ok (.pointer (some ⟨h, 0, Option.none⟩)) w := by go_simp
set_option maxRecDepth 100000 in
theorem run_storeQI (w : World) (p : Addr) (x : Int) (u : Value) (hc : w.cell? p = some u) (hf : w.frozen? p = false) : (Instr.storeAt 3 (.pointer (some p)) (.int .i64 x)).run Try.prog w = .ok () (w.setCell p (.int .i64 x)) := by go_simp
set_option maxRecDepth 100000 in
theorem run_storeQE (w : World) (p : Addr) (x : Int) (u : Value) (hc : w.cell? p = some u) (hf : w.frozen? p = false) : (Instr.storeAt 44 (.pointer (some p)) (.int .i64 x)).run Try.prog w = .ok () (w.setCell p (.int .i64 x)) := by go_simp
set_option maxRecDepth 100000 in
theorem run_storeQS (w : World) (p : Addr) (x : ByteArray) (u : Value) (hc : w.cell? p = some u) (hf : w.frozen? p = false) : (Instr.storeAt 9 (.pointer (some p)) (.string x)).run Try.prog w = .ok () (w.setCell p (.string x)) := by go_simp
set_option maxRecDepth 100000 in
theorem run_storeQH (w : World) (p : Addr) (A : Option Addr) (n c : Nat) (u : Value) (hc : w.cell? p = some u) (hf : w.frozen? p = false) : (Instr.storeAt 22 (.pointer (some p)) (.slice A n c)).run Try.prog w = .ok () (w.setCell p (.slice A n c)) := by go_simp
theorem run_extQ {v : Value} {q e : Int} {k : Nat} {u : Value} (w : World) (h : (#[v, .int .i64 q, .int .i64 e] : Array Value)[k]? = some u) : (Instr.extract (.tuple #[v, .int .i64 q, .int .i64 e]) k).run Try.prog w = .ok u w := by
  simp [Instr.extract, h]
def rqS (h p i : Nat) (A : Option Addr) (n c : Nat) (q : Int) (tb : Nat) (j : Nat) (v : Value) (_ : World) : Prop :=
  match j with
  | 0 => v = .pointer (some ⟨p, i, Option.none⟩)
  | 1 => v = .pointer (some ⟨h, 0, Option.none⟩)
  | 2 => v = .pointer (some ⟨h, 0, Option.none⟩)
  | 3 => v = .pointer (some ⟨h, 0, Option.none⟩)
  | 4 => v = .pointer (some ⟨h, 0, Option.none⟩)
  | 5 => v = .pointer (some ⟨h, 2, Option.none⟩)
  | 6 => v = .pointer (some ⟨tb, 0, Option.none⟩)
  | 7 => v = .pointer (some ⟨h, 0, Option.none⟩)
  | 8 => v = .pointer (some ⟨h, 0, Option.none⟩)
  | 9 => v = .pointer (some ⟨h, 0, Option.none⟩)
  | 10 => v = .slice A n c
  | 11 => v = .pointer (some ⟨h, 0, Option.none⟩)
  | 12 => v = .pointer (some ⟨h, 0, Option.none⟩)
  | 13 => v = .pointer (some ⟨h, 1, Option.none⟩)
  | 14 => v = .int .i64 q
  | 20 => v = .pointer (some ⟨p, i, Option.none⟩)
  | 22 => v = .pointer (some ⟨h, 0, Option.none⟩)
  | 23 => v = .pointer (some ⟨h, 1, Option.none⟩)
  | _ => True
theorem rqS_any {h p i : Nat} {A : Option Addr} {n c : Nat} {q : Int} {tb : Nat} {j : Nat} {v : Value} {w w' : World} (H : rqS h p i A n c q tb j v w) : rqS h p i A n c q tb j v w' := H
set_option maxHeartbeats 64000000 in
set_option maxRecDepth 100000 in
theorem rtext_ok (h : Nat) (A : Option Addr) (n c : Nat) (X : List Int) (q : Int) (tb : Nat) (T : List (List UInt8)) (T1 : Nat → Prop) (wv : Value) (p i : Nat) (cs : Array Value) (t : TypeId) (s : ByteArray) (W : World) (H : RdAt W h A n c q tb wv 0) (hX : Holds W A n c X) (hTb : PTab W tb T T1) (hT : T.length ≤ 300000) (hn : n ≤ 1000000000) (hp : W.heap[p]? = some (.cells cs t (0, 0))) (hc : cs[i]? = some (.string s)) (hne : p ≠ h) (hh : ¬ T1 h) (hpp : ¬ T1 p) :
    Calls Try.prog 87 #[.pointer (some ⟨h, 0, Option.none⟩), .pointer (some ⟨p, i, Option.none⟩)] W fun e W' => e = .returned (.tuple #[]) ∧ ∃ w2 T2, PStep W w2 tb T1 T2 (takeL T X q) ∧ RdAt W' h A n c (takeB T X q).2.1 tb wv (takeB T X q).2.2 ∧ W'.heap[p]? = some (.cells (cs.setIfInBounds i (.string (mk (takeB T X q).1))) t (0, 0)) ∧ Alt w2 W' (fun j => j = h ∨ j = p) := by
  obtain ⟨c0, c1, c2, c3, c4⟩ := H.cells
  obtain ⟨b, q', e', ht⟩ : ∃ b q' e', takeB T X q = (b, q', e') := ⟨_, _, _, rfl⟩
  have hlh := H.lt
  have hlp := (Array.getElem?_eq_some_iff.1 hp).1
  have htk := Lib.hid (fun V (hV : Below W.heap.size W V) => takeP_any tb T T1 A n c X q V (hTb.later hV) (by omega) (hX.later hV) (by omega))
  rw [ht] at htk ⊢
  have hst0 := Lib.hid (fun w2 T2 (hs : PStep W w2 tb T1 T2 (takeL T X q)) => (⟨show RdAt w2 h A n c q tb wv 0 from (hs.alt.block h hlh hh).trans H, (hs.alt.block p hlp hpp).trans hp⟩ : RdAt w2 h A n c q tb wv 0 ∧ w2.heap[p]? = some (.cells cs t (0, 0))))
  replace H := Lib.hid H
  replace hc := Lib.hid hc
  clear hp hX ht hTb hT hlh hlp hh hpp
  go_enter Try.func87, Try.ntmps87
  go_wp2
  clear c0 c1 c2 c3 c4
  refine wp_region_tail 25 4 (by decide) (by kernel_rfl) (RInv 34 [10, 11, 12, 13, 14, 15, 16, 17, 18, 19, 20, 21, 22, 23, 24, 25, 9, 26, 27, 28, 29, 2, 30, 31, 3] _ (rqS h p i A n c q tb) { W with heap := #[] } (RdQ W h ⟨p, i, Option.none⟩ 15 25 q' e' (fun w2 v2 => RdAt w2 h A n c q tb wv 0 ∧ w2.heap[p]? = some (.cells cs t (0, 0)) ∧ v2 = .string (mk b) ∧ ∃ T2, PStep W w2 tb T1 T2 (takeL T X q)))) (by kernel_rfl) (by kernel_rfl) (RInv.start rfl ⟨fun _ => (Below.refl _ _).drew, fun d => d.elim⟩ (below_nil (Below.refl W.heap.size W).drew)) ?_ ?_
  · intro iy hi D a wy hI hcl hnd hpre
    have hi' : iy < 25 := hi
    have hcase : iy = 0 ∨ iy = 1 ∨ iy = 2 ∨ iy = 3 ∨ iy = 4 ∨ iy = 5 ∨ iy = 6 ∨ iy = 7 ∨ iy = 8 ∨ iy = 9 ∨ iy = 10 ∨ iy = 11 ∨ iy = 12 ∨ iy = 13 ∨ iy = 14 ∨ iy = 15 ∨ iy = 16 ∨ iy = 17 ∨ iy = 18 ∨ iy = 19 ∨ iy = 20 ∨ iy = 21 ∨ iy = 22 ∨ iy = 23 ∨ iy = 24 := by omega
    have hF := hI.fact
    rcases hcase with rfl | rfl | rfl | rfl | rfl | rfl | rfl | rfl | rfl | rfl | rfl | rfl | rfl | rfl | rfl | rfl | rfl | rfl | rfl | rfl | rfl | rfl | rfl | rfl | rfl
    · exact wpOp_move rfl (wanted_free rfl) _ rfl _ (hI.same 1 (by decide)) (hI.put (by decide) (by decide) (fun j _ _ h => rqS_any h) rfl (hI.more.pure (by decide) (by decide)) hI.below)
    · exact wpOp_move rfl (wanted_free rfl) _ rfl _ (hI.same 0 (by decide)) (hI.put (by decide) (by decide) (fun j _ _ h => rqS_any h) rfl (hI.more.pure (by decide) (by decide)) hI.below)
    · exact wpOp_move rfl (wanted_free rfl) _ rfl _ (hI.same 0 (by decide)) (hI.put (by decide) (by decide) (fun j _ _ h => rqS_any h) rfl (hI.more.pure (by decide) (by decide)) hI.below)
    · exact wpOp_move rfl (wanted_free rfl) _ rfl _ (hI.same 0 (by decide)) (hI.put (by decide) (by decide) (fun j _ _ h => rqS_any h) rfl (hI.more.pure (by decide) (by decide)) hI.below)
    · exact wpOp_nil9 rfl (wanted_free rfl) _ rfl _ (hF 3 (hpre 3 (by kernel_rfl))) (hI.put (by decide) (by decide) (fun j _ _ h => rqS_any h) rfl (hI.more.pure (by decide) (by decide)) hI.below)
    · exact wpOp_field rfl (wanted_free rfl) _ _ _ rfl _ _ (hF 4 (hpre 4 (by kernel_rfl))) (run_fieldQ2 wy h) (hI.put (by decide) (by decide) (fun j _ _ h => rqS_any h) rfl (hI.more.pure (by decide) (by decide)) hI.below)
    · exact wpOp_load rfl (wanted_free rfl) _ _ rfl _ _ (hF 5 (hpre 5 (by kernel_rfl))) (run_loadQT wy _ _ (H.out.later (hI.more.pre fun d => hnd (hcl 15 d 6 (by kernel_rfl)))).cells.2.2.1) (hI.put (by decide) (by decide) (fun j _ _ h => rqS_any h) rfl (hI.more.pure (by decide) (by decide)) hI.below)
    · exact wpOp_move rfl (wanted_free rfl) _ rfl _ (hI.same 0 (by decide)) (hI.put (by decide) (by decide) (fun j _ _ h => rqS_any h) rfl (hI.more.pure (by decide) (by decide)) hI.below)
    · exact wpOp_nil9 rfl (wanted_free rfl) _ rfl _ (hF 7 (hpre 7 (by kernel_rfl))) (hI.put (by decide) (by decide) (fun j _ _ h => rqS_any h) rfl (hI.more.pure (by decide) (by decide)) hI.below)
    · exact wpOp_field rfl (wanted_free rfl) _ _ _ rfl _ _ (hF 8 (hpre 8 (by kernel_rfl))) (run_fieldQ0 wy h) (hI.put (by decide) (by decide) (fun j _ _ h => rqS_any h) rfl (hI.more.pure (by decide) (by decide)) hI.below)
    · exact wpOp_load rfl (wanted_free rfl) _ _ rfl _ _ (hF 9 (hpre 9 (by kernel_rfl))) (run_loadQB wy _ _ (H.out.later (hI.more.pre fun d => hnd (hcl 15 d 10 (by kernel_rfl)))).cells.1) (hI.put (by decide) (by decide) (fun j _ _ h => rqS_any h) rfl (hI.more.pure (by decide) (by decide)) hI.below)
    · exact wpOp_move rfl (wanted_free rfl) _ rfl _ (hI.same 0 (by decide)) (hI.put (by decide) (by decide) (fun j _ _ h => rqS_any h) rfl (hI.more.pure (by decide) (by decide)) hI.below)
    · exact wpOp_nil9 rfl (wanted_free rfl) _ rfl _ (hF 11 (hpre 11 (by kernel_rfl))) (hI.put (by decide) (by decide) (fun j _ _ h => rqS_any h) rfl (hI.more.pure (by decide) (by decide)) hI.below)
    · exact wpOp_field rfl (wanted_free rfl) _ _ _ rfl _ _ (hF 12 (hpre 12 (by kernel_rfl))) (run_fieldQ1 wy h) (hI.put (by decide) (by decide) (fun j _ _ h => rqS_any h) rfl (hI.more.pure (by decide) (by decide)) hI.below)
    · exact wpOp_load rfl (wanted_free rfl) _ _ rfl _ _ (hF 13 (hpre 13 (by kernel_rfl))) (run_loadQI wy _ _ (H.out.later (hI.more.pre fun d => hnd (hcl 15 d 14 (by kernel_rfl)))).cells.2.1) (hI.put (by decide) (by decide) (fun j _ _ h => rqS_any h) rfl (hI.more.pure (by decide) (by decide)) hI.below)
    · exact wpOp_call3t rfl (wanted_free rfl) 89 _ _ _ _ rfl _ _ _ (hF 6 (hpre 6 (by kernel_rfl))) (hF 10 (hpre 10 (by kernel_rfl))) (hF 14 (hpre 14 (by kernel_rfl))) (enters_tabtake _ _) (htk.out wy (hI.more.pre hnd)) (fun e wz hq => by
        obtain ⟨T2, rfl, hs⟩ := hq
        have hs2 := PStep.ahead (hI.more.pre hnd) hs
        have hb2 := hst0.out wz T2 hs2
        exact ⟨_, rfl, hI.put (by decide) (by decide) (fun j _ _ h => rqS_any h) trivial (RdQ.call (by rw [hI.size]; decide) ⟨hb2.1, hb2.2, rfl, T2, hs2⟩ (fun d => hnd (hcl 16 d 15 (by kernel_rfl))) (fun d => hnd (hcl 16 (hcl 17 d 16 (by kernel_rfl)) 15 (by kernel_rfl))) (fun d => hnd (hcl 16 (hcl 18 d 16 (by kernel_rfl)) 15 (by kernel_rfl))) (fun d => hnd (hcl 16 (hcl 19 d 16 (by kernel_rfl)) 15 (by kernel_rfl))) (fun d => hnd (hcl 21 d 15 (by kernel_rfl))) (fun d => hnd (hcl 21 (hcl 24 d 21 (by kernel_rfl)) 15 (by kernel_rfl)))) ⟨hs2.alt.os, hs2.alt.tape, hs2.alt.output, Nat.zero_le _, fun k hk => absurd hk (Nat.not_lt_zero _)⟩⟩)
    · obtain ⟨w2, v2, hG, a1, a2, a3, a4, a5, a6, a7, a8⟩ := hI.more.post (hpre 15 (by kernel_rfl)); exact wpOp_move rfl (wanted_free rfl) _ rfl _ a1 (hI.put (by decide) (by decide) (fun j _ _ h => rqS_any h) trivial (RdQ.part (C := 15) (hpre 15 (by kernel_rfl)) (by decide) (by decide) hG a1 (fun _ => eval_put_same _ _ _ (by rw [hI.size]; decide)) (fun d => by rw [eval_put_other _ _ (by decide)]; exact a3 (d.resolve_right (by decide))) (fun d => by rw [eval_put_other _ _ (by decide)]; exact a4 (d.resolve_right (by decide))) (fun d => by rw [eval_put_other _ _ (by decide)]; exact a5 (d.resolve_right (by decide))) a6 a7 a8) hI.below)
    · have hd : D 15 := hcl 16 (hpre 16 (by kernel_rfl)) 15 (by kernel_rfl); obtain ⟨w2, v2, hG, a1, a2, a3, a4, a5, a6, a7, a8⟩ := hI.more.post hd; exact wpOp_extractQ rfl (wanted_free rfl) _ 0 rfl _ _ (a2 (hpre 16 (by kernel_rfl))) (run_extQ wy rfl) (hI.put (by decide) (by decide) (fun j _ _ h => rqS_any h) trivial (RdQ.part (C := 15) hd (by decide) (by decide) hG a1 (fun d => by rw [eval_put_other _ _ (by decide)]; exact a2 (d.resolve_right (by decide))) (fun _ => eval_put_same _ _ _ (by rw [hI.size]; decide)) (fun d => by rw [eval_put_other _ _ (by decide)]; exact a4 (d.resolve_right (by decide))) (fun d => by rw [eval_put_other _ _ (by decide)]; exact a5 (d.resolve_right (by decide))) a6 a7 a8) hI.below)
    · have hd : D 15 := hcl 16 (hpre 16 (by kernel_rfl)) 15 (by kernel_rfl); obtain ⟨w2, v2, hG, a1, a2, a3, a4, a5, a6, a7, a8⟩ := hI.more.post hd; exact wpOp_extractQ rfl (wanted_free rfl) _ 1 rfl _ _ (a2 (hpre 16 (by kernel_rfl))) (run_extQ wy rfl) (hI.put (by decide) (by decide) (fun j _ _ h => rqS_any h) trivial (RdQ.part (C := 15) hd (by decide) (by decide) hG a1 (fun d => by rw [eval_put_other _ _ (by decide)]; exact a2 (d.resolve_right (by decide))) (fun d => by rw [eval_put_other _ _ (by decide)]; exact a3 (d.resolve_right (by decide))) (fun _ => eval_put_same _ _ _ (by rw [hI.size]; decide)) (fun d => by rw [eval_put_other _ _ (by decide)]; exact a5 (d.resolve_right (by decide))) a6 a7 a8) hI.below)
    · have hd : D 15 := hcl 16 (hpre 16 (by kernel_rfl)) 15 (by kernel_rfl); obtain ⟨w2, v2, hG, a1, a2, a3, a4, a5, a6, a7, a8⟩ := hI.more.post hd; exact wpOp_extractQ rfl (wanted_free rfl) _ 2 rfl _ _ (a2 (hpre 16 (by kernel_rfl))) (run_extQ wy rfl) (hI.put (by decide) (by decide) (fun j _ _ h => rqS_any h) trivial (RdQ.part (C := 15) hd (by decide) (by decide) hG a1 (fun d => by rw [eval_put_other _ _ (by decide)]; exact a2 (d.resolve_right (by decide))) (fun d => by rw [eval_put_other _ _ (by decide)]; exact a3 (d.resolve_right (by decide))) (fun d => by rw [eval_put_other _ _ (by decide)]; exact a4 (d.resolve_right (by decide))) (fun _ => eval_put_same _ _ _ (by rw [hI.size]; decide)) a6 a7 a8) hI.below)
    · exact wpOp_nil9 rfl (wanted_free rfl) _ rfl _ (hF 0 (hpre 0 (by kernel_rfl))) (hI.put (by decide) (by decide) (fun j _ _ h => rqS_any h) rfl (hI.more.pure (by decide) (by decide)) hI.below)
    · have hd : D 15 := hcl 16 (hcl 17 (hpre 17 (by kernel_rfl)) 16 (by kernel_rfl)) 15 (by kernel_rfl); have n9 : ¬ D 24 := fun d => hnd (hcl 24 d 21 (by kernel_rfl)); obtain ⟨w2, v2, hG, a1, a2, a3, a4, a5, a6, a7, a8⟩ := hI.more.post hd; obtain rfl := a6 hnd; obtain ⟨hG1, hG2, rfl, hG3⟩ := hG; exact wpOp_store rfl (wanted_free rfl) _ _ _ rfl _ _ (hF 20 (hpre 20 (by kernel_rfl))) (a3 (hpre 17 (by kernel_rfl))) (run_storeQS _ _ _ _ ((cell_of_row _ p i _ _ _ hG2).trans hc.out) (frozen_of_row _ p i _ _ hG2)) (hI.stay (by decide) (fun j _ h => rqS_any h) trivial (RdQ.one (C := 15) hd ⟨hG1, hG2, rfl, hG3⟩ n9 a1 a2 a3 a4 a5) (below_nil_set hI.below _ _))
    · exact wpOp_nil9 rfl (wanted_free rfl) _ rfl _ (hF 1 (hpre 1 (by kernel_rfl))) (hI.put (by decide) (by decide) (fun j _ _ h => rqS_any h) rfl (hI.more.pure (by decide) (by decide)) hI.below)
    · exact wpOp_field rfl (wanted_free rfl) _ _ _ rfl _ _ (hF 22 (hpre 22 (by kernel_rfl))) (run_fieldQ1 wy h) (hI.put (by decide) (by decide) (fun j _ _ h => rqS_any h) rfl (hI.more.pure (by decide) (by decide)) hI.below)
    · have h6 : D 21 := hpre 21 (by kernel_rfl); have hd : D 15 := hcl 21 h6 15 (by kernel_rfl); obtain ⟨w2, v2, hG, a1, a2, a3, a4, a5, a6, a7, a8⟩ := hI.more.post hd; obtain rfl := a7 h6 hnd; have g1 := (heap_setCell_other w2 ⟨p, i, Option.none⟩ h v2 (Ne.symm hne)).trans hG.1; exact wpOp_store rfl (wanted_free rfl) _ _ _ rfl _ _ (hF 23 (hpre 23 (by kernel_rfl))) (a4 (hpre 18 (by kernel_rfl))) (run_storeQI _ _ _ _ (RdAt.cells g1).2.1 (RdAt.free g1 1)) (hI.stay (by decide) (fun j _ h => rqS_any h) trivial (RdQ.two (C := 15) hd hG h6 a1 a2 a3 a4 a5) (below_nil_set hI.below _ _))
  · intro D a w5 hI hall
    have hd : D 15 := hall 15 (by decide)
    obtain ⟨w2, v2, hG, _, _, _, _, a5, _, _, a8⟩ := hI.more.post hd
    obtain rfl := a8 (hall 24 (by decide))
    have e5 := a5 (hall 19 (by decide))
    have e12 : a.eval (.tmp 12) = .pointer (some ⟨h, 0, Option.none⟩) := hI.fact 2 (hall 2 (by decide))
    have hsz := hI.size
    have hdf := hI.defs
    clear hI hall a5 a8
    have g0 := (heap_setCell_other w2 ⟨p, i, Option.none⟩ h v2 (Ne.symm hne)).trans hG.1
    have g1 := heap_setCell_same _ h 1 _ _ (.int .i64 q') g0
    have c9 := cell_of_row _ h 4 _ _ _ g1
    replace c9 : ((w2.setCell ⟨p, i, Option.none⟩ v2).setCell ⟨h, 1, Option.none⟩ (.int .i64 q')).cell? ⟨h, 4, Option.none⟩ = some (.int .i64 0) := c9
    have f9 := frozen_of_row _ h 4 _ _ g1
    have hst := Lib.hid (three_stores (i := i) hG.1 hG.2.1 hne v2 q' e')
    have hG' := Lib.hid hG
    show wpOps _ _ _ [25, 26, 27] a _
    rw [wpOps_cons]
    refine wpOp_nil9 rfl (wanted_free rfl) _ rfl _ e12 ?_
    show wpOps _ _ _ _ (a.put (some 32) _) _
    rw [wpOps_cons]
    refine wpOp_field rfl (wanted_free rfl) _ _ _ rfl _ _ (eval_put_same _ _ _ (by rw [hsz]; decide)) (run_fieldQ4 _ h) ?_
    show wpOps _ _ _ _ ((a.put (some 32) _).put (some 33) _) _
    rw [wpOps_cons]
    refine wpOp_store rfl (wanted_free rfl) _ _ _ rfl _ _ (eval_put_same _ _ _ (by rw [size_put, hsz]; decide)) (by rw [eval_put_other _ _ (by decide), eval_put_other _ _ (by decide)]; exact e5) (run_storeQE _ _ _ _ c9 f9) ?_
    show wpOps _ _ _ [] (((a.put (some 32) (.pointer (some ⟨h, 0, Option.none⟩))).put (some 33) (.pointer (some ⟨h, 4, Option.none⟩))).put Option.none undef) _
    rw [wpOps]
    obtain ⟨a9, ha9⟩ : ∃ a9, a9 = (((a.put (some 32) (.pointer (some ⟨h, 0, Option.none⟩))).put (some 33) (.pointer (some ⟨h, 4, Option.none⟩))).put Option.none undef) := ⟨_, rfl⟩
    have hd9 : a9.defers = [] := by rw [ha9, defers_put, defers_put, defers_put, hdf]
    rw [← ha9]
    clear ha9 hdf hsz e12 e5 c9 f9 g0 g1 hG
    go_wp2
    exact bodyPost_end (results_none rfl _ _ _) (by first | exact hd9 | rfl) (by
      obtain ⟨_, _, rfl, T2, hs2⟩ := hG'.out
      exact ⟨rfl, w2, T2, hs2, hst.out.1, hst.out.2.1, hst.out.2.2⟩)
def rqH (h p i : Nat) (A : Option Addr) (n c : Nat) (q : Int) (tb : Nat) (Aw : Option Addr) (nw cw : Nat) (j : Nat) (v : Value) (_ : World) : Prop :=
  match j with
  | 0 => v = .pointer (some ⟨p, i, Option.none⟩)
  | 1 => v = .pointer (some ⟨h, 0, Option.none⟩)
  | 2 => v = .pointer (some ⟨h, 0, Option.none⟩)
  | 3 => v = .pointer (some ⟨h, 0, Option.none⟩)
  | 4 => v = .pointer (some ⟨h, 0, Option.none⟩)
  | 5 => v = .pointer (some ⟨h, 0, Option.none⟩)
  | 6 => v = .slice A n c
  | 7 => v = .pointer (some ⟨h, 0, Option.none⟩)
  | 8 => v = .pointer (some ⟨h, 0, Option.none⟩)
  | 9 => v = .pointer (some ⟨h, 1, Option.none⟩)
  | 10 => v = .int .i64 q
  | 11 => v = .pointer (some ⟨h, 0, Option.none⟩)
  | 12 => v = .pointer (some ⟨h, 0, Option.none⟩)
  | 13 => v = .pointer (some ⟨h, 2, Option.none⟩)
  | 14 => v = .pointer (some ⟨tb, 0, Option.none⟩)
  | 15 => v = .pointer (some ⟨h, 0, Option.none⟩)
  | 16 => v = .pointer (some ⟨h, 0, Option.none⟩)
  | 17 => v = .pointer (some ⟨h, 3, Option.none⟩)
  | 18 => v = .slice Aw nw cw
  | 24 => v = .pointer (some ⟨p, i, Option.none⟩)
  | 26 => v = .pointer (some ⟨h, 0, Option.none⟩)
  | 27 => v = .pointer (some ⟨h, 1, Option.none⟩)
  | _ => True
theorem rqH_any {h p i : Nat} {A : Option Addr} {n c : Nat} {q : Int} {tb : Nat} {Aw : Option Addr} {nw cw : Nat} {j : Nat} {v : Value} {w w' : World} (H : rqH h p i A n c q tb Aw nw cw j v w) : rqH h p i A n c q tb Aw nw cw j v w' := H
set_option maxHeartbeats 64000000 in
set_option maxRecDepth 100000 in
theorem rheaders_ok (h : Nat) (A : Option Addr) (n c : Nat) (X : List Int) (q : Int) (tb : Nat) (T : List (List UInt8)) (T1 : Nat → Prop) (Aw : Option Addr) (nw cw : Nat) (was : List Hd) (p i : Nat) (cs : Array Value) (t : TypeId) (A0 : Option Addr) (n0 c0 : Nat) (W : World) (H : RdAt W h A n c q tb (.slice Aw nw cw) 0) (hX : Holds W A n c X) (hTb : PTab W tb T T1) (hT : T.length ≤ 300000) (hn : n ≤ 1000000000) (hw : Hds W Aw nw cw was) (hnw : nw ≤ 1000) (hwo : Off T1 Aw nw) (hXo : Off T1 A n) (hp : W.heap[p]? = some (.cells cs t (0, 0))) (hc : cs[i]? = some (.slice A0 n0 c0)) (hne : p ≠ h) (hh : ¬ T1 h) (hpp : ¬ T1 p) :
    Calls Try.prog 86 #[.pointer (some ⟨h, 0, Option.none⟩), .pointer (some ⟨p, i, Option.none⟩)] W fun e W' => e = .returned (.tuple #[]) ∧ ∃ w2 T2 v, PStep W w2 tb T1 T2 (dtake T X q was).2 ∧ OwnsH w2 W.heap.size v (dtake T X q was).1.1 ∧ OffV T2 v ∧ RdAt W' h A n c (dtake T X q was).1.2.1 tb (.slice Aw nw cw) (dtake T X q was).1.2.2 ∧ W'.heap[p]? = some (.cells (cs.setIfInBounds i v) t (0, 0)) ∧ Alt w2 W' (fun j => j = h ∨ j = p) := by
  obtain ⟨c0, c1, c2, c3, c4⟩ := H.cells
  obtain ⟨b, q', e', t', ht⟩ : ∃ b q' e' t', dtake T X q was = ((b, q', e'), t') := ⟨_, _, _, _, rfl⟩
  have hlh := H.lt
  have hlp := (Array.getElem?_eq_some_iff.1 hp).1
  have htk := Lib.hid (fun V (hV : Below W.heap.size W V) => dtake20_any tb T T1 A n c X q Aw nw cw was V (hTb.later hV) hT (hX.later hV) hn (hw.later hV) hnw hwo hXo)
  rw [ht] at htk ⊢
  have hst0 := Lib.hid (fun w2 T2 (hs : PStep W w2 tb T1 T2 t') => (⟨show RdAt w2 h A n c q tb (.slice Aw nw cw) 0 from (hs.alt.block h hlh hh).trans H, (hs.alt.block p hlp hpp).trans hp⟩ : RdAt w2 h A n c q tb (.slice Aw nw cw) 0 ∧ w2.heap[p]? = some (.cells cs t (0, 0))))
  replace H := Lib.hid H
  replace hc := Lib.hid hc
  clear hp hX ht hTb hT hlh hlp hh hpp hw hwo hXo
  go_enter Try.func86, Try.ntmps86
  go_wp2
  clear c0 c1 c2 c3 c4
  refine wp_region_tail 29 4 (by decide) (by kernel_rfl) (RInv 38 [10, 11, 12, 13, 14, 15, 16, 17, 18, 19, 20, 21, 22, 23, 24, 25, 26, 27, 28, 29, 9, 30, 31, 32, 33, 2, 34, 35, 3] _ (rqH h p i A n c q tb Aw nw cw) { W with heap := #[] } (RdQ W h ⟨p, i, Option.none⟩ 19 29 q' e' (fun w2 v2 => RdAt w2 h A n c q tb (.slice Aw nw cw) 0 ∧ w2.heap[p]? = some (.cells cs t (0, 0)) ∧ ∃ T2, PStep W w2 tb T1 T2 t' ∧ OwnsH w2 W.heap.size v2 b ∧ OffV T2 v2))) (by kernel_rfl) (by kernel_rfl) (RInv.start rfl ⟨fun _ => (Below.refl _ _).drew, fun d => d.elim⟩ (below_nil (Below.refl W.heap.size W).drew)) ?_ ?_
  · intro iy hi D a wy hI hcl hnd hpre
    have hi' : iy < 29 := hi
    have hcase : iy = 0 ∨ iy = 1 ∨ iy = 2 ∨ iy = 3 ∨ iy = 4 ∨ iy = 5 ∨ iy = 6 ∨ iy = 7 ∨ iy = 8 ∨ iy = 9 ∨ iy = 10 ∨ iy = 11 ∨ iy = 12 ∨ iy = 13 ∨ iy = 14 ∨ iy = 15 ∨ iy = 16 ∨ iy = 17 ∨ iy = 18 ∨ iy = 19 ∨ iy = 20 ∨ iy = 21 ∨ iy = 22 ∨ iy = 23 ∨ iy = 24 ∨ iy = 25 ∨ iy = 26 ∨ iy = 27 ∨ iy = 28 := by omega
    have hF := hI.fact
    rcases hcase with rfl | rfl | rfl | rfl | rfl | rfl | rfl | rfl | rfl | rfl | rfl | rfl | rfl | rfl | rfl | rfl | rfl | rfl | rfl | rfl | rfl | rfl | rfl | rfl | rfl | rfl | rfl | rfl | rfl
    · exact wpOp_move rfl (wanted_free rfl) _ rfl _ (hI.same 1 (by decide)) (hI.put (by decide) (by decide) (fun j _ _ h => rqH_any h) rfl (hI.more.pure (by decide) (by decide)) hI.below)
    · exact wpOp_move rfl (wanted_free rfl) _ rfl _ (hI.same 0 (by decide)) (hI.put (by decide) (by decide) (fun j _ _ h => rqH_any h) rfl (hI.more.pure (by decide) (by decide)) hI.below)
    · exact wpOp_move rfl (wanted_free rfl) _ rfl _ (hI.same 0 (by decide)) (hI.put (by decide) (by decide) (fun j _ _ h => rqH_any h) rfl (hI.more.pure (by decide) (by decide)) hI.below)
    · exact wpOp_move rfl (wanted_free rfl) _ rfl _ (hI.same 0 (by decide)) (hI.put (by decide) (by decide) (fun j _ _ h => rqH_any h) rfl (hI.more.pure (by decide) (by decide)) hI.below)
    · exact wpOp_nil9 rfl (wanted_free rfl) _ rfl _ (hF 3 (hpre 3 (by kernel_rfl))) (hI.put (by decide) (by decide) (fun j _ _ h => rqH_any h) rfl (hI.more.pure (by decide) (by decide)) hI.below)
    · exact wpOp_field rfl (wanted_free rfl) _ _ _ rfl _ _ (hF 4 (hpre 4 (by kernel_rfl))) (run_fieldQ0 wy h) (hI.put (by decide) (by decide) (fun j _ _ h => rqH_any h) rfl (hI.more.pure (by decide) (by decide)) hI.below)
    · exact wpOp_load rfl (wanted_free rfl) _ _ rfl _ _ (hF 5 (hpre 5 (by kernel_rfl))) (run_loadQB wy _ _ (H.out.later (hI.more.pre fun d => hnd (hcl 19 d 6 (by kernel_rfl)))).cells.1) (hI.put (by decide) (by decide) (fun j _ _ h => rqH_any h) rfl (hI.more.pure (by decide) (by decide)) hI.below)
    · exact wpOp_move rfl (wanted_free rfl) _ rfl _ (hI.same 0 (by decide)) (hI.put (by decide) (by decide) (fun j _ _ h => rqH_any h) rfl (hI.more.pure (by decide) (by decide)) hI.below)
    · exact wpOp_nil9 rfl (wanted_free rfl) _ rfl _ (hF 7 (hpre 7 (by kernel_rfl))) (hI.put (by decide) (by decide) (fun j _ _ h => rqH_any h) rfl (hI.more.pure (by decide) (by decide)) hI.below)
    · exact wpOp_field rfl (wanted_free rfl) _ _ _ rfl _ _ (hF 8 (hpre 8 (by kernel_rfl))) (run_fieldQ1 wy h) (hI.put (by decide) (by decide) (fun j _ _ h => rqH_any h) rfl (hI.more.pure (by decide) (by decide)) hI.below)
    · exact wpOp_load rfl (wanted_free rfl) _ _ rfl _ _ (hF 9 (hpre 9 (by kernel_rfl))) (run_loadQI wy _ _ (H.out.later (hI.more.pre fun d => hnd (hcl 19 d 10 (by kernel_rfl)))).cells.2.1) (hI.put (by decide) (by decide) (fun j _ _ h => rqH_any h) rfl (hI.more.pure (by decide) (by decide)) hI.below)
    · exact wpOp_move rfl (wanted_free rfl) _ rfl _ (hI.same 0 (by decide)) (hI.put (by decide) (by decide) (fun j _ _ h => rqH_any h) rfl (hI.more.pure (by decide) (by decide)) hI.below)
    · exact wpOp_nil9 rfl (wanted_free rfl) _ rfl _ (hF 11 (hpre 11 (by kernel_rfl))) (hI.put (by decide) (by decide) (fun j _ _ h => rqH_any h) rfl (hI.more.pure (by decide) (by decide)) hI.below)
    · exact wpOp_field rfl (wanted_free rfl) _ _ _ rfl _ _ (hF 12 (hpre 12 (by kernel_rfl))) (run_fieldQ2 wy h) (hI.put (by decide) (by decide) (fun j _ _ h => rqH_any h) rfl (hI.more.pure (by decide) (by decide)) hI.below)
    · exact wpOp_load rfl (wanted_free rfl) _ _ rfl _ _ (hF 13 (hpre 13 (by kernel_rfl))) (run_loadQT wy _ _ (H.out.later (hI.more.pre fun d => hnd (hcl 19 d 14 (by kernel_rfl)))).cells.2.2.1) (hI.put (by decide) (by decide) (fun j _ _ h => rqH_any h) rfl (hI.more.pure (by decide) (by decide)) hI.below)
    · exact wpOp_move rfl (wanted_free rfl) _ rfl _ (hI.same 0 (by decide)) (hI.put (by decide) (by decide) (fun j _ _ h => rqH_any h) rfl (hI.more.pure (by decide) (by decide)) hI.below)
    · exact wpOp_nil9 rfl (wanted_free rfl) _ rfl _ (hF 15 (hpre 15 (by kernel_rfl))) (hI.put (by decide) (by decide) (fun j _ _ h => rqH_any h) rfl (hI.more.pure (by decide) (by decide)) hI.below)
    · exact wpOp_field rfl (wanted_free rfl) _ _ _ rfl _ _ (hF 16 (hpre 16 (by kernel_rfl))) (run_fieldQ3 wy h) (hI.put (by decide) (by decide) (fun j _ _ h => rqH_any h) rfl (hI.more.pure (by decide) (by decide)) hI.below)
    · exact wpOp_load rfl (wanted_free rfl) _ _ rfl _ _ (hF 17 (hpre 17 (by kernel_rfl))) (run_loadQH wy _ _ (H.out.later (hI.more.pre fun d => hnd (hcl 19 d 18 (by kernel_rfl)))).cells.2.2.2.1) (hI.put (by decide) (by decide) (fun j _ _ h => rqH_any h) rfl (hI.more.pure (by decide) (by decide)) hI.below)
    · exact wpOp_call4q rfl (wanted_free rfl) 88 _ _ _ _ _ rfl _ _ _ _ (hF 6 (hpre 6 (by kernel_rfl))) (hF 10 (hpre 10 (by kernel_rfl))) (hF 14 (hpre 14 (by kernel_rfl))) (hF 18 (hpre 18 (by kernel_rfl))) (enters_deltake _ _) (htk.out wy (hI.more.pre hnd)) (fun e wz hq => by
        obtain ⟨v2, T2, rfl, hO, hs, hof⟩ := hq
        have hs2 := PStep.ahead (hI.more.pre hnd) hs
        have hb2 := hst0.out wz T2 hs2
        exact ⟨_, rfl, hI.put (by decide) (by decide) (fun j _ _ h => rqH_any h) trivial (RdQ.call (by rw [hI.size]; decide) ⟨hb2.1, hb2.2, T2, hs2, OwnsH.low hO (hI.more.pre hnd).size, hof⟩ (fun d => hnd (hcl 20 d 19 (by kernel_rfl))) (fun d => hnd (hcl 20 (hcl 21 d 20 (by kernel_rfl)) 19 (by kernel_rfl))) (fun d => hnd (hcl 20 (hcl 22 d 20 (by kernel_rfl)) 19 (by kernel_rfl))) (fun d => hnd (hcl 20 (hcl 23 d 20 (by kernel_rfl)) 19 (by kernel_rfl))) (fun d => hnd (hcl 25 d 19 (by kernel_rfl))) (fun d => hnd (hcl 25 (hcl 28 d 25 (by kernel_rfl)) 19 (by kernel_rfl)))) ⟨hs2.alt.os, hs2.alt.tape, hs2.alt.output, Nat.zero_le _, fun k hk => absurd hk (Nat.not_lt_zero _)⟩⟩)
    · obtain ⟨w2, v2, hG, a1, a2, a3, a4, a5, a6, a7, a8⟩ := hI.more.post (hpre 19 (by kernel_rfl)); exact wpOp_move rfl (wanted_free rfl) _ rfl _ a1 (hI.put (by decide) (by decide) (fun j _ _ h => rqH_any h) trivial (RdQ.part (C := 19) (hpre 19 (by kernel_rfl)) (by decide) (by decide) hG a1 (fun _ => eval_put_same _ _ _ (by rw [hI.size]; decide)) (fun d => by rw [eval_put_other _ _ (by decide)]; exact a3 (d.resolve_right (by decide))) (fun d => by rw [eval_put_other _ _ (by decide)]; exact a4 (d.resolve_right (by decide))) (fun d => by rw [eval_put_other _ _ (by decide)]; exact a5 (d.resolve_right (by decide))) a6 a7 a8) hI.below)
    · have hd : D 19 := hcl 20 (hpre 20 (by kernel_rfl)) 19 (by kernel_rfl); obtain ⟨w2, v2, hG, a1, a2, a3, a4, a5, a6, a7, a8⟩ := hI.more.post hd; exact wpOp_extractQ rfl (wanted_free rfl) _ 0 rfl _ _ (a2 (hpre 20 (by kernel_rfl))) (run_extQ wy rfl) (hI.put (by decide) (by decide) (fun j _ _ h => rqH_any h) trivial (RdQ.part (C := 19) hd (by decide) (by decide) hG a1 (fun d => by rw [eval_put_other _ _ (by decide)]; exact a2 (d.resolve_right (by decide))) (fun _ => eval_put_same _ _ _ (by rw [hI.size]; decide)) (fun d => by rw [eval_put_other _ _ (by decide)]; exact a4 (d.resolve_right (by decide))) (fun d => by rw [eval_put_other _ _ (by decide)]; exact a5 (d.resolve_right (by decide))) a6 a7 a8) hI.below)
    · have hd : D 19 := hcl 20 (hpre 20 (by kernel_rfl)) 19 (by kernel_rfl); obtain ⟨w2, v2, hG, a1, a2, a3, a4, a5, a6, a7, a8⟩ := hI.more.post hd; exact wpOp_extractQ rfl (wanted_free rfl) _ 1 rfl _ _ (a2 (hpre 20 (by kernel_rfl))) (run_extQ wy rfl) (hI.put (by decide) (by decide) (fun j _ _ h => rqH_any h) trivial (RdQ.part (C := 19) hd (by decide) (by decide) hG a1 (fun d => by rw [eval_put_other _ _ (by decide)]; exact a2 (d.resolve_right (by decide))) (fun d => by rw [eval_put_other _ _ (by decide)]; exact a3 (d.resolve_right (by decide))) (fun _ => eval_put_same _ _ _ (by rw [hI.size]; decide)) (fun d => by rw [eval_put_other _ _ (by decide)]; exact a5 (d.resolve_right (by decide))) a6 a7 a8) hI.below)
    · have hd : D 19 := hcl 20 (hpre 20 (by kernel_rfl)) 19 (by kernel_rfl); obtain ⟨w2, v2, hG, a1, a2, a3, a4, a5, a6, a7, a8⟩ := hI.more.post hd; exact wpOp_extractQ rfl (wanted_free rfl) _ 2 rfl _ _ (a2 (hpre 20 (by kernel_rfl))) (run_extQ wy rfl) (hI.put (by decide) (by decide) (fun j _ _ h => rqH_any h) trivial (RdQ.part (C := 19) hd (by decide) (by decide) hG a1 (fun d => by rw [eval_put_other _ _ (by decide)]; exact a2 (d.resolve_right (by decide))) (fun d => by rw [eval_put_other _ _ (by decide)]; exact a3 (d.resolve_right (by decide))) (fun d => by rw [eval_put_other _ _ (by decide)]; exact a4 (d.resolve_right (by decide))) (fun _ => eval_put_same _ _ _ (by rw [hI.size]; decide)) a6 a7 a8) hI.below)
    · exact wpOp_nil9 rfl (wanted_free rfl) _ rfl _ (hF 0 (hpre 0 (by kernel_rfl))) (hI.put (by decide) (by decide) (fun j _ _ h => rqH_any h) rfl (hI.more.pure (by decide) (by decide)) hI.below)
    · have hd : D 19 := hcl 20 (hcl 21 (hpre 21 (by kernel_rfl)) 20 (by kernel_rfl)) 19 (by kernel_rfl); have n9 : ¬ D 28 := fun d => hnd (hcl 28 d 25 (by kernel_rfl)); obtain ⟨w2, v2, hG, a1, a2, a3, a4, a5, a6, a7, a8⟩ := hI.more.post hd; obtain rfl := a6 hnd; obtain ⟨hG1, hG2, T2, hs2, hO2, hof2⟩ := hG; obtain ⟨A9, m9, c9, rfl, _, _⟩ := hO2.hds'; exact wpOp_store rfl (wanted_free rfl) _ _ _ rfl _ _ (hF 24 (hpre 24 (by kernel_rfl))) (a3 (hpre 21 (by kernel_rfl))) (run_storeQH _ _ _ _ _ _ ((cell_of_row _ p i _ _ _ hG2).trans hc.out) (frozen_of_row _ p i _ _ hG2)) (hI.stay (by decide) (fun j _ h => rqH_any h) trivial (RdQ.one (C := 19) hd ⟨hG1, hG2, T2, hs2, hO2, hof2⟩ n9 a1 a2 a3 a4 a5) (below_nil_set hI.below _ _))
    · exact wpOp_nil9 rfl (wanted_free rfl) _ rfl _ (hF 1 (hpre 1 (by kernel_rfl))) (hI.put (by decide) (by decide) (fun j _ _ h => rqH_any h) rfl (hI.more.pure (by decide) (by decide)) hI.below)
    · exact wpOp_field rfl (wanted_free rfl) _ _ _ rfl _ _ (hF 26 (hpre 26 (by kernel_rfl))) (run_fieldQ1 wy h) (hI.put (by decide) (by decide) (fun j _ _ h => rqH_any h) rfl (hI.more.pure (by decide) (by decide)) hI.below)
    · have h6 : D 25 := hpre 25 (by kernel_rfl); have hd : D 19 := hcl 25 h6 19 (by kernel_rfl); obtain ⟨w2, v2, hG, a1, a2, a3, a4, a5, a6, a7, a8⟩ := hI.more.post hd; obtain rfl := a7 h6 hnd; have g1 := (heap_setCell_other w2 ⟨p, i, Option.none⟩ h v2 (Ne.symm hne)).trans hG.1; exact wpOp_store rfl (wanted_free rfl) _ _ _ rfl _ _ (hF 27 (hpre 27 (by kernel_rfl))) (a4 (hpre 22 (by kernel_rfl))) (run_storeQI _ _ _ _ (RdAt.cells g1).2.1 (RdAt.free g1 1)) (hI.stay (by decide) (fun j _ h => rqH_any h) trivial (RdQ.two (C := 19) hd hG h6 a1 a2 a3 a4 a5) (below_nil_set hI.below _ _))
  · intro D a w5 hI hall
    have hd : D 19 := hall 19 (by decide)
    obtain ⟨w2, v2, hG, _, _, _, _, a5, _, _, a8⟩ := hI.more.post hd
    obtain rfl := a8 (hall 28 (by decide))
    have e5 := a5 (hall 23 (by decide))
    have e12 : a.eval (.tmp 12) = .pointer (some ⟨h, 0, Option.none⟩) := hI.fact 2 (hall 2 (by decide))
    have hsz := hI.size
    have hdf := hI.defs
    clear hI hall a5 a8
    have g0 := (heap_setCell_other w2 ⟨p, i, Option.none⟩ h v2 (Ne.symm hne)).trans hG.1
    have g1 := heap_setCell_same _ h 1 _ _ (.int .i64 q') g0
    have c9 := cell_of_row _ h 4 _ _ _ g1
    replace c9 : ((w2.setCell ⟨p, i, Option.none⟩ v2).setCell ⟨h, 1, Option.none⟩ (.int .i64 q')).cell? ⟨h, 4, Option.none⟩ = some (.int .i64 0) := c9
    have f9 := frozen_of_row _ h 4 _ _ g1
    have hst := Lib.hid (three_stores (i := i) hG.1 hG.2.1 hne v2 q' e')
    have hG' := Lib.hid hG
    show wpOps _ _ _ [29, 30, 31] a _
    rw [wpOps_cons]
    refine wpOp_nil9 rfl (wanted_free rfl) _ rfl _ e12 ?_
    show wpOps _ _ _ _ (a.put (some 36) _) _
    rw [wpOps_cons]
    refine wpOp_field rfl (wanted_free rfl) _ _ _ rfl _ _ (eval_put_same _ _ _ (by rw [hsz]; decide)) (run_fieldQ4 _ h) ?_
    show wpOps _ _ _ _ ((a.put (some 36) _).put (some 37) _) _
    rw [wpOps_cons]
    refine wpOp_store rfl (wanted_free rfl) _ _ _ rfl _ _ (eval_put_same _ _ _ (by rw [size_put, hsz]; decide)) (by rw [eval_put_other _ _ (by decide), eval_put_other _ _ (by decide)]; exact e5) (run_storeQE _ _ _ _ c9 f9) ?_
    show wpOps _ _ _ [] (((a.put (some 36) (.pointer (some ⟨h, 0, Option.none⟩))).put (some 37) (.pointer (some ⟨h, 4, Option.none⟩))).put Option.none undef) _
    rw [wpOps]
    obtain ⟨a9, ha9⟩ : ∃ a9, a9 = (((a.put (some 36) (.pointer (some ⟨h, 0, Option.none⟩))).put (some 37) (.pointer (some ⟨h, 4, Option.none⟩))).put Option.none undef) := ⟨_, rfl⟩
    have hd9 : a9.defers = [] := by rw [ha9, defers_put, defers_put, defers_put, hdf]
    rw [← ha9]
    clear ha9 hdf hsz e12 e5 c9 f9 g0 g1 hG
    go_wp2
    exact bodyPost_end (results_none rfl _ _ _) (by first | exact hd9 | rfl) (by
      obtain ⟨_, _, T2, hs2, hO2, hof2⟩ := hG'.out
      exact ⟨rfl, w2, T2, v2, hs2, hO2, hof2, hst.out.1, hst.out.2.1, hst.out.2.2⟩)
end Go.Proofs.Ytodncamohimmmaa

namespace Go.Proofs.Ytodncamohimmmaa
open Go.RowKit Go.Lib Go.Maps Leb

def rdN (X : List Int) (q e : Int) : Nat × Int × Int := if e ≠ 0 then (0, q, e) else take X q
def amtI (a : Nat) : Int := if a ≤ 1099511627776 then a else -1
theorem set_self {cs : Array Value} {i : Nat} {v : Value} (h : cs[i]? = some v) : cs.setIfInBounds i v = cs := by
  apply Array.ext (by simp)
  intro j h1 h2
  by_cases e : j = i
  · subst e
    rw [Array.getElem?_eq_some_iff] at h
    obtain ⟨_, h⟩ := h
    simp [h]
  · rw [Array.getElem_setIfInBounds_ne _ (Ne.symm e)]
theorem rnumber_any (h : Nat) (A : Option Addr) (n c : Nat) (X : List Int) (q : Int) (tb : Nat) (wv : Value) (e : Int) (p i : Nat) (cs : Array Value) (t : TypeId) (W : World) (H : RdAt W h A n c q tb wv e) (hX : Holds W A n c X) (hp : W.heap[p]? = some (.cells cs t (0, 0))) (hc : cs[i]? = some (.int .u64 0)) (hne : p ≠ h) :
    Calls Try.prog 44 #[.pointer (some ⟨h, 0, Option.none⟩), .pointer (some ⟨p, i, Option.none⟩)] W fun en W' => en = .returned (.tuple #[]) ∧ RdAt W' h A n c (rdN X q e).2.1 tb wv (rdN X q e).2.2 ∧ W'.heap[p]? = some (.cells (cs.setIfInBounds i (.int .u64 ((rdN X q e).1 : Nat))) t (0, 0)) ∧ Alt W W' (fun j => j = h ∨ j = p) := by
  by_cases he : e = 0
  · subst he
    rw [show rdN X q 0 = take X q from if_neg (fun h => h rfl)]
    exact rnumber_ok h A n c X q tb wv p i cs t 0 W H hX hp hc hne
  · rw [show rdN X q e = (0, q, e) from if_pos he]
    refine (rnumber_no h A n c q tb wv e p i W H he).mono ?_
    rintro en W' ⟨rfl, rfl⟩
    exact ⟨rfl, H, (show W'.heap[p]? = some (.cells (cs.setIfInBounds i (.int .u64 ((0 : Nat) : Int))) t (0, 0)) by rw [set_self (v := .int .u64 ((0 : Nat) : Int)) hc]; exact hp), alt_below (Below.refl _ _) _⟩

set_option maxHeartbeats 16000000 in
set_option maxRecDepth 100000 in
theorem ramount_any (h : Nat) (A : Option Addr) (n c : Nat) (X : List Int) (q : Int) (tb : Nat) (wv : Value) (e : Int) (g i : Nat) (cs : Array Value) (t : TypeId) (v : Int) (W : World) (H : RdAt W h A n c q tb wv e) (hX : Holds W A n c X) (hp : W.heap[g]? = some (.cells cs t (0, 0))) (hc : cs[i]? = some (.int .i64 v)) (hne : g ≠ h) :
    Calls Try.prog 42 #[.pointer (some ⟨h, 0, Option.none⟩), .pointer (some ⟨g, i, Option.none⟩)] W fun en W' => en = .returned (.tuple #[]) ∧ RdAt W' h A n c (rdN X q e).2.1 tb wv (rdN X q e).2.2 ∧ W'.heap[g]? = some (.cells (cs.setIfInBounds i (.int .i64 (amtI (rdN X q e).1))) t (0, 0)) ∧ Alt W W' (fun j => j = h ∨ j = g) := by
  have hb := below_box W (.cells #[.int .u64 0] 23)
  have hlh := H.lt
  have hlg := (Array.getElem?_eq_some_iff.1 hp).1
  have hnum := Lib.hid (rnumber_any h A n c X q tb wv e W.heap.size 0 #[.int .u64 0] 23 (W.alloc (.cells #[.int .u64 0] 23)) ((hb.block h hlh).trans H) (hX.later hb) (heap_alloc_new W _) rfl (by omega))
  obtain ⟨a, q', e', ht⟩ : ∃ a q' e', rdN X q e = (a, q', e') := ⟨_, _, _, rfl⟩
  rw [ht] at hnum ⊢
  have hfacts := Lib.hid (fun w2 (h2 : RdAt w2 h A n c q' tb wv e') (h3 : w2.heap[W.heap.size]? = some (.cells #[.int .u64 (a : Nat)] 23 (0, 0))) (ha : Alt (W.alloc (.cells #[.int .u64 0] 23)) w2 (fun j => j = h ∨ j = W.heap.size)) => (by
    have hg2 : w2.heap[g]? = some (.cells cs t (0, 0)) := (ha.block g (by simp; omega) (by omega)).trans ((hb.block g hlg).trans hp)
    have hal : Alt W w2 (fun j => j = h ∨ j = g) := ⟨ha.os, ha.tape, ha.output, Nat.le_trans hb.size ha.size, fun k hk hn => (ha.block k (by simp; omega) (by omega)).trans (hb.block k hk)⟩
    have s1 := heap_setCell_same w2 g i _ _ (.int .i64 (-1)) hg2
    have s2 := heap_setCell_same _ g i _ _ (.int .i64 (a : Nat)) s1
    have r1 : RdAt (w2.setCell ⟨g, i, Option.none⟩ (.int .i64 (-1))) h A n c q' tb wv e' := (heap_setCell_other w2 ⟨g, i, Option.none⟩ h _ (Ne.symm hne)).trans h2
    have r2 : RdAt ((w2.setCell ⟨g, i, Option.none⟩ (.int .i64 (-1))).setCell ⟨g, i, Option.none⟩ (.int .i64 (a : Nat))) h A n c q' tb wv e' := (heap_setCell_other _ ⟨g, i, Option.none⟩ h _ (Ne.symm hne)).trans r1
    have a1 := hal.trans (alt_set w2 ⟨g, i, Option.none⟩ (.int .i64 (-1)) (S := fun j => j = h ∨ j = g) (.inr rfl)) fun _ _ h => h
    have a2 := a1.trans (alt_set _ ⟨g, i, Option.none⟩ (.int .i64 (a : Nat)) (S := fun j => j = h ∨ j = g) (.inr rfl)) fun _ _ h => h
    have hlt := (Array.getElem?_eq_some_iff.1 hc).1
    have c1 : w2.cell? ⟨g, i, Option.none⟩ = some (.int .i64 v) := (cell_of_row w2 g i _ _ _ hg2).trans hc
    have c2 : (w2.setCell ⟨g, i, Option.none⟩ (.int .i64 (-1))).cell? ⟨g, i, Option.none⟩ = some (.int .i64 (-1)) := by rw [cell_of_row _ g i _ _ _ s1]; simp [hlt]
    have m1 : (w2.setCell ⟨g, i, Option.none⟩ (.int .i64 (-1))).heap[W.heap.size]? = _ := (heap_setCell_other w2 ⟨g, i, Option.none⟩ W.heap.size _ (by show W.heap.size ≠ g; omega)).trans h3
    rw [Array.setIfInBounds_setIfInBounds] at s2
    exact ⟨s1, s2, r1, r2, a1, a2, c1, c2, frozen_of_row w2 g i _ _ hg2, frozen_of_row _ g i _ _ s1, by rw [cell_of_row w2 _ 0 _ _ _ h3]; rfl, by rw [cell_of_row _ _ 0 _ _ _ m1]; rfl⟩ :
    (w2.setCell ⟨g, i, Option.none⟩ (.int .i64 (-1))).heap[g]? = some (.cells (cs.setIfInBounds i (.int .i64 (-1))) t (0, 0)) ∧
    ((w2.setCell ⟨g, i, Option.none⟩ (.int .i64 (-1))).setCell ⟨g, i, Option.none⟩ (.int .i64 (a : Nat))).heap[g]? = some (.cells (cs.setIfInBounds i (.int .i64 (a : Nat))) t (0, 0)) ∧
    RdAt (w2.setCell ⟨g, i, Option.none⟩ (.int .i64 (-1))) h A n c q' tb wv e' ∧
    RdAt ((w2.setCell ⟨g, i, Option.none⟩ (.int .i64 (-1))).setCell ⟨g, i, Option.none⟩ (.int .i64 (a : Nat))) h A n c q' tb wv e' ∧
    Alt W (w2.setCell ⟨g, i, Option.none⟩ (.int .i64 (-1))) (fun j => j = h ∨ j = g) ∧
    Alt W ((w2.setCell ⟨g, i, Option.none⟩ (.int .i64 (-1))).setCell ⟨g, i, Option.none⟩ (.int .i64 (a : Nat))) (fun j => j = h ∨ j = g) ∧
    w2.cell? ⟨g, i, Option.none⟩ = some (.int .i64 v) ∧ (w2.setCell ⟨g, i, Option.none⟩ (.int .i64 (-1))).cell? ⟨g, i, Option.none⟩ = some (.int .i64 (-1)) ∧
    w2.frozen? ⟨g, i, Option.none⟩ = false ∧ (w2.setCell ⟨g, i, Option.none⟩ (.int .i64 (-1))).frozen? ⟨g, i, Option.none⟩ = false ∧
    w2.cell? ⟨W.heap.size, 0, Option.none⟩ = some (.int .u64 (a : Nat)) ∧ (w2.setCell ⟨g, i, Option.none⟩ (.int .i64 (-1))).cell? ⟨W.heap.size, 0, Option.none⟩ = some (.int .u64 (a : Nat))))
  clear H hp hc hX ht hb hlh hlg
  by_cases hbig : a ≤ 1099511627776
  · have hv : amtI a = (a : Int) := if_pos hbig
    have hle : decide ((a : Int) ≤ 1099511627776) = true := decide_eq_true (by omega)
    have hle2 : decide (a ≤ 1099511627776) = true := decide_eq_true hbig
    have hwr : IntKind.i64.wrap (a : Int) = a := by simp [IntKind.wrap, IntKind.bits, IntKind.signed]; omega
    have hwr2 : wrap64 (a : Int) = a := wrap_int (by omega) (by omega)
    rw [hv]
    replace hbig := Lib.hid hbig
    clear hv
    go_enter Try.func42, Try.ntmps42
    go_wp2_with (go_at_call 44; refine hnum.out.mono ?_; rintro en w2 ⟨rfl, h2, h3, ha⟩; obtain ⟨s1, s2, r1, r2, a1, a2, c1, c2, f1, f2, m0, m1⟩ := hfacts.out w2 h2 h3 ha; replace s1 := Lib.hid s1; replace s2 := Lib.hid s2; replace r1 := Lib.hid r1; replace r2 := Lib.hid r2; replace a1 := Lib.hid a1; replace a2 := Lib.hid a2; clear h2 h3 ha)
    exact bodyPost_end (results_none rfl _ _ _) rfl ⟨rfl, r2.out, s2.out, a2.out⟩
  · have hv : amtI a = -1 := if_neg hbig
    have hle : decide ((a : Int) ≤ 1099511627776) = false := decide_eq_false (by omega)
    have hle2 : decide (a ≤ 1099511627776) = false := decide_eq_false hbig
    rw [hv]
    replace hbig := Lib.hid hbig
    clear hv
    go_enter Try.func42, Try.ntmps42
    go_wp2_with (go_at_call 44; refine hnum.out.mono ?_; rintro en w2 ⟨rfl, h2, h3, ha⟩; obtain ⟨s1, s2, r1, r2, a1, a2, c1, c2, f1, f2, m0, m1⟩ := hfacts.out w2 h2 h3 ha; replace s1 := Lib.hid s1; replace s2 := Lib.hid s2; replace r1 := Lib.hid r1; replace r2 := Lib.hid r2; replace a1 := Lib.hid a1; replace a2 := Lib.hid a2; clear h2 h3 ha)
    exact bodyPost_end (results_none rfl _ _ _) rfl ⟨rfl, r1.out, s1.out, a1.out⟩
set_option maxHeartbeats 16000000 in
set_option maxRecDepth 100000 in
theorem rflag_any (h : Nat) (A : Option Addr) (n c : Nat) (X : List Int) (q : Int) (tb : Nat) (wv : Value) (e : Int) (g i : Nat) (cs : Array Value) (t : TypeId) (v : Bool) (W : World) (H : RdAt W h A n c q tb wv e) (hX : Holds W A n c X) (hp : W.heap[g]? = some (.cells cs t (0, 0))) (hc : cs[i]? = some (.bool v)) (hne : g ≠ h) :
    Calls Try.prog 85 #[.pointer (some ⟨h, 0, Option.none⟩), .pointer (some ⟨g, i, Option.none⟩)] W fun en W' => en = .returned (.tuple #[]) ∧ RdAt W' h A n c (rdN X q e).2.1 tb wv (if 1 < (rdN X q e).1 then 4 else (rdN X q e).2.2) ∧ W'.heap[g]? = some (.cells (cs.setIfInBounds i (.bool (decide ((rdN X q e).1 = 1)))) t (0, 0)) ∧ Alt W W' (fun j => j = h ∨ j = g) := by
  have hb := below_box W (.cells #[.int .u64 0] 23)
  have hlh := H.lt
  have hlg := (Array.getElem?_eq_some_iff.1 hp).1
  have hnum := Lib.hid (rnumber_any h A n c X q tb wv e W.heap.size 0 #[.int .u64 0] 23 (W.alloc (.cells #[.int .u64 0] 23)) ((hb.block h hlh).trans H) (hX.later hb) (heap_alloc_new W _) rfl (by omega))
  obtain ⟨a, q', e', ht⟩ : ∃ a q' e', rdN X q e = (a, q', e') := ⟨_, _, _, rfl⟩
  rw [ht] at hnum ⊢
  have hfacts := Lib.hid (fun w2 (h2 : RdAt w2 h A n c q' tb wv e') (h3 : w2.heap[W.heap.size]? = some (.cells #[.int .u64 (a : Nat)] 23 (0, 0))) (ha : Alt (W.alloc (.cells #[.int .u64 0] 23)) w2 (fun j => j = h ∨ j = W.heap.size)) (d : Bool) => (by
    have hg2 : w2.heap[g]? = some (.cells cs t (0, 0)) := (ha.block g (by simp; omega) (by omega)).trans ((hb.block g hlg).trans hp)
    have hal : Alt W w2 (fun j => j = h ∨ j = g) := ⟨ha.os, ha.tape, ha.output, Nat.le_trans hb.size ha.size, fun k hk hn => (ha.block k (by simp; omega) (by omega)).trans (hb.block k hk)⟩
    have hx := heap_setCell_same w2 h 4 _ _ (.int .i64 4) h2
    have r4 : RdAt (w2.setCell ⟨h, 4, Option.none⟩ (.int .i64 4)) h A n c q' tb wv 4 := hx
    have g4 : (w2.setCell ⟨h, 4, Option.none⟩ (.int .i64 4)).heap[g]? = _ := (heap_setCell_other w2 ⟨h, 4, Option.none⟩ g _ hne).trans hg2
    have s1 := heap_setCell_same w2 g i _ _ (.bool d) hg2
    have s2 := heap_setCell_same _ g i _ _ (.bool d) g4
    have r1 : RdAt (w2.setCell ⟨g, i, Option.none⟩ (.bool d)) h A n c q' tb wv e' := (heap_setCell_other w2 ⟨g, i, Option.none⟩ h _ (Ne.symm hne)).trans h2
    have r2 : RdAt ((w2.setCell ⟨h, 4, Option.none⟩ (.int .i64 4)).setCell ⟨g, i, Option.none⟩ (.bool d)) h A n c q' tb wv 4 := (heap_setCell_other _ ⟨g, i, Option.none⟩ h _ (Ne.symm hne)).trans r4
    have a1 := hal.trans (alt_set w2 ⟨g, i, Option.none⟩ (.bool d) (S := fun j => j = h ∨ j = g) (.inr rfl)) fun _ _ h => h
    have a4 := hal.trans (alt_set w2 ⟨h, 4, Option.none⟩ (.int .i64 4) (S := fun j => j = h ∨ j = g) (.inl rfl)) fun _ _ h => h
    have a2 := a4.trans (alt_set _ ⟨g, i, Option.none⟩ (.bool d) (S := fun j => j = h ∨ j = g) (.inr rfl)) fun _ _ h => h
    have m4 : (w2.setCell ⟨h, 4, Option.none⟩ (.int .i64 4)).heap[W.heap.size]? = _ := (heap_setCell_other w2 ⟨h, 4, Option.none⟩ W.heap.size _ (by show W.heap.size ≠ h; omega)).trans h3
    exact ⟨⟨r1, s1, a1⟩, ⟨r2, s2, a2⟩, (cell_of_row w2 g i _ _ _ hg2).trans hc, (cell_of_row _ g i _ _ _ g4).trans hc, frozen_of_row w2 g i _ _ hg2, frozen_of_row _ g i _ _ g4, RdAt.cells h2 |>.2.2.2.2, RdAt.free h2 4, by rw [cell_of_row w2 _ 0 _ _ _ h3]; rfl, by rw [cell_of_row _ _ 0 _ _ _ m4]; rfl⟩ :
    (RdAt (w2.setCell ⟨g, i, Option.none⟩ (.bool d)) h A n c q' tb wv e' ∧ (w2.setCell ⟨g, i, Option.none⟩ (.bool d)).heap[g]? = some (.cells (cs.setIfInBounds i (.bool d)) t (0, 0)) ∧ Alt W (w2.setCell ⟨g, i, Option.none⟩ (.bool d)) (fun j => j = h ∨ j = g)) ∧
    (RdAt ((w2.setCell ⟨h, 4, Option.none⟩ (.int .i64 4)).setCell ⟨g, i, Option.none⟩ (.bool d)) h A n c q' tb wv 4 ∧ ((w2.setCell ⟨h, 4, Option.none⟩ (.int .i64 4)).setCell ⟨g, i, Option.none⟩ (.bool d)).heap[g]? = some (.cells (cs.setIfInBounds i (.bool d)) t (0, 0)) ∧ Alt W ((w2.setCell ⟨h, 4, Option.none⟩ (.int .i64 4)).setCell ⟨g, i, Option.none⟩ (.bool d)) (fun j => j = h ∨ j = g)) ∧
    w2.cell? ⟨g, i, Option.none⟩ = some (.bool v) ∧ (w2.setCell ⟨h, 4, Option.none⟩ (.int .i64 4)).cell? ⟨g, i, Option.none⟩ = some (.bool v) ∧ w2.frozen? ⟨g, i, Option.none⟩ = false ∧ (w2.setCell ⟨h, 4, Option.none⟩ (.int .i64 4)).frozen? ⟨g, i, Option.none⟩ = false ∧
    w2.cell? ⟨h, 4, Option.none⟩ = some (.int .i64 e') ∧ w2.frozen? ⟨h, 4, Option.none⟩ = false ∧
    w2.cell? ⟨W.heap.size, 0, Option.none⟩ = some (.int .u64 (a : Nat)) ∧ (w2.setCell ⟨h, 4, Option.none⟩ (.int .i64 4)).cell? ⟨W.heap.size, 0, Option.none⟩ = some (.int .u64 (a : Nat))))
  clear H hp hc hX ht hb hlh hlg
  obtain ⟨d, hd⟩ : ∃ d, d = decide (a = 1) := ⟨_, rfl⟩
  have hd1 : ((a : Int) == 1) = d := by rw [hd, Bool.eq_iff_iff]; simp; omega
  rw [show decide (((a, q', e') : Nat × Int × Int).1 = 1) = d from hd.symm]
  by_cases hbig : 1 < a
  · have hle : decide (1 < (a : Int)) = true := decide_eq_true (by omega)
    have hle2 : decide (1 < a) = true := decide_eq_true hbig
    rw [show (if 1 < ((a, q', e') : Nat × Int × Int).1 then (4 : Int) else ((a, q', e') : Nat × Int × Int).2.2) = 4 from if_pos hbig]
    replace hbig := Lib.hid hbig
    clear hd
    go_enter Try.func85, Try.ntmps85
    go_wp2_with (go_at_call 44; refine hnum.out.mono ?_; rintro en w2 ⟨rfl, h2, h3, ha⟩; obtain ⟨s1, s2, c1, c2, f1, f2, c4, f4, m0, m1⟩ := hfacts.out w2 h2 h3 ha d; replace s1 := Lib.hid s1; replace s2 := Lib.hid s2; clear h2 h3 ha)
    exact bodyPost_end (results_none rfl _ _ _) rfl ⟨rfl, s2.out.1, s2.out.2.1, s2.out.2.2⟩
  · have hle : decide (1 < (a : Int)) = false := decide_eq_false (by omega)
    have hle2 : decide (1 < a) = false := decide_eq_false hbig
    rw [show (if 1 < ((a, q', e') : Nat × Int × Int).1 then (4 : Int) else ((a, q', e') : Nat × Int × Int).2.2) = e' from if_neg hbig]
    replace hbig := Lib.hid hbig
    clear hd
    go_enter Try.func85, Try.ntmps85
    go_wp2_with (go_at_call 44; refine hnum.out.mono ?_; rintro en w2 ⟨rfl, h2, h3, ha⟩; obtain ⟨s1, s2, c1, c2, f1, f2, c4, f4, m0, m1⟩ := hfacts.out w2 h2 h3 ha d; replace s1 := Lib.hid s1; replace s2 := Lib.hid s2; clear h2 h3 ha)
    exact bodyPost_end (results_none rfl _ _ _) rfl ⟨rfl, s1.out.1, s1.out.2.1, s1.out.2.2⟩
end Go.Proofs.Ytodncamohimmmaa

namespace Go.Proofs.Ytodncamohimmmaa
open Go.RowKit Go.Lib Go.Maps Leb

structure St where
  x : Ev
  q : Int
  e : Int
  t : List (List UInt8)
def sAm (X : List Int) (f : Ev → Int → Ev) (s : St) : St := ⟨f s.x (amtI (rdN X s.q s.e).1), (rdN X s.q s.e).2.1, (rdN X s.q s.e).2.2, s.t⟩
def sFl (X : List Int) (s : St) : St := ⟨{ s.x with cred := decide ((rdN X s.q s.e).1 = 1) }, (rdN X s.q s.e).2.1, if 1 < (rdN X s.q s.e).1 then 4 else (rdN X s.q s.e).2.2, s.t⟩
def sNu (X : List Int) (s : St) : St := ⟨{ s.x with n := (rdN X s.q s.e).1 }, (rdN X s.q s.e).2.1, (rdN X s.q s.e).2.2, s.t⟩
def sTx (X : List Int) (f : Ev → ByteArray → Ev) (s : St) : St := if s.e ≠ 0 then s else ⟨f s.x (mk (takeB s.t X s.q).1), (takeB s.t X s.q).2.1, (takeB s.t X s.q).2.2, takeL s.t X s.q⟩
def sHd (X : List Int) (was : List Hd) (s : St) : St := if s.e ≠ 0 then s else ⟨{ s.x with hs := (dtake s.t X s.q was).1.1 }, (dtake s.t X s.q was).1.2.1, (dtake s.t X s.q was).1.2.2, (dtake s.t X s.q was).2⟩
def fCode (x : Ev) (v : Int) : Ev := { x with code := v }
def fStat (x : Ev) (v : Int) : Ev := { x with status := v }
def fKind (x : Ev) (v : Int) : Ev := { x with kind := v }
def fSes (x : Ev) (v : Int) : Ev := { x with ses := v }
def fMe (x : Ev) (v : ByteArray) : Ev := { x with me := v }
def fUrl (x : Ev) (v : ByteArray) : Ev := { x with url := v }
def fNo (x : Ev) (v : ByteArray) : Ev := { x with no := v }
def fBody (x : Ev) (v : ByteArray) : Ev := { x with body := v }

structure RP (w1 : World) (b tb mb : Nat) (T0 L : Nat → Prop) (ks : List (Int × Bool)) (val : Int → Bool → Value) (k : Bk) (g h : Nat) (A : Option Addr) (n c : Nat) (wv : Value) (s : St) (Ax : Option Addr) (m cx : Nat) (W : World) : Prop where
  ex : ∃ T1, BkP W b tb mb T1 L ks val { k with tab := s.t } ∧ (∀ j, T1 j → T0 j ∨ w1.heap.size ≤ j) ∧ ¬ T1 g ∧ ¬ T1 h ∧ Hds W Ax m cx s.x.hs ∧ ∀ q off, Ax = some ⟨q, off, Option.none⟩ → 0 < m → w1.heap.size ≤ q ∧ q ≠ g ∧ q ≠ h ∧ ¬ T1 q
  alt : Alt w1 W T0
  rd : RdAt W h A n c s.q tb wv s.e
  bg : W.heap[g]? = some (.cells (ecell12 s.x Ax m cx) 25 (0, 0))
  gw : w1.heap.size ≤ g
  hw : w1.heap.size ≤ h
  gh : g ≠ h
  old : b < w1.heap.size ∧ mb < w1.heap.size ∧ ∀ j, L j → j < w1.heap.size
section
variable {w1 : World} {b tb mb : Nat} {T0 L : Nat → Prop} {ks : List (Int × Bool)} {val : Int → Bool → Value} {k : Bk} {g h : Nat} {A : Option Addr} {n c : Nat} {wv : Value} {X : List Int} {s : St} {Ax : Option Addr} {m cx : Nat} {W W' w2 : World}
theorem RP.size (H : RP w1 b tb mb T0 L ks val k g h A n c wv s Ax m cx W) : w1.heap.size ≤ W.heap.size := H.alt.size
theorem RP.lt (H : RP w1 b tb mb T0 L ks val k g h A n c wv s Ax m cx W) : g < W.heap.size ∧ h < W.heap.size := ⟨(Array.getElem?_eq_some_iff.1 H.bg).1, H.rd.lt⟩
theorem RP.later (H : RP w1 b tb mb T0 L ks val k g h A n c wv s Ax m cx W) (hb : Below W.heap.size W W') : RP w1 b tb mb T0 L ks val k g h A n c wv s Ax m cx W' := by
  obtain ⟨T1, hB, hn, h1, h2, hx, hx2⟩ := H.ex
  obtain ⟨l1, l2⟩ := H.lt
  exact ⟨⟨T1, hB.later hb, hn, h1, h2, hx.later hb, hx2⟩, H.alt.behind hb, (hb.block _ l2).trans H.rd, (hb.block _ l1).trans H.bg, H.gw, H.hw, H.gh, H.old⟩
theorem RP.ev (H : RP w1 b tb mb T0 L ks val k g h A n c wv s Ax m cx W) : EvAt W g s.x Ax m cx := EvAt.row H.bg
theorem RP.holds (H : RP w1 b tb mb T0 L ks val k g h A n c wv s Ax m cx W) (hX : Holds w1 A n c X) (ho : Off T0 A n) : Holds W A n c X := hX.alt H.alt ho
theorem RP.turnN (H : RP w1 b tb mb T0 L ks val k g h A n c wv s Ax m cx W) {x' : Ev} {q' e' : Int} (ha : Alt W W' (fun j => j = h ∨ j = g)) (hr : RdAt W' h A n c q' tb wv e') (hg : W'.heap[g]? = some (.cells (ecell12 x' Ax m cx) 25 (0, 0))) (hh : x'.hs = s.x.hs) : RP w1 b tb mb T0 L ks val k g h A n c wv ⟨x', q', e', s.t⟩ Ax m cx W' := by
  obtain ⟨T1, hB, hn, h1, h2, hx, hx2⟩ := H.ex
  obtain ⟨o1, o2, o3⟩ := H.old
  have hgw := H.gw
  have hhw := H.hw
  refine ⟨⟨T1, hB.alt ha fun j hj e => ?_, hn, h1, h2, ?_, hx2⟩, H.alt.trans ha fun j hj e => by omega, hr, hg, hgw, hhw, H.gh, H.old⟩
  · rcases hj with h9 | h9 | h9 | h9
    · omega
    · rcases e with e | e
      · exact h2 (e ▸ h9)
      · exact h1 (e ▸ h9)
    · omega
    · have := o3 j h9
      omega
  · show Hds W' Ax m cx x'.hs
    rw [hh]
    exact hx.alt ha fun q off e h0 h9 => by
      obtain ⟨_, z1, z2, _⟩ := hx2 q off e h0
      omega
theorem RP.turnT (H : RP w1 b tb mb T0 L ks val k g h A n c wv s Ax m cx W) {x' : Ev} {q' e' : Int} {T' : List (List UInt8)} {T1 T2 : Nat → Prop} (hB : BkP W b tb mb T1 L ks val { k with tab := s.t }) (hn : ∀ j, T1 j → T0 j ∨ w1.heap.size ≤ j) (h1 : ¬ T1 g) (h2 : ¬ T1 h) (hx : Hds W Ax m cx s.x.hs) (hx2 : ∀ q off, Ax = some ⟨q, off, Option.none⟩ → 0 < m → w1.heap.size ≤ q ∧ q ≠ g ∧ q ≠ h ∧ ¬ T1 q)
    (hs : PStep W w2 tb T1 T2 T') (ha : Alt w2 W' (fun j => j = h ∨ j = g)) (hr : RdAt W' h A n c q' tb wv e') (hg : W'.heap[g]? = some (.cells (ecell12 x' Ax m cx) 25 (0, 0))) (hh : x'.hs = s.x.hs) : RP w1 b tb mb T0 L ks val k g h A n c wv ⟨x', q', e', T'⟩ Ax m cx W' := by
  obtain ⟨l1, l2⟩ := H.lt
  obtain ⟨o1, o2, o3⟩ := H.old
  have hgw := H.gw
  have hhw := H.hw
  have hsz := H.size
  have hof : ∀ j, j < W.heap.size → ¬ T1 j → ¬ T2 j := fun j hj hk h9 => (hs.new j h9).elim hk fun h8 => by omega
  refine ⟨⟨T2, (hB.turn hs).alt ha fun j hj e => ?_, fun j hj => (hs.new j hj).elim (hn j) fun h8 => .inr (Nat.le_trans hsz h8), hof g l1 h1, hof h l2 h2, ?_, fun q off e h0 => ?_⟩, (H.alt.trans hs.alt fun j hj hk => (hn j hk).resolve_right (by omega)).trans ha fun j hj e => by omega, hr, hg, hgw, hhw, H.gh, H.old⟩
  · rcases hj with h9 | h9 | h9 | h9
    · omega
    · rcases e with e | e
      · exact hof h l2 h2 (e ▸ h9)
      · exact hof g l1 h1 (e ▸ h9)
    · omega
    · have := o3 j h9
      omega
  · show Hds W' Ax m cx x'.hs
    rw [hh]
    refine (hx.alt hs.alt fun q off e h0 h9 => (hx2 q off e h0).2.2.2 h9).alt ha fun q off e h0 h9 => ?_
    obtain ⟨_, z1, z2, _⟩ := hx2 q off e h0
    omega
  · obtain ⟨z0, z1, z2, z3⟩ := hx2 q off e h0
    exact ⟨z0, z1, z2, hof q (by have h9 := hx; rw [e] at h9; exact h9.block h0) z3⟩
theorem rpc_amount (H : RP w1 b tb mb T0 L ks val k g h A n c wv s Ax m cx W) (hX : Holds w1 A n c X) (ho : Off T0 A n) (i : Nat) (v0 : Int) (f : Ev → Int → Ev) (hc : (ecell12 s.x Ax m cx)[i]? = some (.int .i64 v0)) (he : ∀ v, (ecell12 s.x Ax m cx).setIfInBounds i (.int .i64 v) = ecell12 (f s.x v) Ax m cx) (hh : ∀ v, (f s.x v).hs = s.x.hs) :
    Calls Try.prog 42 #[.pointer (some ⟨h, 0, Option.none⟩), .pointer (some ⟨g, i, Option.none⟩)] W fun en W' => en = .returned (.tuple #[]) ∧ RP w1 b tb mb T0 L ks val k g h A n c wv (sAm X f s) Ax m cx W' := by
  refine (ramount_any h A n c X s.q tb wv s.e g i _ _ v0 W H.rd (H.holds hX ho) H.bg hc H.gh).mono ?_
  rintro en W' ⟨rfl, hr, hg, ha⟩
  rw [he] at hg
  exact ⟨rfl, H.turnN ha hr hg (hh _)⟩
theorem rpc_flag (H : RP w1 b tb mb T0 L ks val k g h A n c wv s Ax m cx W) (hX : Holds w1 A n c X) (ho : Off T0 A n) :
    Calls Try.prog 85 #[.pointer (some ⟨h, 0, Option.none⟩), .pointer (some ⟨g, 9, Option.none⟩)] W fun en W' => en = .returned (.tuple #[]) ∧ RP w1 b tb mb T0 L ks val k g h A n c wv (sFl X s) Ax m cx W' := by
  refine (rflag_any h A n c X s.q tb wv s.e g 9 _ _ s.x.cred W H.rd (H.holds hX ho) H.bg rfl H.gh).mono ?_
  rintro en W' ⟨rfl, hr, hg, ha⟩
  exact ⟨rfl, H.turnN ha hr hg rfl⟩
theorem rpc_number (H : RP w1 b tb mb T0 L ks val k g h A n c wv s Ax m cx W) (hX : Holds w1 A n c X) (ho : Off T0 A n) (h0 : s.x.n = 0) :
    Calls Try.prog 44 #[.pointer (some ⟨h, 0, Option.none⟩), .pointer (some ⟨g, 11, Option.none⟩)] W fun en W' => en = .returned (.tuple #[]) ∧ RP w1 b tb mb T0 L ks val k g h A n c wv (sNu X s) Ax m cx W' := by
  refine (rnumber_any h A n c X s.q tb wv s.e g 11 _ _ W H.rd (H.holds hX ho) H.bg (by show some (Value.int .u64 (s.x.n : Int)) = _; rw [h0]; rfl) H.gh).mono ?_
  rintro en W' ⟨rfl, hr, hg, ha⟩
  exact ⟨rfl, H.turnN ha hr hg rfl⟩
theorem rpc_text (H : RP w1 b tb mb T0 L ks val k g h A n c wv s Ax m cx W) (hX : Holds w1 A n c X) (ho : Off T0 A n) (hn : n ≤ 900000000) (hT : s.t.length ≤ 300000) (i : Nat) (v0 : ByteArray) (f : Ev → ByteArray → Ev) (hc : (ecell12 s.x Ax m cx)[i]? = some (.string v0)) (he : ∀ v, (ecell12 s.x Ax m cx).setIfInBounds i (.string v) = ecell12 (f s.x v) Ax m cx) (hh : ∀ v, (f s.x v).hs = s.x.hs) :
    Calls Try.prog 87 #[.pointer (some ⟨h, 0, Option.none⟩), .pointer (some ⟨g, i, Option.none⟩)] W fun en W' => en = .returned (.tuple #[]) ∧ RP w1 b tb mb T0 L ks val k g h A n c wv (sTx X f s) Ax m cx W' := by
  by_cases hz : s.e = 0
  · obtain ⟨T1, hB, hn1, h1, h2, hx, hx2⟩ := H.ex
    have hr0 := H.rd
    rw [hz] at hr0
    refine (rtext_ok h A n c X s.q tb s.t T1 wv g i _ _ v0 W hr0 (H.holds hX ho) hB.tab hT (by omega) H.bg hc H.gh h2 h1).mono ?_
    rintro en W' ⟨rfl, w2, T2, hs, hr, hg, ha⟩
    rw [he] at hg
    rw [show sTx X f s = _ from if_neg (fun h9 => h9 hz)]
    exact ⟨rfl, H.turnT hB hn1 h1 h2 hx hx2 hs ha hr hg (hh _)⟩
  · refine (rtext_no h A n c s.q tb wv s.e g i W H.rd hz).mono ?_
    rintro en W' ⟨rfl, rfl⟩
    rw [show sTx X f s = s from if_pos hz]
    exact ⟨rfl, H⟩
end
end Go.Proofs.Ytodncamohimmmaa
