/-
  One rule for a statement whose operations Go may carry out in more than one order: an invariant over the set of operations that are done, shown once for each operation, instead of once for each order; and the single operations, each by its own law. Conditions: those that each theorem states.
-/
import Derived.Test.YtlmchoonokglaaaMem
import Derived.Orders
import Derived.RegionTactic
namespace Go.Proofs.Ytlmchoonokglaaa
open Go.RowKit Leb

section
variable {P : Program} {ops : Array Oper} {Q : Exit → Act → World → Prop}

/-- The operations that must be done before o. -/
def preds (o : Oper) : List Nat := (o.after.toList.filter (Region.binds .any)).map (·.on)

/-- Each operation waits for earlier ones alone. -/
def forwards (ops : Array Oper) : Bool := (List.range ops.size).all fun i => match ops[i]? with | some o => (preds o).all fun k => decide (k < i) | Option.none => true

theorem forwards_spec (h : forwards ops = true) {i : Nat} {o : Oper} (ho : ops[i]? = some o) : ∀ k ∈ preds o, k < i := by
  have hi := (Array.getElem?_eq_some_iff.1 ho).1
  unfold forwards at h
  rw [List.all_eq_true] at h
  have := h i (List.mem_range.2 hi)
  rw [ho] at this
  simp only [List.all_eq_true, decide_eq_true_eq] at this
  exact this

theorem preds_of {o : Oper} {D : Nat → Prop} (h : ∀ e ∈ o.after, Region.binds .any e = true → D e.on) : ∀ k ∈ preds o, D k := by
  intro k hk
  unfold preds at hk
  rw [List.mem_map] at hk
  obtain ⟨e, he, rfl⟩ := hk
  rw [List.mem_filter] at he
  exact h e (by simpa using he.1) he.2

theorem wpAny_inv (I : (Nat → Prop) → Act → World → Prop) (hac : forwards ops = true)
    (step : ∀ D a w i o, I D a w → ops[i]? = some o → ¬ D i → (∀ k ∈ preds o, D k) → wpOp P ops Q i (fun a' w' => I (fun j => D j ∨ j = i) a' w') a w)
    (fin : ∀ D a w, I D a w → (∀ i, i < ops.size → D i) → Q .normal a w) :
    ∀ (fuel : Nat) (listed : Array Bool) (a : Act) (w : World), listed.size = ops.size → listed.toList.countP (! ·) ≤ fuel → I (fun j => listed.getD j false = true) a w → wpAny P .any ops Q fuel listed a w := by
  have all : ∀ (listed : Array Bool), listed.size = ops.size → Region.ready .any ops listed = [] → ∀ i, i < ops.size → listed.getD i false = true := by
    intro listed hs hr i
    induction i using Nat.strongRecOn with
    | ind i ih =>
      intro hi
      cases hd : listed.getD i false with
      | true => rfl
      | false =>
        exfalso
        have ho : ops[i]? = some ops[i] := Array.getElem?_eq_getElem hi
        have : i ∈ Region.ready .any ops listed := by
          rw [mem_ready]
          refine ⟨?_, ops[i], ho, fun e he hb => ?_⟩
          · rw [Array.getD, dif_pos (by omega)] at hd ⊢; exact hd
          · have hk : e.on ∈ preds ops[i] := by
              unfold preds
              rw [List.mem_map]
              exact ⟨e, List.mem_filter.2 ⟨by simpa using he, hb⟩, rfl⟩
            have := forwards_spec hac ho _ hk
            exact ih e.on this (by omega)
        rw [hr] at this
        cases this
  intro fuel
  induction fuel with
  | zero =>
    intro listed a w hs hc hI
    have h0 : ∀ i, i < listed.size → listed.getD i false = true := by
      intro i hi
      have := List.countP_eq_zero.1 (Nat.le_zero.1 hc) listed[i] (by simp)
      rw [Array.getD, dif_pos hi]
      simpa using this
    have hr : Region.ready .any ops listed = [] := by
      apply List.eq_nil_iff_forall_not_mem.2
      intro j hj
      rw [mem_ready] at hj
      obtain ⟨h1, o, ho, _⟩ := hj
      have hj' := (Array.getElem?_eq_some_iff.1 ho).1
      have := h0 j (by omega)
      rw [Array.getD, dif_pos (by omega)] at this h1
      rw [this] at h1
      cases h1
    exact ⟨hr, fin _ a w hI (fun i hi => h0 i (by omega))⟩
  | succ fuel ih =>
    intro listed a w hs hc hI
    refine ⟨fun hr => fin _ a w hI (all listed hs hr), fun i hi => ?_⟩
    rw [mem_ready] at hi
    obtain ⟨h1, o, ho, hpre⟩ := hi
    have hlt := (Array.getElem?_eq_some_iff.1 ho).1
    have hli : listed[i]'(by omega) = false := by rw [Array.getD, dif_pos (by omega)] at h1; exact h1
    have hnd : ¬ listed.getD i false = true := by rw [Array.getD, dif_pos (by omega)]; show ¬ listed[i]'(by omega) = true; rw [hli]; simp
    refine wpOp_mono (fun a' w' h => ?_) (step _ a w i o hI ho hnd (preds_of hpre))
    refine ih (listed.setIfInBounds i true) a' w' (by simpa using hs) ?_ ?_
    · rw [Array.toList_setIfInBounds, List.countP_set (by simpa using (by omega : i < listed.size))]
      have e1 : (! listed.toList[i]'(by simpa using (by omega : i < listed.size))) = true := by simp [hli]
      rw [if_pos e1]
      have hpos : 0 < listed.toList.countP (! ·) := by
        rw [List.countP_pos_iff]
        exact ⟨listed.toList[i]'(by simpa using (by omega : i < listed.size)), List.getElem_mem _, e1⟩
      have e2 : (if (! true) = true then 1 else 0) = 0 := rfl
      rw [e2]
      omega
    · have e : (fun j => (listed.setIfInBounds i true).getD j false = true) = (fun j => listed.getD j false = true ∨ j = i) := by
        funext j
        apply propext
        by_cases hj : j = i
        · subst hj
          have : (listed.setIfInBounds j true).getD j false = true := by
            rw [Array.getD, dif_pos (by simpa using (by omega : j < listed.size))]
            simp
          simp [this]
        · rw [getD_set_ne false (Ne.symm hj)]
          simp [hj]
      rw [e]
      exact h

/-- The rule. -/
theorem wp_region_inv {id : Nat} {a : Act} {w : World} (I : (Nat → Prop) → Act → World → Prop) (hm : P.follows .mixedOrders = true) (hac : forwards ops = true)
    (h0 : I (fun _ => False) a w.drew)
    (step : ∀ D a w i o, I D a w → ops[i]? = some o → ¬ D i → (∀ k ∈ preds o, D k) → wpOp P ops Q i (fun a' w' => I (fun j => D j ∨ j = i) a' w') a w)
    (fin : ∀ D a w, I D a w → (∀ i, i < ops.size → D i) → Q .normal a w) : (Code.region id ops true).wp P Q a w := by
  refine wp_region_any hm (wpAny_inv I hac step fin _ _ _ _ (by simp) ?_ ?_)
  · rw [show (Array.replicate ops.size false).toList = List.replicate ops.size false by simp, List.countP_replicate]
    simp
  · have e : (fun j => (Array.replicate ops.size false).getD j false = true) = (fun _ => False) := by
      funext j
      apply propext
      simp only [iff_false]
      rw [Array.getD]
      split <;> simp
    rw [e]
    exact h0

/-- The operations that must be done before operation number i. -/
def predsAt (ops : Array Oper) (i : Nat) : List Nat := match ops[i]? with | some o => preds o | Option.none => []

/-- The rule, operation by operation: what is done is done with all that it waited for. -/
theorem wp_region_each {id : Nat} {a : Act} {w : World} (I : (Nat → Prop) → Act → World → Prop) (hm : P.follows .mixedOrders = true) (hac : forwards ops = true)
    (h0 : I (fun _ => False) a w.drew)
    (step : ∀ i, i < ops.size → ∀ D a w, I D a w → (∀ j, D j → ∀ k, (predsAt ops j).contains k = true → D k) → ¬ D i → (∀ k, (predsAt ops i).contains k = true → D k) → wpOp P ops Q i (fun a' w' => I (fun j => D j ∨ j = i) a' w') a w)
    (fin : ∀ D a w, I D a w → (∀ i, i < ops.size → D i) → Q .normal a w) : (Code.region id ops true).wp P Q a w := by
  refine wp_region_inv (fun D a w => I D a w ∧ ∀ j, D j → ∀ k, (predsAt ops j).contains k = true → D k) hm hac ⟨h0, fun j hj => hj.elim⟩ ?_ (fun D a w h hall => fin D a w h.1 hall)
  intro D a w i o ⟨hI, hcl⟩ ho hnd hpre
  have hlt := (Array.getElem?_eq_some_iff.1 ho).1
  have hp : ∀ k, (predsAt ops i).contains k = true → D k := by
    intro k hk
    unfold predsAt at hk
    rw [ho] at hk
    exact hpre k (by simpa using hk)
  refine wpOp_mono (fun a' w' h => ⟨h, fun j hj k hk => ?_⟩) (step i hlt D a w hI hcl hnd hp)
  rcases hj with hj | rfl
  · exact .inl (hcl j hj k hk)
  · exact .inl (hp k hk)

/-! ### The slots of a frame that is a letter -/

theorem eval_put_same (a : Act) (d : Nat) (v : Value) (h : d < a.tmps.size) : (a.put (some d) v).eval (.tmp d) = v := by
  simp [Act.eval, Act.put, h]
theorem eval_put_other (a : Act) {d t : Nat} (v : Value) (h : t ≠ d) : (a.put (some d) v).eval (.tmp t) = a.eval (.tmp t) :=
  Act.eval_put (by intro d' hd e; injection hd with hd; injection e with e; subst hd; exact h e)
theorem size_put (a : Act) (d : Option Tmp) (v : Value) : (a.put d v).tmps.size = a.tmps.size := by
  cases d <;> simp [Act.put]
theorem defers_put (a : Act) (d : Option Tmp) (v : Value) : (a.put d v).defers = a.defers := by
  cases d <;> rfl

/-- An operation whose guard is what it asks for, or that has none, is carried out. -/
theorem wanted_free {o : Oper} {y : Nat → Option Bool} (h : o.guard = Option.none) : Region.wanted o y = true := by simp [Region.wanted, h]
theorem wanted_by {o : Oper} {a : Act} {j d : Nat} {b : Bool} (h : o.guard = some (j, b)) (og : Oper) (hj : ops[j]? = some og) (hd : og.dst = some d) (hv : a.eval (.tmp d) = .bool b) : Region.wanted o (yielded ops a.tmps) = true := by
  have hs : a.tmps[d]? = some (.bool b) := by
    simp only [Act.eval, Array.getD_eq_getD_getElem?] at hv
    cases hx : a.tmps[d]? with
    | none => rw [hx] at hv; simp [undef] at hv
    | some x => rw [hx] at hv; simpa using hv
  simp [Region.wanted, h, yielded, hj, hd, hs]

/-- An operation that yields a value. -/
theorem wpOp_value {i : Nat} {o : Oper} {a : Act} {w w' : World} {K : Act → World → Prop} {v : Value} (ho : ops[i]? = some o) (hw : Region.wanted o (yielded ops a.tmps) = true)
    (hr : (execOp a.eval o).run P w = .ok (.value v) w') (hK : K (a.put o.dst v) w') : wpOp P ops Q i K a w :=
  wpOp_step ho fun K' hK' => by rw [if_pos hw]; unfold Oper.wp; rw [hr]; exact hK' _ _ hK

/-- A call of a Go function, by its contract. -/
theorem wpOp_call {i : Nat} {o : Oper} {a : Act} {w : World} {K : Act → World → Prop} (ho : ops[i]? = some o) (hw : Region.wanted o (yielded ops a.tmps) = true)
    (f : FuncId) (vs : Array Value) (hr : (execOp a.eval o).run P w = .ok (.enter f vs) w) {R : Ending → World → Prop} (hc : Calls P f vs w R) (hK : ∀ e w', R e w' → ∃ v, e = .returned v ∧ K (a.put o.dst v) w') : wpOp P ops Q i K a w :=
  wpOp_step ho fun K' hK' => by
    rw [if_pos hw]
    unfold Oper.wp
    rw [hr]
    refine hc.mono fun e w' h => ?_
    obtain ⟨v, rfl, hv⟩ := hK e w' h
    exact hK' _ _ hv

section
variable {i : Nat} {o : Oper} {a : Act} {w w' : World} {K : Act → World → Prop}
theorem wpOp_move (ho : ops[i]? = some o) (hw : Region.wanted o (yielded ops a.tmps) = true) (x : Operand) (hop : o.op = .move x) (v : Value) (hx : a.eval x = v) (hK : K (a.put o.dst v) w) : wpOp P ops Q i K a w :=
  wpOp_value ho hw (v := v) (w' := w) (by simp only [execOp, hop, hx]; rfl) hK
theorem wpOp_assign (ho : ops[i]? = some o) (hw : Region.wanted o (yielded ops a.tmps) = true) (x : Operand) (hop : o.op = .assign x) (v : Value) (hx : a.eval x = v) (hK : K (a.put o.dst v) w) : wpOp P ops Q i K a w :=
  wpOp_value ho hw (v := v) (w' := w) (by simp only [execOp, hop, hx]; rfl) hK
theorem wpOp_pick (ho : ops[i]? = some o) (hw : Region.wanted o (yielded ops a.tmps) = true) (c x y : Operand) (hop : o.op = .pick c x y) (b : Bool) (hc : a.eval c = .bool b) (v : Value) (hv : (if b then a.eval x else a.eval y) = v) (hK : K (a.put o.dst v) w) : wpOp P ops Q i K a w :=
  wpOp_value ho hw (v := v) (w' := w) (by simp only [execOp, hop, hc, ← hv]; rfl) hK
theorem wpOp_convert (ho : ops[i]? = some o) (hw : Region.wanted o (yielded ops a.tmps) = true) (src dst : TypeId) (x : Operand) (hop : o.op = .convert src dst x) (u v : Value) (hx : a.eval x = u) (hr : (convert src dst u).run P w = .ok v w') (hK : K (a.put o.dst v) w') : wpOp P ops Q i K a w :=
  wpOp_value ho hw (v := v) (w' := w') (by simp only [execOp, hop, hx, Sem.run_bind, hr]; rfl) hK
theorem wpOp_build (ho : ops[i]? = some o) (hw : Region.wanted o (yielded ops a.tmps) = true) (t : TypeId) (n : Nat) (ps : Array (Nat × Operand)) (hop : o.op = .buildSlice t n ps) (us : Array (Nat × Value)) (hu : (ps.map fun (k, x) => (k, a.eval x)) = us) (v : Value) (hr : (Instr.buildSlice t n us).run P w = .ok v w') (hK : K (a.put o.dst v) w') : wpOp P ops Q i K a w :=
  wpOp_value ho hw (v := v) (w' := w') (by simp only [execOp, hop, hu, Sem.run_bind, hr]; rfl) hK
theorem wpOp_bin (ho : ops[i]? = some o) (hw : Region.wanted o (yielded ops a.tmps) = true) (op : BinOp) (t t' : TypeId) (x y : Operand) (hop : o.op = .binOp op t x y t') (u u' v : Value) (hx : a.eval x = u) (hy : a.eval y = u')
    (hr : (do eqGuard op t x y u u'; binOp op t u u' : Sem Value).run P w = .ok v w) (hK : K (a.put o.dst v) w) : wpOp P ops Q i K a w :=
  wpOp_value ho hw (v := v) (w' := w) (by
    have := congrArg (fun r : Result Value => r.andThen fun x w'' => (Sem.run P (pure (Next.value x) : Sem Next) w'')) hr
    simp only [execOp, hop, hx, hy]
    rw [Sem.run_bind]
    exact this) hK
theorem wpOp_index (ho : ops[i]? = some o) (hw : Region.wanted o (yielded ops a.tmps) = true) (t : TypeId) (x y : Operand) (hop : o.op = .indexAddr t x y) (u u' v : Value) (hx : a.eval x = u) (hy : a.eval y = u') (hr : (Instr.indexAt t u u').run P w = .ok v w) (hK : K (a.put o.dst v) w) : wpOp P ops Q i K a w :=
  wpOp_value ho hw (v := v) (w' := w) (by simp only [execOp, hop, hx, hy, Sem.run_bind, hr]; rfl) hK
theorem wpOp_load (ho : ops[i]? = some o) (hw : Region.wanted o (yielded ops a.tmps) = true) (t : TypeId) (x : Operand) (hop : o.op = .load t x) (u v : Value) (hx : a.eval x = u) (hr : (Instr.loadAt t u).run P w = .ok v w) (hK : K (a.put o.dst v) w) : wpOp P ops Q i K a w :=
  wpOp_value ho hw (v := v) (w' := w) (by simp only [execOp, hop, hx, Sem.run_bind, hr]; rfl) hK
theorem wpOp_unary (ho : ops[i]? = some o) (hw : Region.wanted o (yielded ops a.tmps) = true) (op : UnOp) (t : TypeId) (x : Operand) (hop : o.op = .unOp op t x) (u v : Value) (hx : a.eval x = u) (hr : (Op.unary op u).run P w = .ok v w) (hK : K (a.put o.dst v) w) : wpOp P ops Q i K a w :=
  wpOp_value ho hw (v := v) (w' := w) (by simp only [execOp, hop, hx, Sem.run_bind, hr]; rfl) hK
theorem wpOp_slice (ho : ops[i]? = some o) (hw : Region.wanted o (yielded ops a.tmps) = true) (t : TypeId) (x : Operand) (lo hi mx : Option Operand) (hop : o.op = .slice t x lo hi mx) (u v : Value) (lo' hi' mx' : Option Value) (hx : a.eval x = u) (h1 : lo.map a.eval = lo') (h2 : hi.map a.eval = hi') (h3 : mx.map a.eval = mx')
    (hr : (Instr.sliceAt t u lo' hi' mx').run P w = .ok v w) (hK : K (a.put o.dst v) w) : wpOp P ops Q i K a w :=
  wpOp_value ho hw (v := v) (w' := w) (by simp only [execOp, hop, hx, h1, h2, h3, Sem.run_bind, hr]; rfl) hK
theorem wpOp_len (ho : ops[i]? = some o) (hw : Region.wanted o (yielded ops a.tmps) = true) (x : Operand) (t : TypeId) (hop : o.op = .call { callee := .builtin .len, args := #[x], argTypes := #[t] }) (e : TypeId) (ht : P.underlying t = some (.slice e)) (A : Option Addr) (n c : Nat) (hx : a.eval x = .slice A n c) (hK : K (a.put o.dst (.int .i64 n)) w) : wpOp P ops Q i K a w :=
  wpOp_value ho hw (v := .int .i64 n) (w' := w) (by
    unfold execOp
    simp only [hop, resolve, invoke, builtin, Sem.run_bind, Sem.run_pure, Result.andThen_ok, List.map_toArray, List.map_cons, List.map_nil, hx]
    simp [Builtin.len_, run_underlying ht, goInt]) hK
theorem wpOp_call0 (ho : ops[i]? = some o) (hw : Region.wanted o (yielded ops a.tmps) = true) (f : FuncId) (ts : Array TypeId) (hop : o.op = .call { callee := .value (.func f), args := #[], argTypes := ts })
    {R : Ending → World → Prop} (hcf : (callFunc f #[]).run P w = .ok (.enter f #[]) w) (hc : Calls P f #[] w R) (hK : ∀ e w', R e w' → ∃ v, e = .returned v ∧ K (a.put o.dst v) w') : wpOp P ops Q i K a w :=
  wpOp_call ho hw f #[] (by
    unfold execOp
    simp only [hop, resolve, Act.eval, Deferred.ofValue, invoke, Sem.run_bind, Sem.run_pure, Result.andThen_ok, List.map_toArray, List.map_nil, Array.append_empty]
    exact hcf) hc hK
theorem wpOp_call1 (ho : ops[i]? = some o) (hw : Region.wanted o (yielded ops a.tmps) = true) (f : FuncId) (x : Operand) (ts : Array TypeId) (hop : o.op = .call { callee := .value (.func f), args := #[x], argTypes := ts }) (u : Value) (hx : a.eval x = u)
    {R : Ending → World → Prop} (hcf : (callFunc f #[u]).run P w = .ok (.enter f #[u]) w) (hc : Calls P f #[u] w R) (hK : ∀ e w', R e w' → ∃ v, e = .returned v ∧ K (a.put o.dst v) w') : wpOp P ops Q i K a w :=
  wpOp_call ho hw f #[u] (by
    subst hx
    unfold execOp
    simp only [hop, resolve, Act.eval, Deferred.ofValue, invoke, Sem.run_bind, Sem.run_pure, Result.andThen_ok, List.map_toArray, List.map_cons, List.map_nil, Array.append_empty]
    exact hcf) hc hK
theorem wpOp_call2 (ho : ops[i]? = some o) (hw : Region.wanted o (yielded ops a.tmps) = true) (f : FuncId) (x y : Operand) (ts : Array TypeId) (hop : o.op = .call { callee := .value (.func f), args := #[x, y], argTypes := ts }) (u u' : Value) (hx : a.eval x = u) (hy : a.eval y = u')
    {R : Ending → World → Prop} (hcf : (callFunc f #[u, u']).run P w = .ok (.enter f #[u, u']) w) (hc : Calls P f #[u, u'] w R) (hK : ∀ e w', R e w' → ∃ v, e = .returned v ∧ K (a.put o.dst v) w') : wpOp P ops Q i K a w :=
  wpOp_call ho hw f #[u, u'] (by
    subst hx
    subst hy
    unfold execOp
    simp only [hop, resolve, Act.eval, Deferred.ofValue, invoke, Sem.run_bind, Sem.run_pure, Result.andThen_ok, List.map_toArray, List.map_cons, List.map_nil, Array.append_empty]
    exact hcf) hc hK
/-- 'append' of whatever reads as bytes onto a slice of the call's own. -/
theorem wpOp_append (ho : ops[i]? = some o) (hw : Region.wanted o (yielded ops a.tmps) = true) (s x : Operand) (t : TypeId) (hop : o.op = .call { callee := .builtin .append, args := #[s, x], argTypes := #[t, t] })
    (base : Nat) (e : TypeId) (inf : TypeInfo) (ht : P.underlying t = some (.slice e)) (hi : P.info? e = some inf) (hz : inf.zero = some (.int .u8 0)) (hz1 : inf.size = 1) (hz2 : inf.bytes = 1)
    (v : Value) (xs : List Int) (hs : a.eval s = v) (hown : Owns w base e v xs) (A : Option Addr) (m c : Nat) (l : List Int) (hx : a.eval x = .slice A m c) (h : Holds w A m c l)
    (hlim : xs.length + m ≤ 140737488355328) (hbase : base ≤ w.heap.size)
    (hK : ∀ v' w', Owns w' base e v' (xs ++ l) → w.grownBy w' v.ownBlock → (v'.ownBlock = v.ownBlock ∨ v'.ownBlock = some w.heap.size) → K (a.put o.dst v') w') : wpOp P ops Q i K a w :=
  wpOp_step ho fun K' hK' => by
    rw [if_pos hw]
    exact wp_append_bytes s x t hop base e inf ht hi hz hz1 hz2 v xs hs hown A m c l hx h hlim hbase fun v' w' h1 h2 h3 => hK' _ _ (hK v' w' h1 h2 h3)
end
end

/-- Every cell that was there holds what it held. -/
structure Keeps (w w' : World) : Prop where
  size : w.heap.size ≤ w'.heap.size
  cell : ∀ a v, w.cell? a = some v → w'.cell? a = some v
theorem Keeps.refl (w : World) : Keeps w w := ⟨Nat.le_refl _, fun _ _ h => h⟩
theorem below_keeps {w w' : World} (hb : Below w.heap.size w w') : Keeps w w' := ⟨hb.size, fun _ _ h => cell_later hb h⟩
theorem Holds.keeps {w w' : World} {A : Option Addr} {n c : Nat} {l : List Int} (h : Holds w A n c l) (hk : Keeps w w') : Holds w' A n c l :=
  ⟨h.len, h.byt, h.cap, h.room, h.bare, fun hn => by
    obtain ⟨b, off, e, hc⟩ := h.cell hn
    exact ⟨b, off, e, fun j hj => hk.cell _ _ (hc j hj)⟩⟩

/-- The mark that '[]byte("..")' lays behind its row changes no cell. -/
theorem cell_freeze (w : World) (p a : Addr) (k : Nat) : (w.freeze p k).cell? a = w.cell? a := by
  unfold World.freeze
  split
  · rfl
  · simp only [World.cell?, Array.getElem?_modify]
    by_cases h : p.block = a.block
    · rw [if_pos h]
      cases hb : w.heap[a.block]? with
      | none => rfl
      | some o => cases o <;> rfl
    · rw [if_neg h]
theorem keeps_freeze (w : World) (p : Addr) (k : Nat) : Keeps w (w.freeze p k) := by
  refine ⟨?_, fun a v h => by rw [cell_freeze]; exact h⟩
  unfold World.freeze
  split
  · exact Nat.le_refl _
  · simp
theorem below_freezes {B : Nat} {a w : World} (h : Below B a w) {p : Addr} (hp : B ≤ p.block) (n : Nat) : Below B a (w.freeze p n) := by
  refine h.trans ⟨?_, ?_, ?_, (keeps_freeze w p n).size, fun k hk => ?_⟩
  · unfold World.freeze; split <;> rfl
  · unfold World.freeze; split <;> rfl
  · unfold World.freeze; split <;> rfl
  · unfold World.freeze
    split
    · rfl
    · simp only [Array.getElem?_modify]
      rw [if_neg (by omega)]
theorem run_mark (P : Program) (w : World) (t e : TypeId) (g n c : Nat) (ht : P.underlying t = some (.slice e)) (he : P.underlying e = some (.int .u8)) :
    ∃ w', (convert t t (.slice (some ⟨g, 0, Option.none⟩) n c)).run P w = .ok (.slice (some ⟨g, 0, Option.none⟩) n c) w' ∧ Keeps w w' ∧ ∀ B a, Below B a w → B ≤ g → Below B a w' := by
  cases hs : w.shape? g with
  | none => exact ⟨w, by simp [convert, run_underlying ht, run_underlying he, markStringish, hs], Keeps.refl w, fun _ _ h _ => h⟩
  | some p => exact ⟨w.freeze ⟨g, p.2, Option.none⟩ 1, by simp [convert, run_underlying ht, run_underlying he, markStringish, hs], keeps_freeze _ _ _, fun _ _ h hB => below_freezes h hB 1⟩

/-- A slot holds a slice that reads as l. -/
def BB (l : List Int) (v : Value) (w : World) : Prop := ∃ A c, v = .slice A l.length c ∧ Holds w A l.length c l
theorem BB.later {l : List Int} {v : Value} {w w' : World} (h : BB l v w) (hb : Below w.heap.size w w') : BB l v w' := by
  obtain ⟨A, c, rfl, hA⟩ := h
  exact ⟨A, c, rfl, hA.later hb⟩

theorem BB.keeps {l : List Int} {v : Value} {w w' : World} (h : BB l v w) (hk : Keeps w w') : BB l v w' := by
  obtain ⟨A, c, rfl, hA⟩ := h
  exact ⟨A, c, rfl, hA.keeps hk⟩

/-- The block of the own slice v is not the one in which u's bytes lie. -/
def Apart (v u : Value) : Prop := ∀ g b off n c, v.ownBlock = some g → u = .slice (some ⟨b, off, Option.none⟩) n c → 0 < n → b ≠ g

theorem Holds.grown {w w' : World} {A : Option Addr} {n c : Nat} {l : List Int} {v : Value} (h : Holds w A n c l) (hg : w.grownBy w' v.ownBlock) (ha : Apart v (.slice A n c)) : Holds w' A n c l :=
  ⟨h.len, h.byt, h.cap, h.room, h.bare, fun hn => by
    obtain ⟨b, off, rfl, hc⟩ := h.cell hn
    refine ⟨b, off, rfl, fun j hj => ?_⟩
    have hlt := World.block_lt_of_cell? w _ (hc 0 hn)
    rw [← hc j hj]
    exact World.cell?_of_block (hg.block b hlt (fun e => ha b b off n c e.symm rfl hn rfl))⟩

theorem BB.grown {l : List Int} {v u : Value} {w w' : World} (h : BB l u w) (hg : w.grownBy w' v.ownBlock) (ha : Apart v u) : BB l u w' := by
  obtain ⟨A, c, rfl, hA⟩ := h
  exact ⟨A, c, rfl, hA.grown hg ha⟩

theorem Holds.block {w : World} {b off n c : Nat} {l : List Int} (h : Holds w (some ⟨b, off, Option.none⟩) n c l) (hn : 0 < n) : b < w.heap.size := by
  obtain ⟨b', off', e, hc⟩ := h.cell hn
  injection e with e
  injection e with e1 e2
  subst e1
  exact World.block_lt_of_cell? w _ (hc 0 hn)

theorem BB.block {w : World} {l : List Int} {u : Value} (h : BB l u w) {b off n c : Nat} (hu : u = .slice (some ⟨b, off, Option.none⟩) n c) (hn : 0 < n) : b < w.heap.size := by
  obtain ⟨A, cc, rfl, hA⟩ := h
  injection hu with h1 h2 h3
  subst h1
  subst h2
  exact hA.block hn

/-! ### The invariant that most regions want: each operation's slot holds what its fact says; all other slots are as they were; memory has at most grown -/

/-- The slots of the operations: no slot twice, all within the frame. -/
def slotsGood (N : Nat) (ds : List Nat) : Bool := decide ds.Nodup && ds.all fun t => decide (t < N)

def slotAt (ds : List Nat) (j : Nat) : Nat := ds[j]?.getD 0

theorem slotAt_mem {ds : List Nat} {j : Nat} (h : j < ds.length) : slotAt ds j ∈ ds := by
  unfold slotAt
  rw [List.getElem?_eq_getElem h]
  exact List.getElem_mem h

theorem slotAt_lt {N : Nat} {ds : List Nat} (hg : slotsGood N ds = true) {j : Nat} (h : j < ds.length) : slotAt ds j < N := by
  unfold slotsGood at hg
  simp only [Bool.and_eq_true, List.all_eq_true, decide_eq_true_eq] at hg
  exact hg.2 _ (slotAt_mem h)

theorem slotAt_ne {N : Nat} {ds : List Nat} (hg : slotsGood N ds = true) {i j : Nat} (hi : i < ds.length) (hj : j < ds.length) (hne : j ≠ i) : slotAt ds j ≠ slotAt ds i := by
  unfold slotsGood at hg
  simp only [Bool.and_eq_true, decide_eq_true_eq] at hg
  unfold slotAt
  rw [List.getElem?_eq_getElem hi, List.getElem?_eq_getElem hj]
  simp only [Option.getD_some]
  intro e
  exact hne ((List.getElem_inj hg.1).1 e)

structure RInv (N : Nat) (ds : List Nat) (a0 : Act) (F : Nat → Value → World → Prop) (w0 : World) (X : (Nat → Prop) → Act → World → Prop) (D : Nat → Prop) (a : Act) (w : World) : Prop where
  size : a.tmps.size = N
  defs : a.defers = a0.defers
  few : ∀ j, D j → j < ds.length
  same : ∀ t, t ∉ ds → a.eval (.tmp t) = a0.eval (.tmp t)
  fact : ∀ j, D j → F j (a.eval (.tmp (slotAt ds j))) w
  more : X D a w
  below : Below w0.heap.size w0 w

section
variable {N : Nat} {ds : List Nat} {a0 : Act} {F : Nat → Value → World → Prop} {w0 : World} {X : (Nat → Prop) → Act → World → Prop} {D : Nat → Prop} {a : Act} {w w' : World}

theorem RInv.start (hs : a0.tmps.size = N) (hX : X (fun _ => False) a0 w) (hb : Below w0.heap.size w0 w) : RInv N ds a0 F w0 X (fun _ => False) a0 w :=
  ⟨hs, rfl, fun _ h => h.elim, fun _ _ => rfl, fun _ h => h.elim, hX, hb⟩

theorem RInv.put {i : Nat} {v : Value} (hg : slotsGood N ds = true) (hI : RInv N ds a0 F w0 X D a w) (hi : i < ds.length)
    (hF : ∀ j, D j → j ≠ i → F j (a.eval (.tmp (slotAt ds j))) w → F j (a.eval (.tmp (slotAt ds j))) w') (hv : F i v w')
    (hX : X (fun j => D j ∨ j = i) (a.put (some (slotAt ds i)) v) w') (hb : Below w0.heap.size w0 w') : RInv N ds a0 F w0 X (fun j => D j ∨ j = i) (a.put (some (slotAt ds i)) v) w' := by
  refine ⟨by rw [size_put, hI.size], by rw [defers_put, hI.defs], fun j hj => hj.elim (hI.few j) (fun e => e ▸ hi), fun t ht => ?_, fun j hj => ?_, hX, hb⟩
  · rw [eval_put_other _ _ (fun e => ht (by rw [e]; exact slotAt_mem hi)), hI.same t ht]
  · by_cases hji : j = i
    · subst hji
      rw [eval_put_same _ _ _ (by rw [hI.size]; exact slotAt_lt hg hi)]
      exact hv
    · have hj' : D j := hj.resolve_right hji
      rw [eval_put_other _ _ (slotAt_ne hg hi (hI.few j hj') hji)]
      exact hF j hj' hji (hI.fact j hj')

/-- No more is asked. -/
def NoMore (_ : Nat → Prop) (_ : Act) (_ : World) : Prop := True

/-- The facts outlive whatever leaves the cells that were there. -/
def Outlives (F : Nat → Value → World → Prop) : Prop := ∀ j v w w', F j v w → Keeps w w' → F j v w'

theorem RInv.addK {i : Nat} {v : Value} (hI : RInv N ds a0 F w0 NoMore D a w) (hg : slotsGood N ds = true) (hl : Outlives F) (hi : i < ds.length) (hk : Keeps w w') (hb : Below w0.heap.size w0 w') (hv : F i v w') :
    RInv N ds a0 F w0 NoMore (fun j => D j ∨ j = i) (a.put (some (slotAt ds i)) v) w' :=
  hI.put hg hi (fun j _ _ h => hl j _ _ _ h hk) hv trivial hb

theorem RInv.add {i : Nat} {v : Value} (hI : RInv N ds a0 F w0 NoMore D a w) (hg : slotsGood N ds = true) (hl : Outlives F) (hi : i < ds.length) (hb : Below w.heap.size w w') (hv : F i v w') :
    RInv N ds a0 F w0 NoMore (fun j => D j ∨ j = i) (a.put (some (slotAt ds i)) v) w' :=
  hI.put hg hi (fun j _ _ h => hl j _ _ _ h (below_keeps hb)) hv trivial (hI.below.trans (hb.mono hI.below.size))

/-- The frame with the slots ds laid anew. -/
def putAll (a0 : Act) : List Nat → List Value → Act
  | d :: ds, u :: us => (putAll a0 ds us).put (some d) u
  | _, _ => a0

theorem putAll_size (a0 : Act) : ∀ (ds : List Nat) (us : List Value), (putAll a0 ds us).tmps.size = a0.tmps.size
  | d :: ds, u :: us => by rw [putAll, size_put, putAll_size a0 ds us]
  | [], _ => rfl
  | _ :: _, [] => rfl
theorem putAll_defers (a0 : Act) : ∀ (ds : List Nat) (us : List Value), (putAll a0 ds us).defers = a0.defers
  | d :: ds, u :: us => by rw [putAll, defers_put, putAll_defers a0 ds us]
  | [], _ => rfl
  | _ :: _, [] => rfl
theorem putAll_other (a0 : Act) : ∀ (ds : List Nat) (us : List Value) (t : Nat), t ∉ ds → (putAll a0 ds us).eval (.tmp t) = a0.eval (.tmp t)
  | d :: ds, u :: us, t, h => by
    rw [putAll, eval_put_other _ _ (fun e => h (by simp [e])), putAll_other a0 ds us t (fun e => h (by simp [e]))]
  | [], _, _, _ => rfl
  | _ :: _, [], _, _ => rfl
theorem putAll_at (a0 : Act) (f : Nat → Value) : ∀ (ds : List Nat), ds.Nodup → (∀ t ∈ ds, t < a0.tmps.size) → ∀ t ∈ ds, (putAll a0 ds (ds.map f)).eval (.tmp t) = f t
  | d :: ds, hn, hs, t, ht => by
    rw [List.map_cons, putAll]
    by_cases e : t = d
    · subst e
      rw [eval_put_same _ _ _ (by rw [putAll_size]; exact hs t (by simp))]
    · rw [eval_put_other _ _ e]
      have hn' := List.nodup_cons.1 hn
      exact putAll_at a0 f ds hn'.2 (fun x hx => hs x (by simp [hx])) t ((List.mem_cons.1 ht).resolve_left e)

theorem act_ext {a b : Act} (h1 : a.tmps.size = b.tmps.size) (h2 : a.defers = b.defers) (h3 : ∀ t, t < a.tmps.size → a.eval (.tmp t) = b.eval (.tmp t)) : a = b := by
  obtain ⟨x, xd⟩ := a
  obtain ⟨y, yd⟩ := b
  simp only at h1 h2 h3
  subst h2
  have : x = y := by
    apply Array.ext h1
    intro t ht ht'
    have := h3 t ht
    simpa [Act.eval, Array.getD, ht, ht'] using this
  rw [this]

/-- Behind the region: the frame written out, and each slot's fact. -/
theorem RInv.done (hI : RInv N ds a0 F w0 X D a w) (hg : slotsGood N ds = true) (hs : a0.tmps.size = N) (hall : ∀ i, i < ds.length → D i) :
    ∃ f : Nat → Value, a = putAll a0 ds (ds.map f) ∧ ∀ j, j < ds.length → F j (f (slotAt ds j)) w := by
  refine ⟨fun t => a.eval (.tmp t), ?_, fun j hj => hI.fact j (hall j hj)⟩
  unfold slotsGood at hg
  simp only [Bool.and_eq_true, List.all_eq_true, decide_eq_true_eq] at hg
  refine act_ext (by rw [putAll_size, hI.size, hs]) (by rw [putAll_defers, hI.defs]) fun t _ => ?_
  by_cases ht : t ∈ ds
  · rw [putAll_at a0 _ ds hg.1 (fun x hx => by rw [hs]; exact hg.2 x hx) t ht]
  · rw [putAll_other a0 ds _ t ht, hI.same t ht]
end
end Go.Proofs.Ytlmchoonokglaaa
