/-
  Single operations of layer 20's texts. Conditions: those that each theorem states.
-/
import Derived.Test.YtkjnpdnihfohoaaHeadPut
namespace Go.Proofs.Ytkjnpdnihfohoaa
open Go.RowKit Go.Lib Go.Shelf

section
variable {P : Program} {ops : Array Oper} {Q : Exit → Act → World → Prop} {i : Nat} {o : Oper} {a : Act} {w : World} {K : Act → World → Prop}
theorem wpOp_agg (ho : ops[i]? = some o) (hw : Region.wanted o (yielded ops a.tmps) = true) (t : TypeId) (ps : Array (Nat × Operand)) (hop : o.op = .build t ps) (us : Array (Nat × Value)) (hu : (ps.map fun (k, x) => (k, a.eval x)) = us) (v : Value) (hr : (Instr.build t us).run P w = .ok v w) (hK : K (a.put o.dst v) w) : wpOp P ops Q i K a w :=
  wpOp_value ho hw (v := v) (w' := w) (by simp only [execOp, hop, hu, Sem.run_bind, hr]; rfl) hK
/-- append of headers onto a slice of the call's own. -/
theorem wpOp_append_hds (ho : ops[i]? = some o) (hw : Region.wanted o (yielded ops a.tmps) = true) (s x : Operand) (t : TypeId) (hop : o.op = .call { callee := .builtin .append, args := #[s, x], argTypes := #[t, t] })
    (base : Nat) (inf : TypeInfo) (ht : P.underlying t = some (.slice 44)) (hi : P.info? 44 = some inf) (hz : inf.zero = some (.agg #[.string ByteArray.empty, .string ByteArray.empty])) (hz1 : inf.size = 2) (hz2 : inf.bytes = 32)
    (v : Value) (xs : List Hd) (hs : a.eval s = v) (hown : OwnsH w base v xs) (A : Option Addr) (m c : Nat) (l : List Hd) (hx : a.eval x = .slice A m c) (h : Hds w A m c l)
    (hlim : xs.length + m ≤ 1000000) (hbase : base ≤ w.heap.size)
    (hK : ∀ v' w', OwnsH w' base v' (xs ++ l) → w.grownBy w' v.ownBlock → K (a.put o.dst v') w') : wpOp P ops Q i K a w :=
  wpOp_step ho fun K' hK' => by
    rw [if_pos hw]
    obtain ⟨v', w', hrun, h2, h3⟩ := run_append_hds (P := P) base t o.type inf ht hi hz hz1 hz2 hown h hlim hbase
    unfold Oper.wp execOp
    simp only [hop, resolve, invoke, builtin, Sem.run_bind, Sem.run_pure, Result.andThen_ok, List.map_toArray, List.map_cons, List.map_nil, hs, hx, hrun]
    exact hK' _ _ (hK v' w' h2 h3)
end
section
variable {P : Program} {w : World}
/-- append of headers onto a slice of the call's own, and where the new slice lies. -/
theorem run_append_hds_at (base : Nat) (t ty : TypeId) (i : TypeInfo) (ht : P.underlying t = some (.slice 44)) (hi : P.info? 44 = some i) (hz : i.zero = some (.agg #[.string ByteArray.empty, .string ByteArray.empty])) (hs : i.size = 2) (hb : i.bytes = 32)
    {v : Value} {xs : List Hd} (hown : OwnsH w base v xs) {A : Option Addr} {m c : Nat} {l : List Hd} (h : Hds w A m c l) (hlim : xs.length + m ≤ 1000000) (hbase : base ≤ w.heap.size) :
    ∃ v' w', (Builtin.append_ #[t, t] ty #[v, .slice A m c]).run P w = .ok v' w' ∧ OwnsH w' base v' (xs ++ l) ∧ w.grownBy w' v.ownBlock ∧ (v'.ownBlock = v.ownBlock ∨ v'.ownBlock = some w.heap.size) := by
  have hl := h.len
  subst hl
  cases A with
  | none =>
    have hc := h.bare rfl
    subst hc
    have h0 : l.length = 0 := by have := h.cap; omega
    have hl : l = [] := List.eq_nil_of_length_eq_zero h0
    subst hl
    exact ⟨v, w, run_append_owned_none (P := P) w base t ty _ i 2 ht hi v _ _ hown, by simpa using hown, World.grownBy.refl w _, .inl rfl⟩
  | some ad =>
    have hcs : ∀ j u, (hcells l)[j]? = some u → w.cell? (ad.add j) = some u := by
      intro j u hu
      have hj : j < l.length * 2 := by
        have := (List.getElem?_eq_some_iff.1 hu).1
        rwa [hcells_len] at this
      obtain ⟨b, off, e1, _, hc⟩ := h.cell (by omega)
      injection e1 with e1
      subst e1
      rw [addr_add, hc j hj, hu]
    have h63 : xs.length + l.length ≤ maxLen := by simp only [maxLen]; omega
    obtain ⟨v', w', hrun, h2, h3, _, h5⟩ := run_append_own_at (P := P) w base t ty _ i _ 2 32 ht hi hz hs hb rfl (by omega) v _ _ hown ad l.length c (hcells l) (hcells_len l) hcs (hcells_one l) h63 (by omega) hbase
    refine ⟨v', w', hrun, ?_, h3, h5⟩
    unfold OwnsH
    rw [List.length_append, hcells_append]
    exact h2
theorem wpList_append_hds_at {ops : Array Oper} {rest : List Oper} {o : Oper} {a : Act} {Q : Exit → Act → World → Prop} (hgd : o.guard = Option.none) (s x : Operand) (t : TypeId)
    (ho : o.op = .call { callee := .builtin .append, args := #[s, x], argTypes := #[t, t] })
    (base : Nat) (i : TypeInfo) (ht : P.underlying t = some (.slice 44)) (hi : P.info? 44 = some i) (hz : i.zero = some (.agg #[.string ByteArray.empty, .string ByteArray.empty])) (hz1 : i.size = 2) (hz2 : i.bytes = 32)
    (v : Value) (xs : List Hd) (hs : a.eval s = v) (hown : OwnsH w base v xs) (A : Option Addr) (m c : Nat) (l : List Hd) (hx : a.eval x = .slice A m c) (h : Hds w A m c l)
    (hlim : xs.length + m ≤ 1000000) (hbase : base ≤ w.heap.size)
    (hK : ∀ v' w', OwnsH w' base v' (xs ++ l) → w.grownBy w' v.ownBlock → (v'.ownBlock = v.ownBlock ∨ v'.ownBlock = some w.heap.size) → wpList P ops Q rest (a.put o.dst v') w') : wpList P ops Q (o :: rest) a w :=
  wpList_plain hgd fun _ hK' => by
    obtain ⟨v', w', hrun, h2, h3, h4⟩ := run_append_hds_at (P := P) base t o.type i ht hi hz hz1 hz2 hown h hlim hbase
    unfold Oper.wp execOp
    simp only [ho, resolve, invoke, builtin, Sem.run_bind, Sem.run_pure, Result.andThen_ok, List.map_toArray, List.map_cons, List.map_nil, hs, hx, hrun]
    exact hK' _ _ (hK v' w' h2 h3 h4)
end
theorem hds_one (W : World) (g : Nat) (x y : ByteArray) (hg : g = W.heap.size) : Hds (W.alloc (.cells #[.string x, .string y] 44)) (some ⟨g, 0, Option.none⟩) 1 1 [(x, y)] := by
  subst hg
  exact hds_new W _ [(x, y)] rfl (by simp [maxLen])
set_option maxRecDepth 100000 in
theorem run_aggH (w : World) (x y : ByteArray) : (Instr.build 44 #[(0, .string x), (1, .string y)]).run Try.prog w = .ok (.agg #[.string x, .string y]) w := by go_simp
end Go.Proofs.Ytkjnpdnihfohoaa
