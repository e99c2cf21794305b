/-
  Strings put into a list at a place, in a new list: what the slots of 'append(append(append([]string{}, a[:k]...), t), a[k:]...)' hold, whatever the order of evaluation. Conditions: those that each theorem states.
-/
import Derived.Test.YtalnjlodldhfbaaGreatDoorSafeUnsafe
import Derived.Test.YtalnjlodldhfbaaGreatDoorLow
namespace Go.Proofs.YtalnjlodldhfbaaGreatDoor
open Go.RowKit Go.Lib Go.Shelf

theorem run_frontS (w : World) (A : Option Addr) (n c k : Nat) (h : k ≤ n) (hc : n ≤ c) : (Instr.sliceAt 31 (.slice A n c) Option.none (some (.int .i64 (k : Int))) Option.none).run Tryz.prog w = .ok (.slice A k c) w := by
  have f3 : (0 : Int) ≤ (k : Int) := by omega
  have f5 : (k : Int) ≤ (c : Int) := by omega
  go_simp
theorem run_backS (w : World) (A : Option Addr) (n c k : Nat) (h : k ≤ n) (hc : n ≤ c) : (Instr.sliceAt 31 (.slice A n c) (some (.int .i64 (k : Int))) Option.none Option.none).run Tryz.prog w = .ok (.slice (if c = k then A else A.map (·.add k)) (n - k) (c - k)) w := by
  have f3 : (0 : Int) ≤ (k : Int) := by omega
  have f4 : (k : Int) ≤ (n : Int) := by omega
  have f5 : (n : Int) ≤ (c : Int) := by omega
  go_simp
theorem run_build0 (w : World) : (Instr.buildSlice 31 0 #[]).run Tryz.prog w = .ok (.slice (some ⟨w.heap.size, 0, Option.none⟩) 0 0) (w.alloc (.cells #[] 9)) := by go_simp

theorem Strs.backAny {w : World} {A : Option Addr} {n c : Nat} {l : List ByteArray} (h : Strs w A n c l) {k : Nat} (hk : k ≤ n) : Strs w (if c = k then A else A.map (·.add k)) (n - k) (c - k) (l.drop k) := by
  have hcap := h.cap
  have hroom := h.room
  by_cases hp : 0 < n - k
  · obtain ⟨b, off, rfl, hlt, hc⟩ := h.cell (by omega)
    rw [if_neg (by omega)]
    refine ⟨by rw [List.length_drop, h.len], by omega, by omega, (fun e => by cases e), fun _ => ⟨b, off + k, by simp [addr_add], hlt, fun j hj => ?_⟩⟩
    rw [List.length_drop] at hj
    rw [Nat.add_assoc, hc (k + j) (by omega), List.getElem_drop]
  · refine ⟨by rw [List.length_drop, h.len], by omega, by omega, fun e => ?_, fun hq => absurd hq hp⟩
    by_cases hc : c = k
    · omega
    · rw [if_neg hc] at e
      have : A = Option.none := by cases A with | none => rfl | some a => cases e
      have := h.bare this
      omega

section
variable {P : Program} {w : World}
/-- 'append' of whatever reads as strings onto a slice of the call's own. -/
theorem run_append_strs (base : Nat) (t ty : TypeId) (i : TypeInfo) (ht : P.underlying t = some (.slice 9)) (hi : P.info? 9 = some i) (hz : i.zero = some (.string ByteArray.empty)) (hs : i.size = 1) (hb : i.bytes = 16)
    {v : Value} {xs : List ByteArray} (hown : OwnsS w base v xs) {A : Option Addr} {m c : Nat} {l : List ByteArray} (h : Strs w A m c l) (hlim : xs.length + m ≤ 1000000000) (hbase : base ≤ w.heap.size) :
    ∃ v' w', (Builtin.append_ #[t, t] ty #[v, .slice A m c]).run P w = .ok v' w' ∧ OwnsS w' base v' (xs ++ l) ∧ w.grownBy w' v.ownBlock ∧ (v'.ownBlock = v.ownBlock ∨ v'.ownBlock = some w.heap.size) := by
  have hl := h.len
  subst hl
  cases A with
  | none =>
    have hc := h.bare rfl
    subst hc
    have h0 : l.length = 0 := by have := h.cap; omega
    have hl : l = [] := List.eq_nil_of_length_eq_zero h0
    subst hl
    exact ⟨v, w, run_append_owned_none (P := P) w base t ty _ i 1 ht hi v _ _ hown, by simpa using hown, World.grownBy.refl w _, .inl rfl⟩
  | some ad =>
    have hcs : ∀ j u, (l.map Value.string)[j]? = some u → w.cell? (ad.add j) = some u := by
      intro j u hu
      have hj : j < l.length := by
        have := (List.getElem?_eq_some_iff.1 hu).1
        simpa using this
      obtain ⟨b, off, e1, _, hc⟩ := h.cell (by omega)
      injection e1 with e1
      subst e1
      rw [addr_add, hc j hj]
      rw [List.getElem?_map, List.getElem?_eq_getElem hj] at hu
      exact hu
    have h63 : xs.length + l.length ≤ maxLen := by simp only [maxLen]; omega
    obtain ⟨v', w', hrun, h2, h3, _, h5⟩ := run_append_own_at (P := P) w base t ty _ i _ 1 16 ht hi hz hs hb rfl (by omega) v _ _ hown ad l.length c (l.map Value.string) (by simp) hcs (fun u hu => by obtain ⟨x, _, rfl⟩ := List.mem_map.1 hu; rfl) h63 (by omega) hbase
    refine ⟨v', w', hrun, ?_, h3, h5⟩
    unfold OwnsS
    rw [List.length_append, List.map_append]
    exact h2
theorem wpOp_append_strs {ops : Array Oper} {Q : Exit → Act → World → Prop} {i : Nat} {o : Oper} {a : Act} {K : Act → World → Prop} (ho : ops[i]? = some o) (hw : Region.wanted o (yielded ops a.tmps) = true) (s x : Operand) (t : TypeId) (hop : o.op = .call { callee := .builtin .append, args := #[s, x], argTypes := #[t, t] })
    (base : Nat) (inf : TypeInfo) (ht : P.underlying t = some (.slice 9)) (hi : P.info? 9 = some inf) (hz : inf.zero = some (.string ByteArray.empty)) (hz1 : inf.size = 1) (hz2 : inf.bytes = 16)
    (v : Value) (xs : List ByteArray) (hs : a.eval s = v) (hown : OwnsS w base v xs) (A : Option Addr) (m c : Nat) (l : List ByteArray) (hx : a.eval x = .slice A m c) (h : Strs w A m c l)
    (hlim : xs.length + m ≤ 1000000000) (hbase : base ≤ w.heap.size)
    (hK : ∀ v' w', OwnsS w' base v' (xs ++ l) → w.grownBy w' v.ownBlock → (v'.ownBlock = v.ownBlock ∨ v'.ownBlock = some w.heap.size) → K (a.put o.dst v') w') : wpOp P ops Q i K a w := by
  obtain ⟨v', w', hrun, h2, h3, h4⟩ := run_append_strs (P := P) base t o.type inf ht hi hz hz1 hz2 hown h hlim hbase
  exact wpOp_value ho hw (v := v') (w' := w') (by
    unfold execOp
    simp only [hop, resolve, invoke, builtin, Sem.run_bind, Sem.run_pure, Result.andThen_ok, List.map_toArray, List.map_cons, List.map_nil, hs, hx, hrun]) (hK v' w' h2 h3 h4)
end

/-- The own slice v does not lie where the new slice u lies. -/
def Apt (v u : Value) : Prop := ∀ g n c, u = .slice (some ⟨g, 0, Option.none⟩) n c → v.ownBlock ≠ some g

/-- What the appends have made so far (from block B on), in the slots s0, s4, s7, s11; slot s6 holds the new slice of t. -/
structure PutX (s0 s4 s6 s7 s11 B : Nat) (t : ByteArray) (l1 l2 : List ByteArray) (D : Nat → Prop) (a : Act) (w : World) : Prop where
  six : D 6 → ¬ D 7 → ∃ g, a.eval (.tmp s6) = .slice (some ⟨g, 0, Option.none⟩) 1 1 ∧ g < w.heap.size ∧ w.cell? ⟨g, 0, Option.none⟩ = some (.string t)
  c0 : D 0 → ¬ D 4 → OwnsS w B (a.eval (.tmp s0)) [] ∧ (D 6 → Apt (a.eval (.tmp s0)) (a.eval (.tmp s6)))
  c4 : D 4 → ¬ D 7 → OwnsS w B (a.eval (.tmp s4)) l1 ∧ (D 6 → Apt (a.eval (.tmp s4)) (a.eval (.tmp s6)))
  c7 : D 7 → ¬ D 11 → OwnsS w B (a.eval (.tmp s7)) (l1 ++ [t])
  c11 : D 11 → OwnsS w B (a.eval (.tmp s11)) (l1 ++ [t] ++ l2)

section
variable {s0 s4 s6 s7 s11 B : Nat} {t : ByteArray} {l1 l2 : List ByteArray} {D : Nat → Prop} {a : Act} {w w' : World}

theorem PutX.pure (h : PutX s0 s4 s6 s7 s11 B t l1 l2 D a w) {i d : Nat} (hi : [0, 4, 6, 7, 11].contains i = false) (hd : [s0, s4, s6, s7, s11].contains d = false) (v : Value) : PutX s0 s4 s6 s7 s11 B t l1 l2 (fun j => D j ∨ j = i) (a.put (some d) v) w := by
  simp at hi hd
  obtain ⟨i0, i4, i6, i7, i11⟩ := hi
  obtain ⟨d0, d4, d6, d7, d11⟩ := hd
  have e : ∀ j, j ≠ i → ((D j ∨ j = i) ↔ D j) := fun j hj => ⟨fun h => h.resolve_right hj, .inl⟩
  refine ⟨?_, ?_, ?_, ?_, ?_⟩
  all_goals simp only [e 0 (Ne.symm i0), e 4 (Ne.symm i4), e 6 (Ne.symm i6), e 7 (Ne.symm i7), e 11 (Ne.symm i11), eval_put_other _ _ (Ne.symm d0), eval_put_other _ _ (Ne.symm d4), eval_put_other _ _ (Ne.symm d6), eval_put_other _ _ (Ne.symm d7), eval_put_other _ _ (Ne.symm d11)]
  · exact h.six
  · exact h.c0
  · exact h.c4
  · exact h.c7
  · exact h.c11

theorem OwnsS.lt {v : Value} {l : List ByteArray} (h : OwnsS w B v l) {k : Nat} (hk : v.ownBlock = some k) : B ≤ k ∧ k < w.heap.size := World.ownsRow.lt h k hk

/-- The first operation: the new empty list. -/
theorem PutX.op0 (h : PutX s0 s4 s6 s7 s11 B t l1 l2 D a w) (hB : B ≤ w.heap.size) (hs : s0 < a.tmps.size) (h06 : s6 ≠ s0) (n4 : ¬ D 4) (n7 : ¬ D 7) (n11 : ¬ D 11) :
    PutX s0 s4 s6 s7 s11 B t l1 l2 (fun j => D j ∨ j = 0) (a.put (some s0) (.slice (some ⟨w.heap.size, 0, Option.none⟩) 0 0)) (w.alloc (.cells #[] 9)) := by
  have six : D 6 → ∃ g, a.eval (.tmp s6) = .slice (some ⟨g, 0, Option.none⟩) 1 1 ∧ g < w.heap.size ∧ w.cell? ⟨g, 0, Option.none⟩ = some (.string t) := fun h6 => h.six h6 n7
  refine ⟨fun h6 _ => ?_, fun _ _ => ⟨?_, fun h6 => ?_⟩, fun h4 => ?_, fun h7 => ?_, fun h11 => ?_⟩
  · rw [eval_put_other _ _ h06]
    obtain ⟨g, e, hg, hc⟩ := six (h6.resolve_right (by omega))
    exact ⟨g, e, by simp; omega, cell_later (below_box w _) hc⟩
  · rw [eval_put_same _ _ _ hs]
    exact World.ownsRow_made (base := B) (e := 9) (size := 1) w #[] 0 hB (Nat.zero_le _) rfl
  · rw [eval_put_same _ _ _ hs, eval_put_other _ _ h06]
    obtain ⟨g, e, hg, _⟩ := six (h6.resolve_right (by omega))
    intro g' n c e' hk
    rw [e] at e'
    injection e' with e'
    injection e' with e'
    injection e' with e'
    simp [Value.ownBlock] at hk
    omega
  · exact absurd (h4.resolve_right (by omega)) n4
  · exact absurd (h7.resolve_right (by omega)) n7
  · exact absurd (h11.resolve_right (by omega)) n11

/-- The new list of one. -/
theorem PutX.op6 (h : PutX s0 s4 s6 s7 s11 B t l1 l2 D a w) (hs : s6 < a.tmps.size) (h06 : s0 ≠ s6) (h46 : s4 ≠ s6) (n7 : ¬ D 7) (n11 : ¬ D 11) :
    PutX s0 s4 s6 s7 s11 B t l1 l2 (fun j => D j ∨ j = 6) (a.put (some s6) (.slice (some ⟨w.heap.size, 0, Option.none⟩) 1 1)) (w.alloc (.cells #[.string t] 9)) := by
  have apt : ∀ v l, OwnsS w B v l → Apt v (.slice (some ⟨w.heap.size, 0, Option.none⟩) 1 1) := by
    intro v l ho g n c e hk
    injection e with e
    injection e with e
    injection e with e
    have := (ho.lt hk).2
    omega
  refine ⟨fun _ _ => ?_, fun h0 h4 => ?_, fun h4 _ => ?_, fun h7 => ?_, fun h11 => ?_⟩
  · rw [eval_put_same _ _ _ hs]
    exact ⟨_, rfl, by simp, by rw [cell_of_row _ w.heap.size 0 _ 9 (0, 0) (heap_alloc_new w _)]; rfl⟩
  · rw [eval_put_same _ _ _ hs, eval_put_other _ _ h06]
    have := (h.c0 (h0.resolve_right (by omega)) (fun c => h4 (.inl c))).1
    exact ⟨this.alloc _, fun _ => apt _ _ this⟩
  · rw [eval_put_same _ _ _ hs, eval_put_other _ _ h46]
    have := (h.c4 (h4.resolve_right (by omega)) n7).1
    exact ⟨this.alloc _, fun _ => apt _ _ this⟩
  · exact absurd (h7.resolve_right (by omega)) n7
  · exact absurd (h11.resolve_right (by omega)) n11

/-- The first append. -/
theorem PutX.op4 (h : PutX s0 s4 s6 s7 s11 B t l1 l2 D a w) (hs : s4 < a.tmps.size) (h64 : s6 ≠ s4) (d0 : D 0) (n4 : ¬ D 4) (n7 : ¬ D 7) (n11 : ¬ D 11) {v' : Value}
    (ho : OwnsS w' B v' l1) (hg : w.grownBy w' (a.eval (.tmp s0)).ownBlock) (hat : v'.ownBlock = (a.eval (.tmp s0)).ownBlock ∨ v'.ownBlock = some w.heap.size) :
    PutX s0 s4 s6 s7 s11 B t l1 l2 (fun j => D j ∨ j = 4) (a.put (some s4) v') w' := by
  refine ⟨fun h6 _ => ?_, fun _ h4 => absurd (.inr rfl) h4, fun _ _ => ⟨?_, fun h6 => ?_⟩, fun h7 => ?_, fun h11 => ?_⟩
  · rw [eval_put_other _ _ h64]
    have h6' := h6.resolve_right (by omega)
    obtain ⟨g, e, hlt, hc⟩ := h.six h6' n7
    have hap := (h.c0 d0 n4).2 h6' g 1 1 e
    refine ⟨g, e, Nat.lt_of_lt_of_le hlt hg.size, ?_⟩
    rw [← hc]
    exact World.cell?_of_block (hg.block g hlt (fun e => hap e.symm))
  · rw [eval_put_same _ _ _ hs]
    exact ho
  · rw [eval_put_same _ _ _ hs, eval_put_other _ _ h64]
    have h6' := h6.resolve_right (by omega)
    obtain ⟨g0, e0, hlt, _⟩ := h.six h6' n7
    intro g n c e hk
    rcases hat with hat | hat
    · exact (h.c0 d0 n4).2 h6' g n c e (by rw [← hat]; exact hk)
    · rw [hat] at hk
      rw [e0] at e
      injection e with e
      injection e with e
      injection e with e
      injection hk with hk
      omega
  · exact absurd (h7.resolve_right (by omega)) n7
  · exact absurd (h11.resolve_right (by omega)) n11

/-- The second append. -/
theorem PutX.op7 (hs : s7 < a.tmps.size) (d4 : D 4) (n11 : ¬ D 11) {v' : Value} (ho : OwnsS w' B v' (l1 ++ [t])) :
    PutX s0 s4 s6 s7 s11 B t l1 l2 (fun j => D j ∨ j = 7) (a.put (some s7) v') w' := by
  refine ⟨fun _ h7 => absurd (.inr rfl) h7, fun _ h4 => absurd (.inl d4) h4, fun _ h7 => absurd (.inr rfl) h7, fun _ _ => ?_, fun h11 => ?_⟩
  · rw [eval_put_same _ _ _ hs]
    exact ho
  · exact absurd (h11.resolve_right (by omega)) n11

/-- The third append. -/
theorem PutX.op11 (hs : s11 < a.tmps.size) (d4 : D 4) (d7 : D 7) {v' : Value} (ho : OwnsS w' B v' (l1 ++ [t] ++ l2)) :
    PutX s0 s4 s6 s7 s11 B t l1 l2 (fun j => D j ∨ j = 11) (a.put (some s11) v') w' := by
  refine ⟨fun _ h7 => absurd (.inl d7) h7, fun _ h4 => absurd (.inl d4) h4, fun _ h7 => absurd (.inl d7) h7, fun _ h11 => absurd (.inr rfl) h11, fun _ => ?_⟩
  rw [eval_put_same _ _ _ hs]
  exact ho
end
end Go.Proofs.YtalnjlodldhfbaaGreatDoor
