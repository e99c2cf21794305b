/-
  A region whose order is open, but whose last operations come in the order of the text and behind all others ('x = append(x, f(y)...)'): the invariant rule for the first operations, a plain walk for the last. Both outside and inside a round of a loop over a function. Conditions: those that each theorem states.
-/
import Derived.Test.YtkjnpdnihfohoaaRound
namespace Go.Proofs.Ytkjnpdnihfohoaa
open Go.RowKit Leb

section
variable {P : Program} {ops : Array Oper} {Q : Exit → Act → World → Prop}

/-- What operation number i waits for, through whatever comes between (and i itself). -/
def reach (ops : Array Oper) : Nat → Nat → List Nat
  | 0, i => [i]
  | f + 1, i => i :: (predsAt ops i).flatMap (reach ops f)

theorem reach_done {D : Nat → Prop} (hcl : ∀ j, D j → ∀ k, (predsAt ops j).contains k = true → D k) : ∀ (f i : Nat), D i → ∀ j ∈ reach ops f i, D j
  | 0, i, hi, j, hj => by simp [reach] at hj; exact hj ▸ hi
  | f + 1, i, hi, j, hj => by
    simp only [reach, List.mem_cons, List.mem_flatMap] at hj
    rcases hj with rfl | ⟨k, hk, hj⟩
    · exact hi
    · exact reach_done hcl f k (hcl i hi k (by simpa using hk)) j hj

/-- From number m on each operation waits for all before it. -/
def chained (ops : Array Oper) (f m : Nat) : Bool := (List.range ops.size).all fun i => decide (i < m) || (List.range i).all fun j => (reach ops f i).contains j

theorem chained_spec {f m : Nat} (h : chained ops f m = true) {i : Nat} (hi : i < ops.size) (hm : m ≤ i) {j : Nat} (hj : j < i) : j ∈ reach ops f i := by
  unfold chained at h
  rw [List.all_eq_true] at h
  have := h i (List.mem_range.2 hi)
  rw [Bool.or_eq_true, List.all_eq_true] at this
  rcases this with h1 | h1
  · simp at h1; omega
  · simpa using h1 j (List.mem_range.2 hj)

theorem wpAny_tail (m f : Nat) (hm : m ≤ ops.size) (hch : chained ops f m = true) (I : (Nat → Prop) → Act → World → Prop) (hac : forwards ops = true)
    (step : ∀ i, i < m → ∀ D a w, I D a w → (∀ j, D j → ∀ k, (predsAt ops j).contains k = true → D k) → ¬ D i → (∀ k, (predsAt ops i).contains k = true → D k) → wpOp P ops Q i (fun a' w' => I (fun j => D j ∨ j = i) a' w') a w)
    (fin : ∀ D a w, I D a w → (∀ i, i < m → D i) → wpOps P ops Q (List.range' m (ops.size - m)) a w) {a : Act} {w : World} (h0 : I (fun _ => False) a w) :
    wpAny P .any ops Q ops.size (Array.replicate ops.size false) a w := by
  have tail : ∀ k, k < ops.size → List.range' k (ops.size - k) = k :: List.range' (k + 1) (ops.size - (k + 1)) := by
    intro k hk
    rw [show ops.size - k = (ops.size - (k + 1)) + 1 by omega, List.range'_succ]
  refine wpAny_inv (fun D a w => (∀ j, D j → j < ops.size ∧ ∀ k, (predsAt ops j).contains k = true → D k) ∧
      (((∀ i, m ≤ i → ¬ D i) ∧ I D a w) ∨ ∃ k, m ≤ k ∧ k ≤ ops.size ∧ (∀ i, D i ↔ i < k) ∧ wpOps P ops Q (List.range' k (ops.size - k)) a w)) hac ?_ ?_ _ _ _ _ (by simp) ?_ ?_
  · rintro D a w i o ⟨hcl, halt⟩ ho hnd hpre
    have hlt := (Array.getElem?_eq_some_iff.1 ho).1
    have hp : ∀ k, (predsAt ops i).contains k = true → D k := by
      intro k hk
      unfold predsAt at hk
      rw [ho] at hk
      exact hpre k (by simpa using hk)
    have hcl2 : ∀ j, D j → ∀ k, (predsAt ops j).contains k = true → D k := fun j hj => (hcl j hj).2
    have hcl' : ∀ j, (D j ∨ j = i) → j < ops.size ∧ ∀ k, (predsAt ops j).contains k = true → (D k ∨ k = i) := by
      rintro j (hj | rfl)
      · exact ⟨(hcl j hj).1, fun k hk => .inl ((hcl j hj).2 k hk)⟩
      · exact ⟨hlt, fun k hk => .inl (hp k hk)⟩
    have hbelow : m ≤ i → ∀ j, j < i → D j := by
      intro hmi j hj
      have := reach_done (D := fun x => D x ∨ x = i) (fun x hx k hk => (hcl' x hx).2 k hk) f i (.inr rfl) j (chained_spec hch hlt hmi hj)
      exact this.resolve_right (by omega)
    rcases halt with ⟨hno, hI⟩ | ⟨k, hmk, hk, hD, hops⟩
    · by_cases him : i < m
      · refine wpOp_mono (fun a' w' h => ⟨hcl', .inl ⟨fun j hj hd => ?_, h⟩⟩) (step i him D a w hI hcl2 hnd hp)
        rcases hd with hd | rfl
        · exact hno j hj hd
        · omega
      · have hmi : m ≤ i := by omega
        have him' : i = m := by
          rcases Nat.lt_or_ge m i with h | h
          · exact absurd (hbelow hmi m h) (hno m (Nat.le_refl _))
          · omega
        subst him'
        have hf := fin D a w hI (hbelow hmi)
        rw [tail i hlt, wpOps_cons] at hf
        refine wpOp_mono (fun a' w' h => ⟨hcl', .inr ⟨i + 1, by omega, by omega, fun j => ⟨fun hj => ?_, fun hj => ?_⟩, h⟩⟩) hf
        · rcases hj with hj | rfl
          · rcases Nat.lt_or_ge j i with h | h
            · omega
            · exact absurd hj (hno j h)
          · omega
        · rcases Nat.lt_or_ge j i with h | h
          · exact .inl (hbelow hmi j h)
          · exact .inr (by omega)
    · have hik : i = k := by
        have h1 : ¬ i < k := fun h => hnd ((hD i).2 h)
        rcases Nat.lt_or_ge k i with h | h
        · exact absurd ((hD k).1 (hbelow (by omega) k h)) (by omega)
        · omega
      subst hik
      rw [tail i hlt, wpOps_cons] at hops
      refine wpOp_mono (fun a' w' h => ⟨hcl', .inr ⟨i + 1, by omega, by omega, fun j => ⟨fun hj => ?_, fun hj => ?_⟩, h⟩⟩) hops
      · rcases hj with hj | rfl
        · have := (hD j).1 hj; omega
        · omega
      · rcases Nat.lt_or_ge j i with h | h
        · exact .inl ((hD j).2 h)
        · exact .inr (by omega)
  · rintro D a w ⟨hcl, ⟨hno, hI⟩ | ⟨k, hmk, hk, hD, hops⟩⟩ hall
    · have hms : m = ops.size := by
        rcases Nat.lt_or_ge m ops.size with h | h
        · exact absurd (hall m h) (hno m (Nat.le_refl _))
        · omega
      have := fin D a w hI (fun i hi => hall i (by omega))
      rw [← hms, Nat.sub_self] at this
      exact this
    · have hks : k = ops.size := by
        rcases Nat.lt_or_ge k ops.size with h | h
        · exact absurd ((hD k).1 (hall k h)) (by omega)
        · omega
      subst hks
      rw [Nat.sub_self] at hops
      exact hops
  · rw [show (Array.replicate ops.size false).toList = List.replicate ops.size false by simp, List.countP_replicate]
    simp
  · have e : (fun j => (Array.replicate ops.size false).getD j false = true) = (fun _ => False) := by
      funext j
      apply propext
      simp only [iff_false]
      rw [Array.getD]
      split <;> simp
    rw [e]
    exact ⟨fun j hj => hj.elim, .inl ⟨fun _ _ h => h, h0⟩⟩

/-- The rule, outside a round. -/
theorem wp_region_tail {id : Nat} {a : Act} {w : World} (m f : Nat) (hm : m ≤ ops.size) (hch : chained ops f m = true) (I : (Nat → Prop) → Act → World → Prop) (hmx : P.follows .mixedOrders = true) (hac : forwards ops = true)
    (h0 : I (fun _ => False) a w.drew)
    (step : ∀ i, i < m → ∀ D a w, I D a w → (∀ j, D j → ∀ k, (predsAt ops j).contains k = true → D k) → ¬ D i → (∀ k, (predsAt ops i).contains k = true → D k) → wpOp P ops Q i (fun a' w' => I (fun j => D j ∨ j = i) a' w') a w)
    (fin : ∀ D a w, I D a w → (∀ i, i < m → D i) → wpOps P ops Q (List.range' m (ops.size - m)) a w) : (Code.region id ops true).wp P Q a w :=
  wp_region_any hmx (wpAny_tail m f hm hch I hac step fin h0)

/-- The rule, inside a round. -/
theorem wpIn_region_tail {n l id : Nat} {a : Act} {w : World} (hQ : ¬ LetsOut Q) (hd : noDefers ops = true) (m f : Nat) (hm : m ≤ ops.size) (hch : chained ops f m = true) (I : (Nat → Prop) → Act → World → Prop) (hmx : P.follows .mixedOrders = true) (hac : forwards ops = true)
    (h0 : I (fun _ => False) a w.drew)
    (step : ∀ i, i < m → ∀ D a w, I D a w → (∀ j, D j → ∀ k, (predsAt ops j).contains k = true → D k) → ¬ D i → (∀ k, (predsAt ops i).contains k = true → D k) → wpOp P ops Q i (fun a' w' => I (fun j => D j ∨ j = i) a' w') a w)
    (fin : ∀ D a w, I D a w → (∀ i, i < m → D i) → wpOps P ops Q (List.range' m (ops.size - m)) a w) : (Code.region id ops true).wpIn (Fence.wide.inRound l) n P Q a w :=
  wpIn_region_any hmx (wpAny_round hQ hd _ _ _ _ (wpAny_tail m f hm hch I hac step fin h0))

/-- A store. -/
theorem wpOp_store {i : Nat} {o : Oper} {a : Act} {w w' : World} {K : Act → World → Prop} (ho : ops[i]? = some o) (hw : Region.wanted o (yielded ops a.tmps) = true) (t : TypeId) (x y : Operand) (hop : o.op = .store t x y) (u v : Value) (hx : a.eval x = u) (hy : a.eval y = v)
    (hr : (Instr.storeAt t u v).run P w = .ok () w') (hK : K (a.put o.dst undef) w') : wpOp P ops Q i K a w :=
  wpOp_step ho fun K' hK' => by
    rw [if_pos hw]
    unfold Oper.wp
    have e : (execOp a.eval o).run P w = .ok .skip w' := by simp only [execOp, hop, hx, hy, Sem.run_bind, hr]; rfl
    rw [e]
    exact hK' _ _ hK
end
end Go.Proofs.Ytkjnpdnihfohoaa
