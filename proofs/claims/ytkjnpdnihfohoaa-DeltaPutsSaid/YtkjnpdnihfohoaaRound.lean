/-
  Inside a round of a loop over a function: what holds of an operation, of a list of operations or of a region by the plain rules holds there too, where nothing is deferred. Conditions: those that each theorem states.
-/
import Derived.Test.YtkjnpdnihfohoaaLow
import Derived.RangeFuncNested
import Derived.RangeFuncBound
import Derived.RangeFuncCalls
import Derived.RangeFuncLeaves
import Derived.RangeFuncBox
import Derived.Shelf.Abstract
import Derived.OrdersIn
import Derived.Laws.Rows
import Derived.TacticsIn
import Derived.OwnWalkIn
import Derived.TacticsInMore
import Derived.LoopNIn
import Derived.LoopIn
namespace Go.Proofs.Ytkjnpdnihfohoaa
open Go.RowKit Leb

section
variable {P : Program} {ops : Array Oper} {Q : Exit → Act → World → Prop} {n l : Nat}

theorem rows_round {row : String} {args : Array Value} {w : World} {R : Value → World → Prop} (h : Rows P row args w R) : RowsIn (Fence.wide.inRound l) n P row args w R := by
  intro c cs _
  obtain ⟨v, w', r, s⟩ := h c cs
  exact ⟨v, w', r, stepsIn_wide.2 s⟩

theorem wp_round {o : Oper} {a : Act} {w : World} {K : Act → World → Prop} (hd : ∀ c, o.op ≠ .defer c) (h : o.wp P a w K Q) : o.wpIn (Fence.wide.inRound l) n P a w K Q := by
  unfold Oper.wpIn
  refine ⟨fun _ _ => trivial, ?_⟩
  rw [Oper.semAt_eq _ _ _ hd]
  unfold Oper.wp at h
  generalize (execOp a.eval o).run P w = r at *
  cases r with
  | ok x w' =>
    cases x with
    | value v => exact h
    | skip => exact h
    | defer d => exact h
    | enter f args => exact ⟨(fun e => by cases e), CallsIn.inRound l (callsIn_wide.2 h)⟩
    | row r args => exact ⟨(fun e => by cases e), rows_round h⟩
    | round => exact h.elim
    | _ => exact h.elim
  | halt x w' => cases x <;> first | exact h | exact h.elim

theorem wp_wide {o : Oper} {a : Act} {w : World} {K : Act → World → Prop} (h : o.wp P a w K Q) : o.wpIn Fence.wide n P a w K Q := by
  unfold Oper.wpIn
  refine ⟨fun _ _ => trivial, ?_⟩
  have e : o.semAt Fence.wide.round a.eval = execOp a.eval o := rfl
  rw [e]
  unfold Oper.wp at h
  generalize (execOp a.eval o).run P w = r at *
  cases r with
  | ok x w' =>
    cases x with
    | value v => exact h
    | skip => exact h
    | defer d => exact h
    | enter f args => exact ⟨(fun e => by cases e), callsIn_wide.2 h⟩
    | row r args => exact ⟨(fun e => by cases e), rows_round (l := 0) h⟩
    | round => exact h.elim
    | _ => exact h.elim
  | halt x w' => cases x <;> first | exact h | exact h.elim

/-- A whole block is loaded, outside and inside a round. -/
theorem wpListIn_row_wide {rest : List Oper} {o : Oper} {a : Act} {w : World} (hgd : o.guard = Option.none) (ty : TypeId) (x : Operand) (ho : o.op = .load ty x)
    (g : Nat) (hx : a.eval x = .pointer (some ⟨g, 0, Option.none⟩)) (t : TypeId) (cs : Array Value) (fr : Nat × Nat) (d : TypeDesc) (hg : w.heap[g]? = some (.cells cs t fr))
    (hu : P.underlying ty = some d) (hd : (match d with | .struct _ | .array _ _ => true | _ => false) = true) (hi : (P.info? ty).map (·.size) = some cs.size)
    (h : wpListIn Fence.wide n P ops Q rest (a.put o.dst (.agg cs)) w) : wpListIn Fence.wide n P ops Q (o :: rest) a w :=
  wpListIn_plain hgd fun _ hK => wp_wide (wp_load_row ty x ho g hx t cs fr d hg hu hd hi (hK _ _ h))

/-- No operation defers a call. -/
def noDefers (ops : Array Oper) : Bool := ops.toList.all fun o => match o.op with | .defer _ => false | _ => true

theorem noDefers_spec (h : noDefers ops = true) {o : Oper} (ho : o ∈ ops.toList) : ∀ c, o.op ≠ .defer c := by
  intro c hc
  unfold noDefers at h
  rw [List.all_eq_true] at h
  have := h o ho
  rw [hc] at this
  cases this

theorem wpOp_round {i : Nat} {K : Act → World → Prop} {a : Act} {w : World} (hQ : ¬ LetsOut Q) (hd : noDefers ops = true) (h : wpOp P ops Q i K a w) : wpOpIn (Fence.wide.inRound l) n P ops Q i K a w := by
  unfold wpOp at h
  unfold wpOpIn
  cases ho : ops[i]? with
  | none => rw [ho] at h; exact h
  | some o =>
    rw [ho] at h
    simp only at h ⊢
    have hm : o ∈ ops.toList := by
      obtain ⟨hi, e⟩ := Array.getElem?_eq_some_iff.1 ho
      rw [← e]
      simp
    by_cases hw : Region.wanted o (yielded ops a.tmps) = true
    · rw [if_pos hw] at h ⊢
      exact wp_round (noDefers_spec hd hm) (h.resolve_right fun h => hQ h.2)
    · rw [if_neg hw] at h ⊢
      exact ⟨fun _ _ => trivial, h⟩

theorem wpAny_round {md : Region.Mode} (hQ : ¬ LetsOut Q) (hd : noDefers ops = true) : ∀ (fuel : Nat) (listed : Array Bool) (a : Act) (w : World), wpAny P md ops Q fuel listed a w → wpAnyIn (Fence.wide.inRound l) n P md ops Q fuel listed a w
  | 0, _, _, _, h => h
  | fuel + 1, _, _, _, h => ⟨h.1, fun i hi => wpOp_round hQ hd (wpOp_mono (fun a w => wpAny_round hQ hd fuel _ a w) (h.2 i hi))⟩

/-- The rule for a region whose order is open, inside a round. -/
theorem wpIn_region_each {id : Nat} {a : Act} {w : World} (hQ : ¬ LetsOut Q) (hd : noDefers ops = true) (I : (Nat → Prop) → Act → World → Prop) (hm : P.follows .mixedOrders = true) (hac : forwards ops = true)
    (h0 : I (fun _ => False) a w.drew)
    (step : ∀ i, i < ops.size → ∀ D a w, I D a w → (∀ j, D j → ∀ k, (predsAt ops j).contains k = true → D k) → ¬ D i → (∀ k, (predsAt ops i).contains k = true → D k) → wpOp P ops Q i (fun a' w' => I (fun j => D j ∨ j = i) a' w') a w)
    (fin : ∀ D a w, I D a w → (∀ i, i < ops.size → D i) → Q .normal a w) : (Code.region id ops true).wpIn (Fence.wide.inRound l) n P Q a w := by
  refine wpIn_region_any hm (wpAny_round hQ hd _ _ _ _ ?_)
  refine wpAny_inv (fun D a w => I D a w ∧ ∀ j, D j → ∀ k, (predsAt ops j).contains k = true → D k) hac ?_ (fun D a w h hall => fin D a w h.1 hall) _ _ _ _ (by simp) ?_ ?_
  · intro D a w i o ⟨hI, hcl⟩ ho hnd hpre
    have hlt := (Array.getElem?_eq_some_iff.1 ho).1
    have hp : ∀ k, (predsAt ops i).contains k = true → D k := by
      intro k hk
      unfold predsAt at hk
      rw [ho] at hk
      exact hpre k (by simpa using hk)
    refine wpOp_mono (fun a' w' h => ⟨h, fun j hj k hk => ?_⟩) (step i hlt D a w hI hcl hnd hp)
    rcases hj with hj | rfl
    · exact .inl (hcl j hj k hk)
    · exact .inl (hp k hk)
  · rw [show (Array.replicate ops.size false).toList = List.replicate ops.size false by simp, List.countP_replicate]
    simp
  · have e : (fun j => (Array.replicate ops.size false).getD j false = true) = (fun _ => False) := by
      funext j
      apply propext
      simp only [iff_false]
      rw [Array.getD]
      split <;> simp
    rw [e]
    exact ⟨h0, fun j hj => hj.elim⟩

/-- A list of operations, by the plain rules. -/
theorem wpList_round (hQ : ¬ LetsOut Q) (hd : noDefers ops = true) : ∀ (rest : List Oper) (a : Act) (w : World), (∀ o ∈ rest, o ∈ ops.toList) → wpList P ops Q rest a w → wpListIn (Fence.wide.inRound l) n P ops Q rest a w
  | [], _, _, _, h => h
  | o :: rest, a, w, hm, h => by
    unfold wpList at h
    unfold wpListIn
    by_cases hw : Region.wanted o (yielded ops a.tmps) = true
    · rw [if_pos hw] at h ⊢
      exact wp_round (noDefers_spec hd (hm o (by simp))) (Oper.wp_mono (fun a w => wpList_round hQ hd rest a w (fun x hx => hm x (by simp [hx]))) (h.resolve_right fun h => hQ h.2))
    · rw [if_neg hw] at h ⊢
      exact ⟨fun _ _ => trivial, wpList_round hQ hd rest _ w (fun x hx => hm x (by simp [hx])) h⟩

/-- A region in the order of the text, by the plain rules. -/
theorem wpIn_region_plain {id : Nat} {a : Act} {w : World} {k : List Oper} (hQ : ¬ LetsOut Q) (hd : noDefers k.toArray = true) (h : wpList P k.toArray Q k a w) : (Code.region id k.toArray false).wpIn (Fence.wide.inRound l) n P Q a w :=
  wpIn_region_lit (wpList_round hQ hd k a w (fun _ h => by simpa using h) h)

/-- 'append' of whatever reads as bytes onto a slice of the call's own, inside a round. -/
theorem wpListIn_append_bytes {rest : List Oper} {o : Oper} {a : Act} {w : World} (hgd : o.guard = Option.none) (s x : Operand) (t : TypeId)
    (ho : o.op = .call { callee := .builtin .append, args := #[s, x], argTypes := #[t, t] })
    (base : Nat) (e : TypeId) (i : TypeInfo) (ht : P.underlying t = some (.slice e)) (hi : P.info? e = some i) (hz : i.zero = some (.int .u8 0)) (hz1 : i.size = 1) (hz2 : i.bytes = 1)
    (v : Value) (xs : List Int) (hs : a.eval s = v) (hown : Owns w base e v xs) (A : Option Addr) (m c : Nat) (ys : List Int) (hx : a.eval x = .slice A m c) (h : Holds w A m c ys)
    (hlim : xs.length + m ≤ 140737488355328) (hbase : base ≤ w.heap.size)
    (hK : ∀ v' w', Owns w' base e v' (xs ++ ys) → w.grownBy w' v.ownBlock → (v'.ownBlock = v.ownBlock ∨ v'.ownBlock = some w.heap.size) → wpListIn (Fence.wide.inRound l) n P ops Q rest (a.put o.dst v') w') : wpListIn (Fence.wide.inRound l) n P ops Q (o :: rest) a w :=
  wpListIn_plain hgd fun _ hK' => wp_round (fun c hc => by rw [ho] at hc; cases hc) (wp_append_bytes s x t ho base e i ht hi hz hz1 hz2 v xs hs hown A m c ys hx h hlim hbase fun v' w' h2 h3 h4 => hK' _ _ (hK v' w' h2 h3 h4))
end
end Go.Proofs.Ytkjnpdnihfohoaa
