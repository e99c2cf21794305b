/-
  A list while it is thinned out. Conditions: those that each theorem states.
-/
import Derived.Test.YthojnhdnflakiaaMemoRow
namespace Go.Proofs.Ythojnhdnflakiaa
open Go.RowKit Go.Lib Go.Shelf

/-- What is asked of a predicate on the entries of l, whatever becomes of the block of the slice v. -/
def PredsO (l : List Ent) (p : Ent → Bool) (g : Nat) (lb : Array Value) (v : Value) (w : World) : Prop :=
  ∀ W y, y ∈ l → w.grownBy W v.ownBlock → Calls Try.prog g (#[evalue y] ++ lb) W fun e w' => e = .returned (.bool (p y)) ∧ Below W.heap.size W w'
theorem PredsO.preds {l : List Ent} {p : Ent → Bool} {g : Nat} {lb : Array Value} {v : Value} {w : World} (h : PredsO l p g lb v w) : Preds l p g lb w := fun W y hy hb => h W y hy (below_grows hb _)

/-- The list while it is thinned out: ahead of i what stays of what stood ahead of j; from j on all as it was. -/
structure Thin (q : Ent → Bool) (l L : List Ent) (n i j : Nat) : Prop where
  len : L.length = n
  lt : i < j
  le : j ≤ n
  low : L.take i = (l.take j).filter q
  high : L.drop j = l.drop j
theorem Thin.at {q : Ent → Bool} {l L : List Ent} {n i j : Nat} (h : Thin q l L n i j) (hl : l.length = n) (hj : j < n) : L[j]'(by rw [h.len]; exact hj) = l[j]'(by rw [hl]; exact hj) := by
  have e := congrArg (fun x => x[0]?) h.high
  simp only [List.getElem?_drop, Nat.add_zero] at e
  rw [List.getElem?_eq_getElem (by rw [h.len]; exact hj), List.getElem?_eq_getElem (by rw [hl]; exact hj)] at e
  injection e
theorem Thin.skip {q : Ent → Bool} {l L : List Ent} {n i j : Nat} (h : Thin q l L n i j) (hl : l.length = n) (hj : j < n) (hq : q (l[j]'(by rw [hl]; exact hj)) = false) : Thin q l L n i (j + 1) :=
  ⟨h.len, by have := h.lt; omega, hj, by rw [filter_step (by rw [hl]; exact hj), hq, h.low]; simp, by
    have := congrArg (List.drop 1) h.high
    rwa [List.drop_drop, List.drop_drop] at this⟩
theorem Thin.keep {q : Ent → Bool} {l L : List Ent} {n i j : Nat} (h : Thin q l L n i j) (hl : l.length = n) (hj : j < n) (hq : q (l[j]'(by rw [hl]; exact hj)) = true) : Thin q l (L.set i (l[j]'(by rw [hl]; exact hj))) n (i + 1) (j + 1) := by
  have hij := h.lt
  have hiL : i < L.length := by rw [h.len]; omega
  refine ⟨by rw [List.length_set, h.len], by omega, hj, ?_, ?_⟩
  · rw [filter_step (by rw [hl]; exact hj), hq, ← h.low]
    have e := List.set_eq_take_append_cons_drop (l := L) (i := i) (a := l[j]'(by rw [hl]; exact hj))
    rw [if_pos hiL] at e
    rw [e, List.take_append, List.take_take, Nat.min_eq_right (by omega), List.length_take, Nat.min_eq_left (by omega)]
    have e1 : i + 1 - i = 1 := by omega
    rw [e1]
    simp
  · rw [List.drop_set_of_lt (by omega)]
    have := congrArg (List.drop 1) h.high
    rwa [List.drop_drop, List.drop_drop] at this
theorem thin_start {p : Ent → Bool} {l : List Ent} {n k : Nat} (hl : l.length = n) (hk : k < n) (hp : p (l[k]'(by rw [hl]; exact hk)) = true) (hb : ∀ j (hj : j < k), p (l[j]'(by rw [hl]; omega)) = false) : Thin (fun y => !p y) l l n k (k + 1) :=
  ⟨hl, by omega, hk, by
    rw [filter_step (by rw [hl]; exact hk), hp]
    simp only [Bool.not_true, Bool.false_eq_true, if_false, List.append_nil]
    rw [List.filter_eq_self.2]
    intro y hy
    obtain ⟨j, hj, rfl⟩ := List.mem_iff_getElem.1 hy
    rw [List.length_take] at hj
    rw [List.getElem_take, hb j (by omega)]
    rfl, rfl⟩
theorem Thin.done {q : Ent → Bool} {l L : List Ent} {n i : Nat} (h : Thin q l L n i n) (hl : l.length = n) : L.take i = l.filter q := by
  rw [h.low, List.take_of_length_le (by omega)]

end Go.Proofs.Ythojnhdnflakiaa
