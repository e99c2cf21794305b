/-
  Of one thing there is one entry in a memo. Conditions: those that each theorem states.
-/
import Derived.Test.YthojnhdnflakiaaMemoRM
namespace Go.Proofs.Ythojnhdnflakiaa
open Go.Lib

/-- No two entries have one key. -/
def Uniq (l : List Ent) : Prop := l.Pairwise fun a b => sameKey a b = false
theorem sameKey_symm (a b : Ent) : sameKey a b = sameKey b a := by
  have e : ∀ {α : Type} [BEq α] [LawfulBEq α] (x y : α), (x == y) = (y == x) := fun x y => by
    rw [Bool.eq_iff_iff, beq_iff_eq, beq_iff_eq]
    exact eq_comm
  unfold sameKey
  rw [e a.fr.toList, e a.at_.toList, e a.cred, e a.me.toList, e a.he.toList]
theorem sameKey_swap {a x : Ent} (h : sameKey a x = true) (b : Ent) : sameKey x b = sameKey a b := by
  rw [← sameKey_eq h]
  rfl
theorem not_there {l : List Ent} {x : Ent} (h : ¬ spot l x < l.length) : ∀ y ∈ l, sameKey y x = false := by
  intro y hy
  cases hs : sameKey y x with
  | false => rfl
  | true => exact absurd (List.findIdx_lt_length_of_exists ⟨y, hy, hs⟩) h
theorem room_sub (most : Nat) (l : List Ent) (now : Int) : (room most l now).Sublist l := by
  have e : room most l now = if most ≤ (if most ≤ l.length then live l now else l).length then (if most ≤ l.length then live l now else l).drop 1 else (if most ≤ l.length then live l now else l) := rfl
  have h1 : (if most ≤ l.length then live l now else l).Sublist l := by
    split
    · exact List.filter_sublist
    · exact List.Sublist.refl _
  rw [e]
  generalize (if most ≤ l.length then live l now else l) = l1 at h1
  by_cases h2 : most ≤ l1.length
  · rw [if_pos h2]
    exact (List.drop_sublist _ _).trans h1
  · rw [if_neg h2]
    exact h1
theorem put_uniq {most : Nat} {l : List Ent} (h : Uniq l) (x : Ent) (now : Int) : Uniq (put most l x now) := by
  unfold put
  by_cases hs : spot l x < l.length
  · rw [if_pos hs]
    have hk := spot_at hs
    generalize spot l x = k at hs hk
    unfold Uniq at h ⊢
    rw [List.pairwise_iff_getElem] at h ⊢
    intro i j hi hj hij
    rw [List.length_set] at hi hj
    rw [List.getElem_set, List.getElem_set]
    by_cases h1 : k = i
    · rw [if_pos h1, if_neg (by omega)]
      subst h1
      rw [sameKey_swap hk]
      exact h _ _ hi hj hij
    · rw [if_neg h1]
      by_cases h2 : k = j
      · rw [if_pos h2]
        subst h2
        rw [sameKey_symm, sameKey_swap hk, sameKey_symm]
        exact h _ _ hi hj hij
      · rw [if_neg h2]
        exact h _ _ hi hj hij
  · rw [if_neg hs]
    unfold Uniq at h ⊢
    rw [List.pairwise_append]
    refine ⟨h.sublist (room_sub most l now), List.pairwise_singleton _ _, fun a ha b hb => ?_⟩
    rw [List.mem_singleton] at hb
    subst hb
    exact not_there hs a ((room_sub most l now).subset ha)
theorem count_one {l : List Ent} {x : Ent} (h : Uniq l) (hx : x ∈ l) : l.countP (fun y => sameKey y x) = 1 := by
  induction l with
  | nil => cases hx
  | cons a t ih =>
    unfold Uniq at h
    rw [List.pairwise_cons] at h
    rw [List.countP_cons]
    rcases List.mem_cons.1 hx with e | e
    · subst e
      rw [sameKey_refl, List.countP_eq_zero.2 (fun y hy => by rw [sameKey_symm, h.1 y hy]; simp)]
      rfl
    · rw [h.1 x e, ih h.2 e]
      rfl
theorem count_put {most : Nat} {l : List Ent} (h : Uniq l) (x : Ent) (now : Int) : (put most l x now).countP (fun y => sameKey y x) = 1 := count_one (put_uniq h x now) (put_mem most l x now)
theorem count_step {l : List Ent} {p : Ent → Bool} {k : Nat} (hk : k < l.length) : (l.take (k + 1)).countP p = (l.take k).countP p + (if p l[k] then 1 else 0) := by
  rw [List.take_add_one, List.getElem?_eq_getElem hk, List.countP_append]
  show _ + [l[k]].countP p = _
  rw [List.countP_cons, List.countP_nil, Nat.zero_add]
end Go.Proofs.Ythojnhdnflakiaa
