/-
  The reference's memo of layer 15 in memory. Conditions: those that each theorem states.
-/
import Derived.Test.YthojnhdnflakiaaMemoRefSame
import Derived.Laws.Rows
namespace Go.Proofs.Ythojnhdnflakiaa
open Go.RowKit Go.Lib Go.Shelf

/-- Block b holds the reference's memo: at most so many entries, and the entries l, in memory of its own. -/
structure RM (w : World) (b most : Nat) (v : Value) (l : List Ent) : Prop where
  blk : w.heap[b]? = some (.cells #[.int .i64 (most : Int), v] 42 (0, 0))
  own : OwnsE w (b + 1) v l
theorem RM.lt {w : World} {b most : Nat} {v : Value} {l : List Ent} (h : RM w b most v l) : b < w.heap.size := (Array.getElem?_eq_some_iff.1 h.blk).1
theorem RM.later {w w' : World} {b most : Nat} {v : Value} {l : List Ent} (h : RM w b most v l) (hb : Below w.heap.size w w') : RM w' b most v l := ⟨(hb.block _ h.lt).trans h.blk, h.own.kept hb (Nat.le_refl _)⟩
theorem RM.cells {w : World} {b most : Nat} {v : Value} {l : List Ent} (h : RM w b most v l) : w.cell? ⟨b, 0, Option.none⟩ = some (.int .i64 (most : Int)) ∧ w.cell? ⟨b, 1, Option.none⟩ = some v := by
  refine ⟨?_, ?_⟩
  · rw [cell_of_row w _ 0 _ _ _ h.blk]; rfl
  · rw [cell_of_row w _ 1 _ _ _ h.blk]; rfl
theorem RM.free {w : World} {b most : Nat} {v : Value} {l : List Ent} (h : RM w b most v l) : w.frozen? ⟨b, 0, Option.none⟩ = false ∧ w.frozen? ⟨b, 1, Option.none⟩ = false :=
  ⟨frozen_of_row w _ 0 _ _ h.blk, frozen_of_row w _ 1 _ _ h.blk⟩
/-- The six cells of an entry that is boxed anew. -/
theorem box_six (w : World) (x : Ent) (t : TypeId) : (w.alloc (.cells (ecell x).toArray t)).cell? ⟨w.heap.size, 0, Option.none⟩ = some (.string x.fr) ∧ (w.alloc (.cells (ecell x).toArray t)).cell? ⟨w.heap.size, 1, Option.none⟩ = some (.string x.at_) ∧
    (w.alloc (.cells (ecell x).toArray t)).cell? ⟨w.heap.size, 2, Option.none⟩ = some (.bool x.cred) ∧ (w.alloc (.cells (ecell x).toArray t)).cell? ⟨w.heap.size, 3, Option.none⟩ = some (.string x.me) ∧
    (w.alloc (.cells (ecell x).toArray t)).cell? ⟨w.heap.size, 4, Option.none⟩ = some (.string x.he) ∧ (w.alloc (.cells (ecell x).toArray t)).cell? ⟨w.heap.size, 5, Option.none⟩ = some (.int .i64 x.til) := by
  refine ⟨?_, ?_, ?_, ?_, ?_, ?_⟩ <;> (rw [cell_of_row _ w.heap.size _ _ t (0, 0) (heap_alloc_new w _)]; rfl)

theorem any_step {α : Type} {l : List α} {p : α → Bool} {k : Nat} (hk : k < l.length) : (l.take (k + 1)).any p = ((l.take k).any p || p l[k]) := by
  rw [List.take_add_one, List.getElem?_eq_getElem hk, List.any_append]
  simp
theorem any_hit {α : Type} {l : List α} {p : α → Bool} {k : Nat} (hk : k < l.length) (h : p l[k] = true) : l.any p = true := List.any_eq_true.2 ⟨_, List.getElem_mem hk, h⟩

end Go.Proofs.Ythojnhdnflakiaa
