/-
  Two memos in memory, the program's and the reference's, apart. Conditions: those that each theorem states.
-/
import Derived.Test.YthojnhdnflakiaaMemoDeeds
import Derived.Test.YthojnhdnflakiaaMemoRefPutNew
import Derived.Test.YthojnhdnflakiaaMemoRefHas
namespace Go.Proofs.Ythojnhdnflakiaa
open Go.RowKit Go.Lib Go.Shelf

/-- Block b1 holds the program's memo, block b2 the reference's; their lists lie apart. -/
structure Pair (w W : World) (b1 b2 most : Nat) (v1 v2 : Value) (l1 l2 : List Ent) : Prop where
  m : PM W b1 most v1 l1
  r : RM W b2 most v2 l2
  away : v1.ownBlock ≠ some b2
  apart : ∀ k, v1.ownBlock = some k → v2.ownBlock ≠ some k
  ne : b1 < b2
  low : w.heap.size ≤ b1
  below : Below w.heap.size w W
section
variable {w W W' : World} {b1 b2 most : Nat} {v1 v2 v' : Value} {l1 l2 l' : List Ent}
theorem Pair.calm (h : Pair w W b1 b2 most v1 v2 l1 l2) (hb : Below W.heap.size W W') : Pair w W' b1 b2 most v1 v2 l1 l2 :=
  ⟨h.m.later hb, h.r.later hb, h.away, h.apart, h.ne, h.low, below_then h.below hb⟩
theorem Pair.turn (h : Pair w W b1 b2 most v1 v2 l1 l2) (hP : PM W' b1 most v' l') (hV : Moved W v1 v') (hT : Turned2 W W' b1 v1) : Pair w W' b1 b2 most v' v2 l' l2 := by
  have hb2 := hT.block b2 h.r.lt (by have := h.ne; omega) h.away
  refine ⟨hP, ⟨hb2.trans h.r.blk, ?_⟩, ?_, fun k hk => ?_, h.ne, h.low, hT.below h.below h.low (h.m.fresh h.low)⟩
  · refine ⟨h.r.own.1, ?_⟩
    rcases h.r.own.2 with h0 | ⟨g, cap, cur, e1, hbg, hg, rest⟩
    · exact .inl h0
    · have hlt := (Array.getElem?_eq_some_iff.1 hg).1
      have e2 : v2.ownBlock = some g := by rw [e1]; rfl
      exact .inr ⟨g, cap, cur, e1, hbg, (hT.block g hlt (by have := h.ne; omega) (fun e => h.apart g e e2)).trans hg, rest⟩
  · intro e
    rcases hV with hV | hV
    · exact h.away (hV.symm.trans e)
    · have := hV _ e
      have := h.r.lt
      omega
  · intro e
    rcases hV with hV | hV
    · exact h.apart k (hV.symm.trans hk) e
    · have h1 := hV _ hk
      have h2 := (World.ownsRow.lt h.r.own k e).2
      omega
theorem Pair.ref (h : Pair w W b1 b2 most v1 v2 l1 l2) (hR : RM W' b2 most v' l') (hF : Fresh W.heap.size v') (hG : W.grownBy W' (some b2)) : Pair w W' b1 b2 most v1 v' l1 l' := by
  have hne : some b1 ≠ some b2 := fun e => by injection e with e; have := h.ne; omega
  refine ⟨⟨(hG.block b1 h.m.lt hne).trans h.m.blk, ?_⟩, hR, h.away, fun k hk e => ?_, h.ne, h.low, h.below.grown hG h.below.size (fun k hk => by injection hk with hk; have := h.ne; have := h.low; omega)⟩
  · exact World.ownsRow.kept h.m.own hG (.inr h.away)
  · have h1 := hF _ e
    have h2 := (World.ownsRow.lt h.m.own k hk).2
    omega
end
/-- Block g begins with the eight cells of a deed. -/
def Eight (W : World) (g : Nat) (d : Deed) : Prop := W.cell? ⟨g, 0, Option.none⟩ = some (.int .u8 (d.kind : Int)) ∧ W.cell? ⟨g, 1, Option.none⟩ = some (.string d.what.fr) ∧ W.cell? ⟨g, 2, Option.none⟩ = some (.string d.what.at_) ∧ W.cell? ⟨g, 3, Option.none⟩ = some (.bool d.what.cred) ∧
  W.cell? ⟨g, 4, Option.none⟩ = some (.string d.what.me) ∧ W.cell? ⟨g, 5, Option.none⟩ = some (.string d.what.he) ∧ W.cell? ⟨g, 6, Option.none⟩ = some (.int .i64 d.what.til) ∧ W.cell? ⟨g, 7, Option.none⟩ = some (.int .i64 d.now)
theorem Eight.block {w W : World} {g : Nat} {d : Deed} (h : Eight w g d) (hb : W.heap[g]? = w.heap[g]?) : Eight W g d := by
  have key : ∀ o, W.cell? ⟨g, o, Option.none⟩ = w.cell? ⟨g, o, Option.none⟩ := fun o => World.cell?_of_block (a := ⟨g, o, Option.none⟩) hb
  unfold Eight at h ⊢
  rw [key, key, key, key, key, key, key, key]
  exact h
theorem Eight.later {W W' : World} {g : Nat} {d : Deed} (h : Eight W g d) (hb : Below W.heap.size W W') : Eight W' g d :=
  h.block (hb.block g (World.block_lt_of_cell? W _ h.1))
theorem eight_new (w : World) (d : Deed) (t : TypeId) : Eight (w.alloc (.cells (dcell d).toArray t)) w.heap.size d := by
  refine ⟨?_, ?_, ?_, ?_, ?_, ?_, ?_, ?_⟩ <;> (rw [cell_of_row _ w.heap.size _ _ t (0, 0) (heap_alloc_new w _)]; rfl)
/-- A slice value that reads as entries. -/
def EE (l : List Ent) (v : Value) (w : World) : Prop := ∃ A n c, v = .slice A n c ∧ Eds w A n c l
theorem EE.keeps {l : List Ent} {v : Value} {w w' : World} (h : EE l v w) (hk : Keeps w w') : EE l v w' := by
  obtain ⟨A, n, c, e, hE⟩ := h
  refine ⟨A, n, c, e, hE.len, hE.cap, hE.room, hE.bare, fun hn => ?_⟩
  obtain ⟨b, off, e2, _, hc⟩ := hE.cell hn
  have key : ∀ j, j < n * 6 → w'.cell? ⟨b, off + j, Option.none⟩ = (ecells l)[j]? := fun j hj => by
    have hl : j < (ecells l).length := by rw [ecells_len, hE.len]; exact hj
    have := hc j hj
    rw [List.getElem?_eq_getElem hl] at this ⊢
    exact hk.cell _ _ this
  refine ⟨b, off, e2, ?_, key⟩
  have h0 := key 0 (by omega)
  rw [List.getElem?_eq_getElem (by rw [ecells_len, hE.len]; omega)] at h0
  exact World.block_lt_of_cell? w' _ h0
theorem GivesE.reads {w w' : World} {l : List Ent} {v : Value} (h : OwnsE w' w.heap.size v l) : EE l v w' := by
  obtain ⟨A, c, e, hE⟩ := h.eds
  exact ⟨A, _, c, e, hE⟩
theorem enters_list (vs : Array Value) (w : World) : (callFunc 16 vs).run Try.prog w = .ok (.enter 16 vs) w := by kernel_rfl
theorem enters_Same15 (vs : Array Value) (w : World) : (callFunc 15 vs).run Try.prog w = .ok (.enter 15 vs) w := by kernel_rfl
theorem enters_refHas (vs : Array Value) (w : World) : (callFunc 12 vs).run Try.prog w = .ok (.enter 12 vs) w := by kernel_rfl
set_option maxRecDepth 100000 in
theorem run_not15 (w : World) (b : Bool) : (Op.unary .not (.bool b)).run Try.prog w = .ok (.bool (!b)) w := by go_simp
/-- What the slots of the statement hold that compares the lists. -/
def cpF (b1 b2 : Nat) (A : Option Addr) (n c : Nat) (l : List Ent) (j : Nat) (v : Value) (w : World) : Prop :=
  match j with
  | 0 => v = .pointer (some ⟨b1, 0, Option.none⟩)
  | 1 => EE l v w
  | 2 => v = .pointer (some ⟨b2, 0, Option.none⟩)
  | 3 => v = .pointer (some ⟨b2, 0, Option.none⟩)
  | 4 => v = .pointer (some ⟨b2, 1, Option.none⟩)
  | 5 => v = .slice A n c
  | 6 => v = .bool true
  | 7 => v = .bool false
  | _ => True
theorem cpF_later {b1 b2 : Nat} {A : Option Addr} {n c : Nat} {l : List Ent} : Outlives (cpF b1 b2 A n c l) := by
  intro j v w w' h hk
  unfold cpF at h ⊢
  split at h
  all_goals first | exact h.keeps hk | exact h
/-- What the slots of the statement hold that asks both memos. -/
def bhF (b1 b2 g : Nat) (d : Deed) (r : Bool) (j : Nat) (v : Value) (_ : World) : Prop :=
  match j with
  | 0 => v = .pointer (some ⟨b1, 0, Option.none⟩)
  | 1 => v = .pointer (some ⟨g, 0 + 1, Option.none⟩)
  | 2 => v = evalue d.what
  | 3 => v = .pointer (some ⟨g, 0 + 7, Option.none⟩)
  | 4 => v = .int .i64 d.now
  | 5 => v = .bool r
  | 6 => v = .pointer (some ⟨b2, 0, Option.none⟩)
  | 7 => v = .pointer (some ⟨g, 0 + 1, Option.none⟩)
  | 8 => v = evalue d.what
  | 9 => v = .pointer (some ⟨g, 0 + 7, Option.none⟩)
  | 10 => v = .int .i64 d.now
  | 11 => v = .bool r
  | 12 => v = .bool false
  | _ => True
theorem bhF_later {b1 b2 g : Nat} {d : Deed} {r : Bool} : Outlives (bhF b1 b2 g d r) := by
  intro j v w w' h _
  unfold bhF at h ⊢
  split at h
  all_goals exact h
end Go.Proofs.Ythojnhdnflakiaa
