/-
  Words for the reference's Put of layer 15 where no entry has the key. Conditions: those that each theorem states.
-/
import Derived.Test.YthojnhdnflakiaaMemoPut
namespace Go.Proofs.Ythojnhdnflakiaa
open Go.RowKit Go.Lib Go.Shelf

/-- Block b holds the reference's memo, whose list reads as l, wherever it lies. -/
structure RV (w : World) (b most : Nat) (A : Option Addr) (n c : Nat) (l : List Ent) : Prop where
  blk : w.heap[b]? = some (.cells #[.int .i64 (most : Int), .slice A n c] 42 (0, 0))
  eds : Eds w A n c l
  away : ∀ a, A = some a → a.block ≠ b
theorem RM.view {w : World} {b most n c : Nat} {A : Option Addr} {l : List Ent} (h : RM w b most (.slice A n c) l) : RV w b most A n c l := by
  obtain ⟨A', c', e, hE⟩ := h.own.eds
  injection e with e1 e2 e3
  subst e1
  subst e2
  subst e3
  refine ⟨h.blk, hE, fun a ha => ?_⟩
  subst ha
  have := (World.ownsRow.lt h.own a.block rfl).1
  omega
section
variable {w w' : World} {b most n c : Nat} {A : Option Addr} {l : List Ent}
theorem RV.lt (h : RV w b most A n c l) : b < w.heap.size := (Array.getElem?_eq_some_iff.1 h.blk).1
theorem RV.later (h : RV w b most A n c l) (hb : Below w.heap.size w w') : RV w' b most A n c l := ⟨(hb.block _ h.lt).trans h.blk, h.eds.later hb, h.away⟩
theorem RV.cells (h : RV w b most A n c l) : w.cell? ⟨b, 0, Option.none⟩ = some (.int .i64 (most : Int)) ∧ w.cell? ⟨b, 1, Option.none⟩ = some (.slice A n c) := by
  refine ⟨?_, ?_⟩
  · rw [cell_of_row w _ 0 _ _ _ h.blk]; rfl
  · rw [cell_of_row w _ 1 _ _ _ h.blk]; rfl
theorem RV.free (h : RV w b most A n c l) : w.frozen? ⟨b, 1, Option.none⟩ = false := frozen_of_row w _ 1 _ _ h.blk
/-- The list's view is stored anew. -/
theorem RV.put {n' c' : Nat} {A' : Option Addr} {l' : List Ent} (h : RV w b most A n c l) (hE : Eds w A' n' c' l') (ha : ∀ a, A' = some a → a.block ≠ b) : RV (w.setCell ⟨b, 1, Option.none⟩ (.slice A' n' c')) b most A' n' c' l' ∧ w.grownBy (w.setCell ⟨b, 1, Option.none⟩ (.slice A' n' c')) (some b) := by
  refine ⟨⟨heap_setCell_same w b 1 _ _ _ h.blk, ⟨hE.len, hE.cap, hE.room, hE.bare, fun hn => ?_⟩, ha⟩, ⟨rfl, rfl, rfl, by simp [World.setCell], fun k hk hne => heap_setCell_other w ⟨b, 1, Option.none⟩ k _ (fun e => hne (by rw [e]))⟩⟩
  obtain ⟨g, off, e, hlt, hc⟩ := hE.cell hn
  have hgb : g ≠ b := ha _ e
  refine ⟨g, off, e, by simpa [World.setCell] using hlt, fun j hj => ?_⟩
  rw [← hc j hj]
  exact World.cell?_of_block (a := ⟨g, off + j, Option.none⟩) (heap_setCell_other w ⟨b, 1, Option.none⟩ g _ hgb)
/-- A new list is stored. -/
theorem RV.fin {w0 w9 : World} {v9 : Value} {l9 : List Ent} (h : RV w b most A n c l) (hb : Below w.heap.size w w9) (ho : OwnsE w9 w.heap.size v9 l9) (hG : w0.grownBy w (some b)) :
    (RM (w9.setCell ⟨b, 1, Option.none⟩ v9) b most v9 l9 ∧ Fresh w0.heap.size v9) ∧ w0.grownBy (w9.setCell ⟨b, 1, Option.none⟩ v9) (some b) := by
  have hlt := h.lt
  refine ⟨⟨⟨heap_setCell_same w9 b 1 _ _ v9 ((hb.block b hlt).trans h.blk), ?_⟩, ho.fresh hG.size⟩, ?_⟩
  · exact (show OwnsE (w9.setCell ⟨b, 1, Option.none⟩ v9) w.heap.size v9 l9 from ownsRow_setCell_below ho (a := ⟨b, 1, Option.none⟩) hlt v9).low hlt
  · refine ⟨hb.os.trans hG.os, hb.tape.trans hG.tape, hb.output.trans hG.output, ?_, fun k hk hne => ?_⟩
    · have := Nat.le_trans hG.size hb.size
      simpa [World.setCell] using this
    · exact (heap_setCell_other w9 ⟨b, 1, Option.none⟩ k v9 (fun e => hne (by rw [e]))).trans ((hb.block k (Nat.lt_of_lt_of_le hk hG.size)).trans (hG.block k hk hne))
end

set_option maxRecDepth 100000 in
theorem run_fieldM0 (w : World) (b : Nat) : (Instr.fieldAt 42 (.pointer (some ⟨b, 0, Option.none⟩)) 0).run Try.prog w = .ok (.pointer (some ⟨b, 0, Option.none⟩)) w := by go_simp
set_option maxRecDepth 100000 in
theorem run_geq (x y : Operand) (w : World) (a b : Int) (r : Bool) (h : decide (b ≤ a) = r) : (do eqGuard .geq 3 x y (.int .i64 a) (.int .i64 b); binOp .geq 3 (.int .i64 a) (.int .i64 b) : Sem Value).run Try.prog w = .ok (.bool r) w := by
  subst h
  go_simp
set_option maxRecDepth 100000 in
theorem run_build0 (w : World) : (Instr.buildSlice 39 0 #[]).run Try.prog w = .ok (.slice (some ⟨w.heap.size, 0, Option.none⟩) 0 0) (w.alloc (.cells #[] 32)) := by go_simp
theorem alloc_size (w : World) (o : Obj) : (w.alloc o).heap.size = w.heap.size + 1 := by simp
theorem owns_zero (w : World) : OwnsE (w.alloc (.cells #[] 32)) w.heap.size (.slice (some ⟨w.heap.size, 0, Option.none⟩) 0 0) [] := by
  have := World.ownsRow_made (base := w.heap.size) (e := 32) (size := 6) w #[] 0 (Nat.le_refl _) (Nat.zero_le _) rfl
  simpa [OwnsE, ecells] using this
/-- What the slots of the statement hold that asks whether there is room. -/
def rmF (b most : Nat) (A : Option Addr) (n c : Nat) (r : Bool) (j : Nat) (v : Value) (_ : World) : Prop :=
  match j with
  | 0 => v = .pointer (some ⟨b, 0, Option.none⟩)
  | 1 => v = .pointer (some ⟨b, 0, Option.none⟩)
  | 2 => v = .pointer (some ⟨b, 1, Option.none⟩)
  | 3 => v = .slice A n c
  | 4 => v = .int .i64 (n : Int)
  | 5 => v = .pointer (some ⟨b, 0, Option.none⟩)
  | 6 => v = .pointer (some ⟨b, 0, Option.none⟩)
  | 7 => v = .pointer (some ⟨b, 0, Option.none⟩)
  | 8 => v = .int .i64 (most : Int)
  | 9 => v = .bool r
  | _ => True
theorem rmF_later {b most : Nat} {A : Option Addr} {n c : Nat} {r : Bool} : Outlives (rmF b most A n c r) := by
  intro j v w w' h _
  unfold rmF at h ⊢
  split at h
  all_goals exact h
/-- What the slots of the last statement hold, whatever the memory. -/
def enF (b : Nat) (A : Option Addr) (n c : Nat) (x : Ent) (j : Nat) (v : Value) (_ : World) : Prop :=
  match j with
  | 0 => v = .pointer (some ⟨b, 0, Option.none⟩)
  | 2 => v = .pointer (some ⟨b, 0, Option.none⟩)
  | 3 => v = .pointer (some ⟨b, 0, Option.none⟩)
  | 4 => v = .pointer (some ⟨b, 1, Option.none⟩)
  | 5 => v = .slice A n c
  | 7 => v = evalue x
  | _ => True
theorem enF_any {b : Nat} {A : Option Addr} {n c : Nat} {x : Ent} {j : Nat} {v : Value} {w w' : World} (h : enF b A n c x j v w) : enF b A n c x j v w' := by
  unfold enF at h ⊢
  split at h
  all_goals exact h
theorem Eds.kept {w w' : World} {g n c : Nat} {l : List Ent} {r : Option Nat} (h : Eds w (some ⟨g, 0, Option.none⟩) n c l) (hg : w.grownBy w' r) (hne : some g ≠ r) : Eds w' (some ⟨g, 0, Option.none⟩) n c l :=
  ⟨h.len, h.cap, h.room, h.bare, fun hn => by
    obtain ⟨b, off, e, hlt, hc⟩ := h.cell hn
    injection e with e
    injection e with e1 e2
    subst e1
    refine ⟨g, off, by rw [e2], Nat.lt_of_lt_of_le hlt hg.size, fun j hj => ?_⟩
    rw [← hc j hj]
    exact World.cell?_of_block (a := ⟨g, off + j, Option.none⟩) (hg.block g hlt hne)⟩
/-- The memory while the last statement runs: two rows of the call's own. -/
structure PQ (wr : World) (L : List Ent) (x : Ent) (D : Nat → Prop) (a : Act) (w : World) : Prop where
  low : wr.heap.size ≤ w.heap.size
  row1 : D 1 → ¬ D 6 → ∃ v, a.eval (.tmp 108) = v ∧ OwnsE w wr.heap.size v []
  row2 : D 6 → ¬ D 9 → ∃ v, a.eval (.tmp 113) = v ∧ OwnsE w wr.heap.size v L
  one : D 8 → ¬ D 9 → ∃ gx, a.eval (.tmp 115) = .slice (some ⟨gx, 0, Option.none⟩) 1 1 ∧ gx < w.heap.size ∧ Eds w (some ⟨gx, 0, Option.none⟩) 1 1 [x] ∧ (D 1 → ¬ D 6 → (a.eval (.tmp 108)).ownBlock ≠ some gx) ∧ (D 6 → (a.eval (.tmp 113)).ownBlock ≠ some gx)
  full : D 9 → ∃ v, a.eval (.tmp 116) = v ∧ OwnsE w wr.heap.size v (L ++ [x])
theorem PQ.pure {wr : World} {L : List Ent} {x : Ent} {D : Nat → Prop} {a : Act} {w : World} (h : PQ wr L x D a w) {i s : Nat} (u : Value) (h1 : i ≠ 1) (h6 : i ≠ 6) (h8 : i ≠ 8) (h9 : i ≠ 9) (hs : s ≠ 108 ∧ s ≠ 113 ∧ s ≠ 115 ∧ s ≠ 116) : PQ wr L x (fun j => D j ∨ j = i) (a.put (some s) u) w := by
  obtain ⟨s1, s2, s3, s4⟩ := hs
  have q1 := eval_put_other a u (Ne.symm s1)
  have q2 := eval_put_other a u (Ne.symm s2)
  have q3 := eval_put_other a u (Ne.symm s3)
  have q4 := eval_put_other a u (Ne.symm s4)
  refine ⟨h.low, fun hd hn => ?_, fun hd hn => ?_, fun hd hn => ?_, fun hd => ?_⟩
  · rw [q1]; exact h.row1 (hd.resolve_right (Ne.symm h1)) (fun h' => hn (.inl h'))
  · rw [q2]; exact h.row2 (hd.resolve_right (Ne.symm h6)) (fun h' => hn (.inl h'))
  · rw [q1, q2, q3]
    obtain ⟨gx, e, hl, hE, k1, k2⟩ := h.one (hd.resolve_right (Ne.symm h8)) (fun h' => hn (.inl h'))
    exact ⟨gx, e, hl, hE, fun d1 n6 => k1 (d1.resolve_right (Ne.symm h1)) (fun h' => n6 (.inl h')), fun d6 => k2 (d6.resolve_right (Ne.symm h6))⟩
  · rw [q4]; exact h.full (hd.resolve_right (Ne.symm h9))
theorem PQ.op1 {wr : World} {L : List Ent} {x : Ent} {D : Nat → Prop} {a : Act} {w : World} (h : PQ wr L x D a w) (hs : 108 < a.tmps.size) (n6 : ¬ D 6) (n9 : ¬ D 9) : PQ wr L x (fun j => D j ∨ j = 1) (a.put (some 108) (.slice (some ⟨w.heap.size, 0, Option.none⟩) 0 0)) (w.alloc (.cells #[] 32)) := by
  have q1 := eval_put_same a 108 (.slice (some ⟨w.heap.size, 0, Option.none⟩) 0 0) hs
  refine ⟨by rw [alloc_size]; have := h.low; omega, fun _ _ => ⟨_, q1, (owns_zero w).low h.low⟩, fun hd => absurd (hd.resolve_right (by decide)) n6, fun hd hn => ?_, fun hd => absurd (hd.resolve_right (by decide)) n9⟩
  obtain ⟨gx, e, hl, hE, _, k2⟩ := h.one (hd.resolve_right (by decide)) n9
  refine ⟨gx, by rw [eval_put_other _ _ (by decide)]; exact e, by rw [alloc_size]; omega, hE.later ((Below.refl _ w).alloc (Nat.le_refl _) _), fun _ _ => ?_, fun d6 => absurd (d6.resolve_right (by decide)) n6⟩
  rw [q1]
  intro e2
  have e3 : w.heap.size = gx := by simpa [Value.ownBlock] using e2
  omega
theorem PQ.op6 {wr : World} {L : List Ent} {x : Ent} {D : Nat → Prop} {a : Act} {w w' : World} {v v' : Value} (h : PQ wr L x D a w) (hs : 113 < a.tmps.size) (e108 : a.eval (.tmp 108) = v) (d1 : D 1) (n6 : ¬ D 6) (n9 : ¬ D 9) (hO : OwnsE w' wr.heap.size v' L) (hg : w.grownBy w' v.ownBlock) (hm : v'.ownBlock = v.ownBlock ∨ v'.ownBlock = some w.heap.size) : PQ wr L x (fun j => D j ∨ j = 6) (a.put (some 113) v') w' := by
  have q1 := eval_put_same a 113 v' hs
  refine ⟨Nat.le_trans h.low hg.size, fun _ hn => absurd (.inr rfl) hn, fun _ _ => ⟨_, q1, hO⟩, fun hd hn => ?_, fun hd => absurd (hd.resolve_right (by decide)) n9⟩
  obtain ⟨gx, e, hl, hE, k1, _⟩ := h.one (hd.resolve_right (by decide)) n9
  have k := k1 d1 n6
  rw [e108] at k
  refine ⟨gx, by rw [eval_put_other _ _ (by decide)]; exact e, Nat.lt_of_lt_of_le hl hg.size, hE.kept hg (Ne.symm k), fun _ hn => absurd (.inr rfl) hn, fun _ => ?_⟩
  rw [q1]
  rcases hm with hm | hm
  · rw [hm]; exact k
  · rw [hm]; intro e2; injection e2 with e2; omega
theorem PQ.op8 {wr : World} {L : List Ent} {x : Ent} {D : Nat → Prop} {a : Act} {w : World} (h : PQ wr L x D a w) (hs : 115 < a.tmps.size) (n9 : ¬ D 9) : PQ wr L x (fun j => D j ∨ j = 8) (a.put (some 115) (.slice (some ⟨w.heap.size, 0, Option.none⟩) 1 1)) (w.alloc (.cells (ecells [x]).toArray 32)) := by
  have q1 := eval_put_same a 115 (.slice (some ⟨w.heap.size, 0, Option.none⟩) 1 1) hs
  have p1 := eval_put_other a (.slice (some ⟨w.heap.size, 0, Option.none⟩) 1 1) (d := 115) (t := 108) (by decide)
  have p2 := eval_put_other a (.slice (some ⟨w.heap.size, 0, Option.none⟩) 1 1) (d := 115) (t := 113) (by decide)
  refine ⟨by rw [alloc_size]; have := h.low; omega, fun hd hn => ?_, fun hd hn => ?_, fun _ _ => ⟨w.heap.size, q1, by rw [alloc_size]; omega, eds_new w _ [x] rfl (tiny (by simp)), fun d1 n6 => ?_, fun d6 => ?_⟩, fun hd => absurd (hd.resolve_right (by decide)) n9⟩
  · obtain ⟨v, e, ho⟩ := h.row1 (hd.resolve_right (by decide)) (fun h' => hn (.inl h'))
    exact ⟨v, by rw [p1]; exact e, ho.alloc _⟩
  · obtain ⟨v, e, ho⟩ := h.row2 (hd.resolve_right (by decide)) n9
    exact ⟨v, by rw [p2]; exact e, ho.alloc _⟩
  · obtain ⟨v, e, ho⟩ := h.row1 (d1.resolve_right (by decide)) (fun h' => n6 (.inl h'))
    rw [p1, e]
    intro e2
    have := (World.ownsRow.lt ho _ e2).2
    omega
  · obtain ⟨v, e, ho⟩ := h.row2 (d6.resolve_right (by decide)) n9
    rw [p2, e]
    intro e2
    have := (World.ownsRow.lt ho _ e2).2
    omega
theorem PQ.op9 {wr : World} {L : List Ent} {x : Ent} {D : Nat → Prop} {a : Act} {w w' : World} {v' : Value} (h : PQ wr L x D a w) (hs : 116 < a.tmps.size) (d6 : D 6) (hO : OwnsE w' wr.heap.size v' (L ++ [x])) (hg : wr.heap.size ≤ w'.heap.size) : PQ wr L x (fun j => D j ∨ j = 9) (a.put (some 116) v') w' :=
  have _ := h
  ⟨hg, fun _ hn => absurd (.inl d6) hn, fun _ hn => absurd (.inr rfl) hn, fun _ hn => absurd (.inr rfl) hn, fun _ => ⟨_, eval_put_same a 116 v' hs, hO⟩⟩
end Go.Proofs.Ythojnhdnflakiaa
