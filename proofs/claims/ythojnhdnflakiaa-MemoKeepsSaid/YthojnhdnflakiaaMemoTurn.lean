/-
  memo's functions that change a memo: what is removed, what is dropped. Conditions: those that each theorem states.
-/
import Derived.Test.YthojnhdnflakiaaMemoDelete
namespace Go.Proofs.Ythojnhdnflakiaa
open Go.RowKit Go.Lib Go.Shelf

/-- Of what was there nothing has changed but block b and the block of the slice v. -/
structure Turned2 (w w' : World) (b : Nat) (v : Value) : Prop where
  os : w'.os = w.os
  tape : w'.tape = w.tape
  output : w'.output = w.output
  size : w.heap.size ≤ w'.heap.size
  block : ∀ k, k < w.heap.size → k ≠ b → v.ownBlock ≠ some k → w'.heap[k]? = w.heap[k]?
theorem Turned2.refl (w : World) (b : Nat) (v : Value) : Turned2 w w b v := ⟨rfl, rfl, rfl, Nat.le_refl _, fun _ _ _ _ => rfl⟩
theorem Turned2.ahead {w w0 w' : World} {b : Nat} {v : Value} (h : Turned2 w0 w' b v) (hb : Below w.heap.size w w0) : Turned2 w w' b v :=
  ⟨h.os.trans hb.os, h.tape.trans hb.tape, h.output.trans hb.output, Nat.le_trans hb.size h.size, fun k hk h1 h2 => (h.block k (Nat.lt_of_lt_of_le hk hb.size) h1 h2).trans (hb.block k hk)⟩
theorem Turned2.behind {w w0 w' : World} {b : Nat} {v : Value} (h : Turned2 w w0 b v) (hb : Below w0.heap.size w0 w') : Turned2 w w' b v :=
  ⟨hb.os.trans h.os, hb.tape.trans h.tape, hb.output.trans h.output, Nat.le_trans h.size hb.size, fun k hk h1 h2 => (hb.block k (Nat.lt_of_lt_of_le hk h.size)).trans (h.block k hk h1 h2)⟩
/-- The slice v' lies where v lies, or in new memory. -/
def Moved (w : World) (v v' : Value) : Prop := v'.ownBlock = v.ownBlock ∨ Fresh w.heap.size v'
theorem Moved.then {w w0 : World} {v v1 v2 : Value} (hs : w.heap.size ≤ w0.heap.size) (h1 : Moved w v v1) (h2 : Moved w0 v1 v2) : Moved w v v2 := by
  rcases h2 with h2 | h2
  · rcases h1 with h1 | h1
    · exact .inl (h2.trans h1)
    · exact .inr fun k hk => h1 k (by rw [← h2]; exact hk)
  · exact .inr fun k hk => Nat.le_trans hs (h2 k hk)
theorem Turned2.then {w w0 w' : World} {b : Nat} {v v1 : Value} (h : Turned2 w w0 b v) (hm : Moved w v v1) (k : Turned2 w0 w' b v1) : Turned2 w w' b v :=
  ⟨k.os.trans h.os, k.tape.trans h.tape, k.output.trans h.output, Nat.le_trans h.size k.size, fun j hj h1 h2 => (k.block j (Nat.lt_of_lt_of_le hj h.size) h1 (fun e => by
    rcases hm with hm | hm
    · exact h2 (hm.symm.trans e)
    · have := hm j e
      omega)).trans (h.block j hj h1 h2)⟩
theorem PM.apart {w : World} {b most : Nat} {v : Value} {l : List Ent} (h : PM w b most v l) : v.ownBlock ≠ some b := fun e => by
  have := (World.ownsRow.lt h.own b e).1
  omega
/-- A store into the memo's list. -/
theorem PM.put {w W : World} {b most : Nat} {v v' : Value} {l l' : List Ent} (h : PM w b most v l) (hW : w.grownBy W v.ownBlock) (ho : OwnsE W (b + 1) v' l') : PM (W.setCell ⟨b, 1, Option.none⟩ v') b most v' l' ∧ Turned2 w (W.setCell ⟨b, 1, Option.none⟩ v') b v := by
  have hblk := (hW.block b h.lt (Ne.symm h.apart)).trans h.blk
  refine ⟨⟨heap_setCell_same W b 1 _ _ v' hblk, ?_⟩, ⟨hW.os, hW.tape, hW.output, ?_, fun k hk hne hv => ?_⟩⟩
  · exact ownsRow_setCell_below ho (a := ⟨b, 1, Option.none⟩) (Nat.lt_succ_self b) v'
  · have := hW.size
    simpa [World.setCell] using this
  · exact (heap_setCell_other W ⟨b, 1, Option.none⟩ k v' hne).trans (hW.block k hk (Ne.symm hv))
theorem PM.grown {w W : World} {b most : Nat} {v : Value} {l : List Ent} (h : PM w b most v l) (hW : w.grownBy W v.ownBlock) : W.cell? ⟨b, 1, Option.none⟩ = some v ∧ W.frozen? ⟨b, 1, Option.none⟩ = false := by
  have hblk := (hW.block b h.lt (Ne.symm h.apart)).trans h.blk
  refine ⟨?_, frozen_of_row W _ 1 _ _ hblk⟩
  rw [cell_of_row W _ 1 _ _ _ hblk]
  rfl

section
variable (p : Ent → Bool) (g : Nat) (lb : Array Value)
set_option maxHeartbeats 4000000 in
set_option maxRecDepth 100000 in
theorem remove_any (eg : ∀ args w, (callFunc g args).run Try.prog w = .ok (.enter g args) w) (b most : Nat) (v : Value) (l : List Ent) (w : World) (h : PM w b most v l) (hp : PredsO l p g lb v w) :
    Calls Try.prog 17 #[.pointer (some ⟨b, 0, Option.none⟩), .func (.func g) #[] lb] w fun e w' =>
      e = .returned (.tuple #[]) ∧ ∃ v', PM w' b most v' (l.filter fun y => !p y) ∧ v'.ownBlock = v.ownBlock ∧ Turned2 w w' b v := by
  have hc := Lib.hid (deleteFunc15_any p g lb eg (b + 1) v l w h.own hp)
  have hM := Lib.hid h
  obtain ⟨A, c, rfl, hE⟩ := h.own.eds
  have m1 := h.cells.2
  clear h hp hE
  go_enter Try.func17, Try.ntmps17
  go_wp2_with (go_at_call 29; refine hc.out.mono ?_; rintro e w1 ⟨v1, rfl, hO, hG, hv⟩; obtain ⟨m2, mf⟩ := hM.out.grown hG; have hP := Lib.hid (hM.out.put hG hO); have hv' := Lib.hid hv; obtain ⟨A2, c2, rfl, hE2⟩ := hO.eds; clear hE2 hO hG hv)
  go_end0
  exact ⟨rfl, _, hP.out.1, hv'.out, hP.out.2⟩
end

set_option maxHeartbeats 4000000 in
set_option maxRecDepth 100000 in
/-- The function that Drop hands on: origin and address lie in boxes. -/
theorem drop1_any (y : Ent) (fr at_ : ByteArray) (g1 g2 : Nat) (w : World) (h1 : w.cell? ⟨g1, 0, Option.none⟩ = some (.string fr)) (h2 : w.cell? ⟨g2, 0, Option.none⟩ = some (.string at_)) :
    Calls Try.prog 18 #[evalue y, .pointer (some ⟨g1, 0, Option.none⟩), .pointer (some ⟨g2, 0, Option.none⟩)] w fun e w' => e = .returned (.bool ((y.fr.toList == fr.toList) && (y.at_.toList == at_.toList))) ∧ Below w.heap.size w w' := by
  have hb0 := Lib.hid (below_box w (.cells (ecell y).toArray 32))
  obtain ⟨y1, y2, y3, y4, y5, y6⟩ := y
  have k1 : (w.alloc (.cells #[.string y1, .string y2, .bool y3, .string y4, .string y5, .int .i64 y6] 32)).cell? ⟨g1, 0, Option.none⟩ = some (.string fr) := cell_later hb0.out h1
  have k2 : (w.alloc (.cells #[.string y1, .string y2, .bool y3, .string y4, .string y5, .int .i64 y6] 32)).cell? ⟨g2, 0, Option.none⟩ = some (.string at_) := cell_later hb0.out h2
  unfold evalue
  simp only
  clear h1 h2
  rcases Bool.eq_false_or_eq_true (y1.toList == fr.toList) with q1 | q1
  · go_enter Try.func18, Try.ntmps18
    go_wp2
    go_ret
    exact ⟨ret_bool (by rw [q1]; simp), hb0.out⟩
  · go_enter Try.func18, Try.ntmps18
    go_wp2
    go_ret
    exact ⟨ret_bool (by rw [q1]; simp), hb0.out⟩

set_option maxHeartbeats 4000000 in
set_option maxRecDepth 100000 in
/-- The function that Put hands on: the time lies in a box. -/
theorem put1_any (y : Ent) (now : Int) (g1 : Nat) (w : World) (h1 : w.cell? ⟨g1, 0, Option.none⟩ = some (.int .i64 now)) :
    Calls Try.prog 25 #[evalue y, .pointer (some ⟨g1, 0, Option.none⟩)] w fun e w' => e = .returned (.bool (!decide (now < y.til))) ∧ Below w.heap.size w w' := by
  have hl := Lib.hid (fun W => live_any y now W)
  generalize decide (now < y.til) = r at hl ⊢
  have hb0 := Lib.hid (below_box w (.cells (ecell y).toArray 32))
  obtain ⟨y1, y2, y3, y4, y5, y6⟩ := y
  have k1 : (w.alloc (.cells #[.string y1, .string y2, .bool y3, .string y4, .string y5, .int .i64 y6] 32)).cell? ⟨g1, 0, Option.none⟩ = some (.int .i64 now) := cell_later hb0.out h1
  unfold evalue at hl ⊢
  simp only at hl ⊢
  clear h1
  go_enter Try.func25, Try.ntmps25
  go_wp2_with (go_at_call 21; (with_reducible refine (hl.out _).mono ?_); rintro e1 w1 ⟨rfl, hb1⟩)
  go_ret
  exact ⟨rfl, below_then hb0.out hb1⟩

/-- A box that lies behind the slice's own block. -/
theorem box_kept2 {w W : World} {g : Nat} {u v : Value} (hc : w.cell? ⟨g, 0, Option.none⟩ = some u) (hg : w.grownBy W v.ownBlock) (hne : v.ownBlock ≠ some g) : W.cell? ⟨g, 0, Option.none⟩ = some u := hg.cell hc (fun e => hne e.symm)

set_option maxHeartbeats 4000000 in
set_option maxRecDepth 100000 in
theorem drop_any15 (b most : Nat) (v : Value) (l : List Ent) (fr at_ : ByteArray) (w : World) (h : PM w b most v l) :
    Calls Try.prog 9 #[.pointer (some ⟨b, 0, Option.none⟩), .string fr, .string at_] w fun e w' =>
      e = .returned (.tuple #[]) ∧ ∃ v', PM w' b most v' (drop l fr at_) ∧ v'.ownBlock = v.ownBlock ∧ Turned2 w w' b v := by
  have hb0 := Lib.hid (below_box2 w (.cells #[.string fr] 9) (.cells #[.string at_] 9))
  have c1 : ((w.alloc (.cells #[.string fr] 9)).alloc (.cells #[.string at_] 9)).cell? ⟨w.heap.size, 0, Option.none⟩ = some (.string fr) :=
    cell_later (below_box _ _) (by rw [cell_of_row _ w.heap.size 0 _ _ (0, 0) (heap_alloc_new w _)]; rfl)
  have c2 : ((w.alloc (.cells #[.string fr] 9)).alloc (.cells #[.string at_] 9)).cell? ⟨w.heap.size + 1, 0, Option.none⟩ = some (.string at_) := by
    have hsz : (w.alloc (.cells #[.string fr] 9)).heap.size = w.heap.size + 1 := by simp
    rw [← hsz, cell_of_row _ _ 0 _ _ _ (heap_alloc_new _ _)]
    rfl
  have hlt : ∀ k, v.ownBlock = some k → k < w.heap.size := fun k hk => (World.ownsRow.lt h.own k hk).2
  have hc := Lib.hid (remove_any (fun y => (y.fr.toList == fr.toList) && (y.at_.toList == at_.toList)) 18 #[.pointer (some ⟨w.heap.size, 0, Option.none⟩), .pointer (some ⟨w.heap.size + 1, 0, Option.none⟩)] (fun _ _ => by kernel_rfl) b most v l _ (h.later hb0.out)
    (fun W y _ hg => drop1_any y fr at_ w.heap.size (w.heap.size + 1) W (box_kept2 c1 hg (fun e => by have := hlt _ e; omega)) (box_kept2 c2 hg (fun e => by have := hlt _ e; omega))))
  clear h c1 c2 hlt
  go_enter Try.func9, Try.ntmps9
  go_wp2_with (go_at_call 17; refine hc.out.mono ?_; rintro e w1 ⟨rfl, v1, hP, hv, hT⟩; have hP' := Lib.hid hP; have hv' := Lib.hid hv; have hT' := Lib.hid hT; clear hP hv hT)
  go_end0
  exact ⟨rfl, v1, hP'.out, hv'.out, hT'.out.ahead hb0.out⟩

set_option maxHeartbeats 4000000 in
set_option maxRecDepth 100000 in
theorem drop_nil (fr at_ : ByteArray) (w : World) : Calls Try.prog 9 #[.pointer Option.none, .string fr, .string at_] w fun e w' => e = .returned (.tuple #[]) ∧ Below w.heap.size w w' := by
  go_enter Try.func9, Try.ntmps9
  go_wp2
  exact bodyPost_ret (results_none rfl _ _ _) rfl ⟨rfl, below_box2 _ _ _⟩
set_option maxHeartbeats 4000000 in
set_option maxRecDepth 100000 in
theorem put_nil (x : Ent) (now : Int) (w : World) : Calls Try.prog 13 #[.pointer Option.none, evalue x, .int .i64 now] w fun e w' => e = .returned (.tuple #[]) ∧ Below w.heap.size w w' := by
  obtain ⟨x1, x2, x3, x4, x5, x6⟩ := x
  unfold evalue
  simp only
  go_enter Try.func13, Try.ntmps13
  go_wp2
  exact bodyPost_ret (results_none rfl _ _ _) rfl ⟨rfl, below_box2 _ _ _⟩
end Go.Proofs.Ythojnhdnflakiaa
