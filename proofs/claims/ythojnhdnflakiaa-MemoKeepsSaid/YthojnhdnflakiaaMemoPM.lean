/-
  memo's Memo in memory, and the functions that only read it. Conditions: those that each theorem states.
-/
import Derived.Test.YthojnhdnflakiaaMemoPlace
import Derived.Lib.SliceRun
namespace Go.Proofs.Ythojnhdnflakiaa
open Go.RowKit Go.Lib Go.Shelf

/-- Block b holds a memo: at most so many entries, and the entries l, in memory of its own. -/
structure PM (w : World) (b most : Nat) (v : Value) (l : List Ent) : Prop where
  blk : w.heap[b]? = some (.cells #[.int .i64 (most : Int), v] 47 (0, 0))
  own : OwnsE w (b + 1) v l
theorem PM.lt {w : World} {b most : Nat} {v : Value} {l : List Ent} (h : PM w b most v l) : b < w.heap.size := (Array.getElem?_eq_some_iff.1 h.blk).1
theorem PM.later {w w' : World} {b most : Nat} {v : Value} {l : List Ent} (h : PM w b most v l) (hb : Below w.heap.size w w') : PM w' b most v l := ⟨(hb.block _ h.lt).trans h.blk, h.own.kept hb (Nat.le_refl _)⟩
theorem PM.cells {w : World} {b most : Nat} {v : Value} {l : List Ent} (h : PM w b most v l) : w.cell? ⟨b, 0, Option.none⟩ = some (.int .i64 (most : Int)) ∧ w.cell? ⟨b, 1, Option.none⟩ = some v := by
  refine ⟨?_, ?_⟩
  · rw [cell_of_row w _ 0 _ _ _ h.blk]; rfl
  · rw [cell_of_row w _ 1 _ _ _ h.blk]; rfl
theorem PM.free {w : World} {b most : Nat} {v : Value} {l : List Ent} (h : PM w b most v l) : w.frozen? ⟨b, 0, Option.none⟩ = false ∧ w.frozen? ⟨b, 1, Option.none⟩ = false :=
  ⟨frozen_of_row w _ 0 _ _ h.blk, frozen_of_row w _ 1 _ _ h.blk⟩

set_option maxHeartbeats 2000000 in
set_option maxRecDepth 100000 in
theorem new_no (most : Int) (hno : most < 1 ∨ 64 < most) (w : World) : Calls Try.prog 6 #[.int .i64 most] w fun e w' => e = .returned (.tuple #[.pointer Option.none, .int .i64 1]) ∧ w' = w := by
  rcases hno with h | h
  · go_enter Try.func6, Try.ntmps6
    go_wp2
    go_ret2
    exact ⟨rfl, rfl⟩
  · have h1 : ¬ most < 1 := by omega
    go_enter Try.func6, Try.ntmps6
    go_wp2
    go_ret2
    exact ⟨rfl, rfl⟩

set_option maxHeartbeats 2000000 in
set_option maxRecDepth 100000 in
theorem new_yes (most : Nat) (h1 : 1 ≤ most) (h2 : most ≤ 64) (w : World) : Calls Try.prog 6 #[.int .i64 most] w fun e w' => e = .returned (.tuple #[.pointer (some ⟨w.heap.size, 0, Option.none⟩), .int .i64 0]) ∧ PM w' w.heap.size most (.slice Option.none 0 0) [] ∧ Below w.heap.size w w' := by
  have hR : Hid (PM (w.alloc (.cells #[.int .i64 (most : Int), .slice Option.none 0 0] 47)) w.heap.size most (.slice Option.none 0 0) []) := Lib.hid ⟨heap_alloc_new w _, World.ownsRow_nil _ _ _ _⟩
  have hb := Lib.hid (below_box w (.cells #[.int .i64 (most : Int), .slice Option.none 0 0] 47))
  go_enter Try.func6, Try.ntmps6
  go_wp2
  go_ret2
  exact ⟨rfl, hR.out, hb.out⟩

set_option maxHeartbeats 4000000 in
set_option maxRecDepth 100000 in
theorem full_any (b most : Nat) (v : Value) (l : List Ent) (w : World) (h : PM w b most v l) :
    Calls Try.prog 24 #[.pointer (some ⟨b, 0, Option.none⟩)] w fun e w' => e = .returned (.bool (decide (l.length = most))) ∧ Below w.heap.size w w' := by
  obtain ⟨A, c, rfl, hE⟩ := h.own.eds
  obtain ⟨m0, m1⟩ := h.cells
  clear h hE
  generalize l.length = n at *
  have hr : Hid (((n : Int) == (most : Int)) = decide (n = most)) := Lib.hid (by rw [Bool.eq_iff_iff, beq_iff_eq, decide_eq_true_iff]; omega)
  have hb0 := Lib.hid (Below.refl w.heap.size w).drew
  go_enter Try.func24, Try.ntmps24
  go_wp2
  go_region
  all_goals
    go_wp2
    go_ret
    exact ⟨ret_bool hr.out, below_undrew (Below.refl _ _)⟩

set_option maxHeartbeats 4000000 in
set_option maxRecDepth 100000 in
theorem place_any (b most : Nat) (v : Value) (l : List Ent) (x : Ent) (w : World) (h : PM w b most v l) :
    Calls Try.prog 23 #[.pointer (some ⟨b, 0, Option.none⟩), evalue x] w fun e w' => e = .returned (.int .i64 (firstOf (fun y => sameKey y x) l)) ∧ Below w.heap.size w w' := by
  obtain ⟨A, c, rfl, hE⟩ := h.own.eds
  have hb0 := Lib.hid (below_box w (.cells (ecell x).toArray 32))
  have m1 : (w.alloc (.cells #[.string x.fr, .string x.at_, .bool x.cred, .string x.me, .string x.he, .int .i64 x.til] 32)).cell? ⟨b, 1, Option.none⟩ = some (.slice A l.length c) := cell_later hb0.out h.cells.2
  have hs := six_new w x 32
  have hc := Lib.hid (indexFunc15_any (fun y => sameKey y x) 33 #[.pointer (some ⟨w.heap.size, 0, Option.none⟩)] (fun _ _ => by kernel_rfl) A l.length c l (w.alloc (.cells (ecell x).toArray 32)) (hE.later hb0.out)
    (fun W y _ hb => place1_any y x w.heap.size W (hs.later hb)))
  have hev : evalue x = .agg #[.string x.fr, .string x.at_, .bool x.cred, .string x.me, .string x.he, .int .i64 x.til] := rfl
  rw [hev]
  clear hev h hE hs
  generalize firstOf (fun y => sameKey y x) l = r at hc ⊢
  go_enter Try.func23, Try.ntmps23
  go_wp2_with (go_at_call 30; refine hc.out.mono ?_; rintro e w' ⟨rfl, hb⟩)
  go_ret
  exact ⟨rfl, below_then hb0.out hb⟩

set_option maxHeartbeats 4000000 in
set_option maxRecDepth 100000 in
/-- The function that Has hands on: the time and the question lie in boxes. -/
theorem has1_any (y x : Ent) (now : Int) (gn gx : Nat) (w : World) (hn : w.cell? ⟨gn, 0, Option.none⟩ = some (.int .i64 now)) (hx : Six w gx x) :
    Calls Try.prog 20 #[evalue y, .pointer (some ⟨gn, 0, Option.none⟩), .pointer (some ⟨gx, 0, Option.none⟩)] w fun e w' => e = .returned (.bool (letsE x now y)) ∧ Below w.heap.size w w' := by
  have hl := Lib.hid (fun W => live_any y now W)
  have ha := Lib.hid (fun W => allows_any y x W)
  have hle : letsE x now y = (decide (now < y.til) && ((y.fr.toList == x.fr.toList) && ((y.at_.toList == x.at_.toList) && ((!x.cred || y.cred) && (fits y y.me x.me true && fits y y.he x.he (!(x.he.toList == [97, 117, 116, 104, 111, 114, 105, 122, 97, 116, 105, 111, 110]))))))) := rfl
  rw [hle]
  clear hle
  generalize decide (now < y.til) = r1 at hl ⊢
  generalize ((y.fr.toList == x.fr.toList) && ((y.at_.toList == x.at_.toList) && ((!x.cred || y.cred) && (fits y y.me x.me true && fits y y.he x.he (!(x.he.toList == [97, 117, 116, 104, 111, 114, 105, 122, 97, 116, 105, 111, 110])))))) = r2 at ha ⊢
  obtain ⟨y1, y2, y3, y4, y5, y6⟩ := y
  obtain ⟨x1, x2, x3, x4, x5, x6⟩ := x
  have hb0 := Lib.hid (below_box w (.cells (ecell ⟨y1, y2, y3, y4, y5, y6⟩).toArray 32))
  have hs := Lib.hid (six_new w ⟨y1, y2, y3, y4, y5, y6⟩ 32)
  have hx' := Lib.hid (hx.later hb0.out)
  have hn' : (w.alloc (.cells #[.string y1, .string y2, .bool y3, .string y4, .string y5, .int .i64 y6] 32)).cell? ⟨gn, 0, Option.none⟩ = some (.int .i64 now) := cell_later hb0.out hn
  unfold evalue at hl ha ⊢
  simp only at hl ha ⊢
  clear hn hx
  cases r1 with
  | false =>
    go_enter Try.func20, Try.ntmps20
    go_wp2_with (go_at_call 21; (with_reducible refine (hl.out _).mono ?_); rintro e1 w1 ⟨rfl, hb1⟩)
    go_ret
    exact ⟨ret_bool (by simp), below_then hb0.out hb1⟩
  | true =>
    go_enter Try.func20, Try.ntmps20
    go_wp2_with (first
      | (go_at_call 21; (with_reducible refine (hl.out _).mono ?_); rintro e1 w1 ⟨rfl, hb1⟩; obtain ⟨z1, z2, z3, z4, z5, z6⟩ := hs.out.later hb1; obtain ⟨k1, k2, k3, k4, k5, k6⟩ := hx'.out.later hb1; simp only at z1 z2 z3 z4 z5 z6 k1 k2 k3 k4 k5 k6)
      | (go_at_call 22; (with_reducible refine (ha.out _).mono ?_); rintro e2 w2 ⟨rfl, hb2⟩))
    go_ret
    exact ⟨ret_bool (by simp), below_then hb0.out (below_then hb1 hb2)⟩

section
variable (p : Ent → Bool) (g : Nat) (lb : Array Value)
set_option maxHeartbeats 4000000 in
set_option maxRecDepth 100000 in
theorem containsFunc15_any (eg : ∀ args w, (callFunc g args).run Try.prog w = .ok (.enter g args) w) (A : Option Addr) (n c : Nat) (l : List Ent) (w : World) (h : Eds w A n c l) (hp : Preds l p g lb w) :
    Calls Try.prog 19 #[.slice A n c, .func (.func g) #[] lb] w fun e w' => e = .returned (.bool (l.any p)) ∧ Below w.heap.size w w' := by
  have hc := Lib.hid (indexFunc15_any p g lb eg A n c l w h hp)
  have hr := Lib.hid (firstOf_any p l)
  clear h hp
  generalize firstOf p l = r at hc hr
  go_enter Try.func19, Try.ntmps19
  go_wp2_with (go_at_call 30; refine hc.out.mono ?_; rintro e w' ⟨rfl, hb⟩)
  go_ret
  exact ⟨ret_bool (by rw [← hr.out]), hb⟩
end

set_option maxHeartbeats 4000000 in
set_option maxRecDepth 100000 in
theorem has_nil (x : Ent) (now : Int) (w : World) : Calls Try.prog 11 #[.pointer Option.none, evalue x, .int .i64 now] w fun e w' => e = .returned (.bool false) ∧ Below w.heap.size w w' := by
  obtain ⟨x1, x2, x3, x4, x5, x6⟩ := x
  unfold evalue
  simp only
  go_enter Try.func11, Try.ntmps11
  go_wp2
  go_ret
  exact ⟨rfl, below_box2 _ _ _⟩

set_option maxHeartbeats 4000000 in
set_option maxRecDepth 100000 in
theorem has_any (b most : Nat) (v : Value) (l : List Ent) (x : Ent) (now : Int) (w : World) (h : PM w b most v l) :
    Calls Try.prog 11 #[.pointer (some ⟨b, 0, Option.none⟩), evalue x, .int .i64 now] w fun e w' => e = .returned (.bool (has l x now)) ∧ Below w.heap.size w w' := by
  obtain ⟨A, c, rfl, hE⟩ := h.own.eds
  obtain ⟨x1, x2, x3, x4, x5, x6⟩ := x
  have hb0 := Lib.hid (below_box2 w (.cells (ecell ⟨x1, x2, x3, x4, x5, x6⟩).toArray 32) (.cells #[.int .i64 now] 3))
  have m1 : ((w.alloc (.cells #[.string x1, .string x2, .bool x3, .string x4, .string x5, .int .i64 x6] 32)).alloc (.cells #[.int .i64 now] 3)).cell? ⟨b, 1, Option.none⟩ = some (.slice A l.length c) := cell_later hb0.out h.cells.2
  have hs := six_old w ⟨x1, x2, x3, x4, x5, x6⟩ 32 (.cells #[.int .i64 now] 3)
  have hn : ((w.alloc (.cells (ecell ⟨x1, x2, x3, x4, x5, x6⟩).toArray 32)).alloc (.cells #[.int .i64 now] 3)).cell? ⟨w.heap.size + 1, 0, Option.none⟩ = some (.int .i64 now) := by
    have hsz : (w.alloc (.cells (ecell ⟨x1, x2, x3, x4, x5, x6⟩).toArray 32)).heap.size = w.heap.size + 1 := by simp
    rw [← hsz, cell_of_row _ _ 0 _ _ _ (heap_alloc_new _ _)]
    rfl
  have hc := Lib.hid (containsFunc15_any (letsE ⟨x1, x2, x3, x4, x5, x6⟩ now) 20 #[.pointer (some ⟨w.heap.size + 1, 0, Option.none⟩), .pointer (some ⟨w.heap.size, 0, Option.none⟩)] (fun _ _ => by kernel_rfl) A l.length c l _ (hE.later hb0.out)
    (fun W y _ hb => has1_any y ⟨x1, x2, x3, x4, x5, x6⟩ now (w.heap.size + 1) w.heap.size W (cell_later hb hn) (hs.later hb)))
  have hr : has l ⟨x1, x2, x3, x4, x5, x6⟩ now = l.any (letsE ⟨x1, x2, x3, x4, x5, x6⟩ now) := rfl
  rw [hr]
  clear h hE hs hn hr
  generalize l.any (letsE ⟨x1, x2, x3, x4, x5, x6⟩ now) = r at hc ⊢
  unfold evalue
  simp only
  go_enter Try.func11, Try.ntmps11
  go_wp2_with (go_at_call 19; refine hc.out.mono ?_; rintro e w' ⟨rfl, hb⟩)
  go_ret
  exact ⟨rfl, below_then hb0.out hb⟩

set_option maxHeartbeats 4000000 in
set_option maxRecDepth 100000 in
theorem list_nil (w : World) : Calls Try.prog 16 #[.pointer Option.none] w fun e w' => e = .returned (.slice Option.none 0 0) ∧ w' = w := by
  go_enter Try.func16, Try.ntmps16
  go_wp2
  go_ret
  exact ⟨rfl, rfl⟩

set_option maxHeartbeats 4000000 in
set_option maxRecDepth 100000 in
theorem clone15_any (A : Option Addr) (n c : Nat) (l : List Ent) (w : World) (h : Eds w A n c l) (hn : n ≤ 1000000) :
    Calls Try.prog 28 #[.slice A n c] w (GivesE w l) := by
  obtain ⟨i0, hi, hz0, hz1, hz2⟩ := info_parts Try.infoE
  have qnil : ∀ (w : World) (a : Option Addr) (n c n' c' : Nat), (binOp .eql 39 (.slice a n c) (.slice Option.none n' c')).run Try.prog w = .ok (.bool a.isNone) w := fun w a n c n' c' => Lib.run_eql_slice_nil w _ _ a n c n' c' Try.underlying39
  cases A with
  | none =>
    have hc := h.bare rfl
    subst hc
    have h0 : n = 0 := by have := h.cap; omega
    subst h0
    have hl : l = [] := List.eq_nil_of_length_eq_zero h.len
    subst hl
    have ho := Lib.hid (World.ownsRow_nil w w.heap.size 32 6)
    clear h
    go_enter Try.func28, Try.ntmps28
    go_wp2
    go_ret
    exact ⟨_, rfl, ho.out, Below.refl _ _⟩
  | some ad =>
    have h00 : Hid (OwnsE (w.alloc (.cells #[] 32)) w.heap.size (.slice (some ⟨w.heap.size, 0, Option.none⟩) 0 0) []) := Lib.hid (by
      have := World.ownsRow_made (base := w.heap.size) (e := 32) (size := 6) w #[] 0 (Nat.le_refl _) (Nat.zero_le _) rfl
      simpa [OwnsE, ecells] using this)
    have hb0 := Lib.hid (below_box w (.cells #[] 32))
    have hE := Lib.hid (h.later hb0.out)
    clear h
    go_enter Try.func28, Try.ntmps28
    go_wp2_with (at_builtin; refine wpList_append_eds rfl (.tmp 5) (.tmp 6) 39 rfl w.heap.size i0 Try.underlying39 hi hz0 hz1 hz2 _ _ rfl h00.out _ _ _ _ rfl hE.out (by simp; omega) (by simp) ?_; intro v2 w2 hown2 hg2 _; have hb2 := Lib.hid (h00.out.below hb0.out hg2 (by simp)); rw [List.nil_append] at hown2; replace hown2 := Lib.hid hown2)
    go_ret
    exact ⟨_, rfl, hown2.out, hb2.out⟩

set_option maxHeartbeats 4000000 in
set_option maxRecDepth 100000 in
theorem list15_any (b most : Nat) (v : Value) (l : List Ent) (w : World) (h : PM w b most v l) (hll : l.length ≤ 1000) :
    Calls Try.prog 16 #[.pointer (some ⟨b, 0, Option.none⟩)] w (GivesE w l) := by
  obtain ⟨A, c, rfl, hE⟩ := h.own.eds
  have m1 := h.cells.2
  have hc := Lib.hid (clone15_any A l.length c l w hE (by omega))
  clear h hE
  go_enter Try.func16, Try.ntmps16
  go_wp2_with (go_at_call 28; refine hc.out.mono ?_; rintro e w' ⟨v2, rfl, ho, hb⟩)
  go_ret
  exact ⟨v2, rfl, ho, hb⟩
end Go.Proofs.Ythojnhdnflakiaa
