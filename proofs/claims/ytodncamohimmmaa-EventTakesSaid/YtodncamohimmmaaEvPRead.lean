/-
  event's reader: its methods number, text and headers. Conditions: those that each theorem states.
-/
import Derived.Test.YtodncamohimmmaaLow7
import Derived.Test.YtodncamohimmmaaDelTakeM
import Derived.Test.YtodncamohimmmaaLow10
import Derived.Deep.RegionWith
namespace Go.Proofs.Ytodncamohimmmaa
open Go.RowKit Go.Lib Go.Maps Leb

def RdAt (W : World) (h : Nat) (A : Option Addr) (n c : Nat) (q : Int) (tb : Nat) (wv : Value) (e : Int) : Prop := W.heap[h]? = some (.cells #[.slice A n c, .int .i64 q, .pointer (some ⟨tb, 0, Option.none⟩), wv, .int .i64 e] 91 (0, 0))
section
variable {W W' : World} {h : Nat} {A : Option Addr} {n c : Nat} {q q' : Int} {tb : Nat} {wv : Value} {e e' : Int}
theorem RdAt.lt (H : RdAt W h A n c q tb wv e) : h < W.heap.size := (Array.getElem?_eq_some_iff.1 H).1
theorem RdAt.cells (H : RdAt W h A n c q tb wv e) : W.cell? ⟨h, 0, Option.none⟩ = some (.slice A n c) ∧ W.cell? ⟨h, 1, Option.none⟩ = some (.int .i64 q) ∧ W.cell? ⟨h, 2, Option.none⟩ = some (.pointer (some ⟨tb, 0, Option.none⟩)) ∧ W.cell? ⟨h, 3, Option.none⟩ = some wv ∧ W.cell? ⟨h, 4, Option.none⟩ = some (.int .i64 e) := by
  refine ⟨?_, ?_, ?_, ?_, ?_⟩ <;> (rw [cell_of_row W h _ _ _ _ H]; rfl)
theorem RdAt.free (H : RdAt W h A n c q tb wv e) (i : Nat) : W.frozen? ⟨h, i, Option.none⟩ = false := frozen_of_row W h i _ _ H
theorem three_stores {p i : Nat} {cs : Array Value} {t : TypeId} (H : RdAt W h A n c q tb wv e) (hp : W.heap[p]? = some (.cells cs t (0, 0))) (hne : p ≠ h) (v : Value) (q' e' : Int) :
    RdAt (((W.setCell ⟨p, i, Option.none⟩ v).setCell ⟨h, 1, Option.none⟩ (.int .i64 q')).setCell ⟨h, 4, Option.none⟩ (.int .i64 e')) h A n c q' tb wv e' ∧
    (((W.setCell ⟨p, i, Option.none⟩ v).setCell ⟨h, 1, Option.none⟩ (.int .i64 q')).setCell ⟨h, 4, Option.none⟩ (.int .i64 e')).heap[p]? = some (.cells (cs.setIfInBounds i v) t (0, 0)) ∧
    Alt W (((W.setCell ⟨p, i, Option.none⟩ v).setCell ⟨h, 1, Option.none⟩ (.int .i64 q')).setCell ⟨h, 4, Option.none⟩ (.int .i64 e')) (fun j => j = h ∨ j = p) := by
  have h0 : (W.setCell ⟨p, i, Option.none⟩ v).heap[h]? = _ := (heap_setCell_other W ⟨p, i, Option.none⟩ h v (fun e => hne e.symm)).trans H
  have h1 := heap_setCell_same _ h 1 _ _ (.int .i64 q') h0
  have h2 := heap_setCell_same _ h 4 _ _ (.int .i64 e') h1
  have p0 := heap_setCell_same W p i _ _ v hp
  have p1 := (heap_setCell_other (W.setCell ⟨p, i, Option.none⟩ v) ⟨h, 1, Option.none⟩ p (.int .i64 q') hne).trans p0
  have p2 := (heap_setCell_other _ ⟨h, 4, Option.none⟩ p (.int .i64 e') hne).trans p1
  have a0 := alt_set W ⟨p, i, Option.none⟩ v (S := fun j => j = h ∨ j = p) (.inr rfl)
  have a1 := a0.trans (alt_set _ ⟨h, 1, Option.none⟩ (.int .i64 q') (S := fun j => j = h ∨ j = p) (.inl rfl)) fun _ _ h => h
  have a2 := a1.trans (alt_set _ ⟨h, 4, Option.none⟩ (.int .i64 e') (S := fun j => j = h ∨ j = p) (.inl rfl)) fun _ _ h => h
  exact ⟨h2, p2, a2⟩
end

set_option maxHeartbeats 32000000 in
set_option maxRecDepth 100000 in
theorem rnumber_ok (h : Nat) (A : Option Addr) (n c : Nat) (X : List Int) (q : Int) (tb : Nat) (wv : Value) (p i : Nat) (cs : Array Value) (t : TypeId) (v : Int) (W : World) (H : RdAt W h A n c q tb wv 0) (hX : Holds W A n c X) (hp : W.heap[p]? = some (.cells cs t (0, 0))) (hc : cs[i]? = some (.int .u64 v)) (hne : p ≠ h) :
    Calls Try.prog 44 #[.pointer (some ⟨h, 0, Option.none⟩), .pointer (some ⟨p, i, Option.none⟩)] W fun e W' => e = .returned (.tuple #[]) ∧ RdAt W' h A n c (take X q).2.1 tb wv (take X q).2.2 ∧ W'.heap[p]? = some (.cells (cs.setIfInBounds i (.int .u64 (take X q).1)) t (0, 0)) ∧ Alt W W' (fun j => j = h ∨ j = p) := by
  obtain ⟨c0, c1, c2, c3, c4⟩ := H.cells
  have f1 := H.free 1
  have f4 := H.free 4
  have cp : W.cell? ⟨p, i, Option.none⟩ = some (.int .u64 v) := by rw [cell_of_row W p i _ _ _ hp]; exact hc
  have fp : W.frozen? ⟨p, i, Option.none⟩ = false := frozen_of_row W p i _ _ hp
  obtain ⟨a, q', e', ht⟩ : ∃ a q' e', take X q = (a, q', e') := ⟨_, _, _, rfl⟩
  have htk := Lib.hid (fun V (hV : Holds V A n c X) => take_any A n c X q V hV)
  rw [ht] at htk ⊢
  have hX' := Lib.hid hX
  have hst := Lib.hid (three_stores (i := i) H hp hne (.int .u64 a) q' e')
  have hHp := Lib.hid H
  have hbh : (h == p) = false := beq_eq_false_iff_ne.2 (Ne.symm hne)
  clear H hp hc hX ht
  go_enter Try.func44, Try.ntmps44
  go_wp2
  go_region_with (go_at_call 54; refine (htk.out _ (by first | exact hX'.out | exact hX'.out.later (Below.refl _ _).drew)).mono ?_; rintro e w2 ⟨rfl, hw2⟩; subst hw2)
  all_goals
    go_wp2
    exact bodyPost_end (results_none rfl _ _ _) rfl (by first | exact ⟨rfl, hst.out.1, hst.out.2.1, hst.out.2.2⟩ | exact ⟨rfl, hst.out.1, hst.out.2.1, hst.out.2.2.behind (Below.refl _ _).drew⟩ | exact ⟨rfl, hst.out.1, hst.out.2.1, hst.out.2.2.behind (Below.refl _ _).drew.drew⟩)

set_option maxHeartbeats 8000000 in
set_option maxRecDepth 100000 in
theorem rnumber_no (h : Nat) (A : Option Addr) (n c : Nat) (q : Int) (tb : Nat) (wv : Value) (e : Int) (p i : Nat) (W : World) (H : RdAt W h A n c q tb wv e) (he : e ≠ 0) :
    Calls Try.prog 44 #[.pointer (some ⟨h, 0, Option.none⟩), .pointer (some ⟨p, i, Option.none⟩)] W fun e W' => e = .returned (.tuple #[]) ∧ W' = W := by
  have c4 := H.cells.2.2.2.2
  have hb : (e == 0) = false := beq_eq_false_iff_ne.2 he
  clear H
  go_enter Try.func44, Try.ntmps44
  go_wp2
  exact bodyPost_end (results_none rfl _ _ _) rfl ⟨rfl, rfl⟩
set_option maxHeartbeats 8000000 in
set_option maxRecDepth 100000 in
theorem rtext_no (h : Nat) (A : Option Addr) (n c : Nat) (q : Int) (tb : Nat) (wv : Value) (e : Int) (p i : Nat) (W : World) (H : RdAt W h A n c q tb wv e) (he : e ≠ 0) :
    Calls Try.prog 87 #[.pointer (some ⟨h, 0, Option.none⟩), .pointer (some ⟨p, i, Option.none⟩)] W fun e W' => e = .returned (.tuple #[]) ∧ W' = W := by
  have c4 := H.cells.2.2.2.2
  have hb : (e == 0) = false := beq_eq_false_iff_ne.2 he
  clear H
  go_enter Try.func87, Try.ntmps87
  go_wp2
  exact bodyPost_end (results_none rfl _ _ _) rfl ⟨rfl, rfl⟩
set_option maxHeartbeats 8000000 in
set_option maxRecDepth 100000 in
theorem rheaders_no (h : Nat) (A : Option Addr) (n c : Nat) (q : Int) (tb : Nat) (wv : Value) (e : Int) (p i : Nat) (W : World) (H : RdAt W h A n c q tb wv e) (he : e ≠ 0) :
    Calls Try.prog 86 #[.pointer (some ⟨h, 0, Option.none⟩), .pointer (some ⟨p, i, Option.none⟩)] W fun e W' => e = .returned (.tuple #[]) ∧ W' = W := by
  have c4 := H.cells.2.2.2.2
  have hb : (e == 0) = false := beq_eq_false_iff_ne.2 he
  clear H
  go_enter Try.func86, Try.ntmps86
  go_wp2
  exact bodyPost_end (results_none rfl _ _ _) rfl ⟨rfl, rfl⟩
end Go.Proofs.Ytodncamohimmmaa
