/-
  The reference's SameInput (layer 21), of equal inputs. Conditions: those that each theorem states.
-/
import Derived.Test.YtodncamohimmmaaEvRefInput
import Derived.Test.YtodncamohimmmaaLow4
namespace Go.Proofs.Ytodncamohimmmaa
open Go.RowKit Go.Lib Leb

theorem cell_row15 {w : World} {g : Nat} {cs : Array Value} {t : TypeId} {fr : Nat × Nat} (h : w.heap[g]? = some (.cells cs t fr)) (i : Nat) (v : Value) (hv : cs[i]? = some v) : w.cell? ⟨g, i, Option.none⟩ = some v := by rw [cell_of_row w g i _ _ _ h, hv]
theorem four_boxes (w : World) (o1 o2 o3 o4 : Obj) (W' : World) (hb : Below ((((w.alloc o1).alloc o2).alloc o3).alloc o4).drew.heap.size ((((w.alloc o1).alloc o2).alloc o3).alloc o4).drew W') :
    W'.heap[w.heap.size]? = some o1 ∧ W'.heap[w.heap.size + 1]? = some o2 ∧ Below w.heap.size w W' := by
  replace hb := below_undrew hb
  have h1 := heap_alloc_new w o1
  have h2 := heap_alloc_new (w.alloc o1) o2
  simp only [World.size_alloc] at h2
  have e1 : ((((w.alloc o1).alloc o2).alloc o3).alloc o4).heap[w.heap.size]? = some o1 := by
    rw [Below.heap_alloc _ _ _ (by simp; omega), Below.heap_alloc _ _ _ (by simp; omega), Below.heap_alloc _ _ _ (by simp), h1]
  have e2 : ((((w.alloc o1).alloc o2).alloc o3).alloc o4).heap[w.heap.size + 1]? = some o2 := by
    rw [Below.heap_alloc _ _ _ (by simp), Below.heap_alloc _ _ _ (by simp), h2]
  exact ⟨(hb.block _ (by simp; omega)).trans e1, (hb.block _ (by simp)).trans e2, below_then (below_then (below_then (below_then (below_box _ _) (below_box _ _)) (below_box _ _)) (below_box _ _)) hb⟩
theorem four_below (w : World) (o1 o2 o3 o4 : Obj) : Below w.heap.size w ((((w.alloc o1).alloc o2).alloc o3).alloc o4).drew := (below_then (below_then (below_then (below_box _ _) (below_box _ _)) (below_box _ _)) (below_box _ _)).drew

set_option maxHeartbeats 16000000 in
set_option maxRecDepth 100000 in
theorem sameIn_any (i : In) (A B A' B' : Option Addr) (m n m' n' c d c' d' : Nat) (w : World) (ha : Hds w A m c i.hs) (hb : Hds w B n d i.hs) (ha' : Hds w A' m' c' i.rh) (hb' : Hds w B' n' d' i.rh) :
    Calls Try.prog 13 #[.agg (icell i A m c A' m' c'), .agg (icell i B n d B' n' d')] w fun e w' => e = .returned (.bool true) ∧ Below w.heap.size w w' := by
  have hs1 := Lib.hid (fun W (hW : Below w.heap.size w W) => same9_any A B m n c d i.hs W (ha.later hW) (hb.later hW))
  have hs2 := Lib.hid (fun W (hW : Below w.heap.size w W) => same9_any A' B' m' n' c' d' i.rh W (ha'.later hW) (hb'.later hW))
  clear ha hb ha' hb'
  obtain ⟨kind, ses, me, url, mode, cr, rd, de, no, hs, body, st, rh, rb, k⟩ := i
  unfold icell at *
  simp only at *
  go_enter Try.func13, Try.ntmps13
  go_wp2
  go_region
  all_goals
    go_wp2_with (first
      | (go_at_call 29; with_reducible refine (hs1.out _ (four_below w _ _ _ _)).mono ?_; rintro e w2 ⟨rfl, hb2⟩; obtain ⟨r1, r2, hbw⟩ := four_boxes w _ _ _ _ _ hb2; have a0 := cell_row15 r1 0 (.int .i64 kind) rfl; have a1 := cell_row15 r1 1 (.int .i64 ses) rfl; have a11 := cell_row15 r1 11 (.int .i64 st) rfl; have a12 := cell_row15 r1 12 (.slice A' m' c') rfl; have a13 := cell_row15 r1 13 (.string rb) rfl; have a14 := cell_row15 r1 14 (.int .u64 (k : Int)) rfl; have b0 := cell_row15 r2 0 (.int .i64 kind) rfl; have b1 := cell_row15 r2 1 (.int .i64 ses) rfl; have b11 := cell_row15 r2 11 (.int .i64 st) rfl; have b12 := cell_row15 r2 12 (.slice B' n' d') rfl; have b13 := cell_row15 r2 13 (.string rb) rfl; have b14 := cell_row15 r2 14 (.int .u64 (k : Int)) rfl; have hbw' := Lib.hid hbw; clear hb2 r1 r2 hbw)
      | (go_at_call 29; with_reducible refine (hs2.out _ hbw'.out).mono ?_; rintro e w3 ⟨rfl, hb3⟩; have hb3' := Lib.hid (below_then hbw'.out hb3); clear hb3))
    go_ret
    exact ⟨rfl, hb3'.out⟩
end Go.Proofs.Ytodncamohimmmaa
