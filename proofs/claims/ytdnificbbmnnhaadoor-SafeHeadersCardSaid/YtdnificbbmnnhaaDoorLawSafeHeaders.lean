/-
  The walk of the statement SafeHeaders: for any header it returns true, and nothing that was there is changed.
-/
import Derived.Test.YtdnificbbmnnhaaDoorSafeAwake
namespace Go.Proofs.YtdnificbbmnnhaaDoor
open Go.RowKit Go.Lib Go.Shelf

theorem enters_awake10 (vs : Array Value) (w : World) : (callFunc 6 vs).run Tryd.prog w = .ok (.enter 6 vs) w := by kernel_rfl
theorem enters_header (vs : Array Value) (w : World) : (callFunc 13 vs).run Tryd.prog w = .ok (.enter 13 vs) w := by kernel_rfl
theorem enters_rheader (vs : Array Value) (w : World) : (callFunc 14 vs).run Tryd.prog w = .ok (.enter 14 vs) w := by kernel_rfl
theorem enters_forb (vs : Array Value) (w : World) : (callFunc 15 vs).run Tryd.prog w = .ok (.enter 15 vs) w := by kernel_rfl
theorem enters_rforb (vs : Array Value) (w : World) : (callFunc 16 vs).run Tryd.prog w = .ok (.enter 16 vs) w := by kernel_rfl
theorem run_eqB10 (x y : Operand) (b : Bool) (w : World) : (do eqGuard .eql 4 x y (.bool b) (.bool b); binOp .eql 4 (.bool b) (.bool b) : Sem Value).run Tryd.prog w = .ok (.bool true) w := by go_simp

/-- What the slots of the statement hold. -/
def shF (x y : ByteArray) (g : Nat) (b1 b2 : Bool) (j : Nat) (v : Value) (_ : World) : Prop :=
  match j with
  | 0 => v = .bool true
  | 1 => v = .bool true
  | 2 => v = .agg #[.string x, .string y]
  | 3 => v = .bool b1
  | 4 => v = .agg #[.string x, .string y]
  | 5 => v = .bool b1
  | 6 => v = .bool true
  | 7 => v = .bool true
  | 8 => v = .bool true
  | 9 => v = .pointer (some ⟨g, 0, Option.none⟩)
  | 10 => v = .string x
  | 11 => v = .bool b2
  | 12 => v = .pointer (some ⟨g, 0, Option.none⟩)
  | 13 => v = .string x
  | 14 => v = .bool b2
  | 15 => v = .bool true
  | 16 => v = .bool true
  | 17 => v = .bool true
  | _ => True
theorem shF_later {x y : ByteArray} {g : Nat} {b1 b2 : Bool} : Outlives (shF x y g b1 b2) := by
  intro j v w w' h hk
  unfold shF at h ⊢
  split at h
  all_goals exact h

set_option maxHeartbeats 4000000 in
set_option maxRecDepth 100000 in
theorem safeHeaders_law (x y : ByteArray) (w : World) (hB : x.size ≤ 140737488351232 ∧ y.size ≤ 140737488351232) :
    Calls Tryd.prog 4 #[.agg #[.string x, .string y]] w (Yes w) := by
  have hm : x.size ≤ maxLen := by have := hB.1; simp only [maxLen]; omega
  have hh := Lib.hid (fun W => header_any x y hm W)
  have hrh := Lib.hid (fun W => refHeader_any x y hB.1 W)
  have hf := Lib.hid (fun W => forbidden_any x hm W)
  have hrf := Lib.hid (fun W => refForbidden_any x hB.1 W)
  generalize headOk x y = b1 at hh hrh
  generalize forbOk x = b2 at hf hrf
  have hx0 := Lib.hid (box_name w x y)
  have hy0 : Hid ((w.alloc (.cells #[.string x, .string y] 26)).cell? ⟨w.heap.size, 0 + 1, Option.none⟩ = some (.string y)) := Lib.hid (box_value w x y)
  go_enter Tryd.func4, Tryd.ntmps4
  go_wp2
  refine wp_region_each (RInv 20 [3, 4, 5, 6, 7, 8, 9, 10, 11, 12, 13, 14, 15, 16, 17, 18, 19, 2] _ (shF x y w.heap.size b1 b2) (w.alloc (.cells #[.string x, .string y] 26)) NoMore) (by kernel_rfl) (by kernel_rfl) (RInv.start rfl trivial (Below.refl _ _).drew) ?_ ?_
  · intro i hi D a w1 hI hcl hnd hpre
    have hi' : i < 18 := hi
    have hcase : i = 0 ∨ i = 1 ∨ i = 2 ∨ i = 3 ∨ i = 4 ∨ i = 5 ∨ i = 6 ∨ i = 7 ∨ i = 8 ∨ i = 9 ∨ i = 10 ∨ i = 11 ∨ i = 12 ∨ i = 13 ∨ i = 14 ∨ i = 15 ∨ i = 16 ∨ i = 17 := by omega
    have hF := hI.fact
    rcases hcase with rfl | rfl | rfl | rfl | rfl | rfl | rfl | rfl | rfl | rfl | rfl | rfl | rfl | rfl | rfl | rfl | rfl | rfl
    · exact wpOp_call0 rfl (wanted_free rfl) 6 _ rfl (enters_awake10 _ _) (awake10_any w1) (fun e w' h => ⟨_, h.1, hI.add (by decide) shF_later (by decide) h.2 rfl⟩)
    · exact wpOp_move rfl (wanted_free rfl) _ rfl _ (hF 0 (hpre 0 (by kernel_rfl))) (hI.add (by decide) shF_later (by decide) (Below.refl _ _) rfl)
    · have g1 := hF 1 (hpre 1 (by kernel_rfl))
      exact wpOp_load rfl (wanted_by (d := 4) rfl _ rfl rfl g1) _ _ rfl _ _ (hI.same 1 (by decide)) (run_loadH w1 w.heap.size 0 x y (cell_later hI.below hx0.out) (cell_later hI.below hy0.out)) (hI.add (by decide) shF_later (by decide) (Below.refl _ _) rfl)
    · have g1 := hF 1 (hpre 1 (by kernel_rfl))
      exact wpOp_call1 rfl (wanted_by (d := 4) rfl _ rfl rfl g1) 13 _ _ rfl _ (hF 2 (hpre 2 (by kernel_rfl))) (enters_header _ _) (hh.out w1) (fun e w' h => ⟨_, h.1, hI.add (by decide) shF_later (by decide) h.2 rfl⟩)
    · have g1 := hF 1 (hpre 1 (by kernel_rfl))
      exact wpOp_load rfl (wanted_by (d := 4) rfl _ rfl rfl g1) _ _ rfl _ _ (hI.same 1 (by decide)) (run_loadH w1 w.heap.size 0 x y (cell_later hI.below hx0.out) (cell_later hI.below hy0.out)) (hI.add (by decide) shF_later (by decide) (Below.refl _ _) rfl)
    · have g1 := hF 1 (hpre 1 (by kernel_rfl))
      exact wpOp_call1 rfl (wanted_by (d := 4) rfl _ rfl rfl g1) 14 _ _ rfl _ (hF 4 (hpre 4 (by kernel_rfl))) (enters_rheader _ _) (hrh.out w1) (fun e w' h => ⟨_, h.1, hI.add (by decide) shF_later (by decide) h.2 rfl⟩)
    · have g1 := hF 1 (hpre 1 (by kernel_rfl))
      exact wpOp_bin rfl (wanted_by (d := 4) rfl _ rfl rfl g1) _ _ _ _ _ rfl _ _ _ (hF 3 (hpre 3 (by kernel_rfl))) (hF 5 (hpre 5 (by kernel_rfl))) (run_eqB10 _ _ _ w1) (hI.add (by decide) shF_later (by decide) (Below.refl _ _) rfl)
    · exact wpOp_pick rfl (wanted_free rfl) _ _ _ rfl true (hF 1 (hpre 1 (by kernel_rfl))) _ (hF 6 (hpre 6 (by kernel_rfl))) (hI.add (by decide) shF_later (by decide) (Below.refl _ _) rfl)
    · exact wpOp_move rfl (wanted_free rfl) _ rfl _ (hF 7 (hpre 7 (by kernel_rfl))) (hI.add (by decide) shF_later (by decide) (Below.refl _ _) rfl)
    · have g8 := hF 8 (hpre 8 (by kernel_rfl))
      exact wpOp_field rfl (wanted_by (d := 11) rfl _ rfl rfl g8) _ _ _ rfl _ _ (hI.same 1 (by decide)) (run_field0 w1 w.heap.size 0) (hI.add (by decide) shF_later (by decide) (Below.refl _ _) rfl)
    · have g8 := hF 8 (hpre 8 (by kernel_rfl))
      exact wpOp_load rfl (wanted_by (d := 11) rfl _ rfl rfl g8) _ _ rfl _ _ (hF 9 (hpre 9 (by kernel_rfl))) (run_load9 w1 w.heap.size 0 x (cell_later hI.below hx0.out)) (hI.add (by decide) shF_later (by decide) (Below.refl _ _) rfl)
    · have g8 := hF 8 (hpre 8 (by kernel_rfl))
      exact wpOp_call1 rfl (wanted_by (d := 11) rfl _ rfl rfl g8) 15 _ _ rfl _ (hF 10 (hpre 10 (by kernel_rfl))) (enters_forb _ _) (hf.out w1) (fun e w' h => ⟨_, h.1, hI.add (by decide) shF_later (by decide) h.2 rfl⟩)
    · have g8 := hF 8 (hpre 8 (by kernel_rfl))
      exact wpOp_field rfl (wanted_by (d := 11) rfl _ rfl rfl g8) _ _ _ rfl _ _ (hI.same 1 (by decide)) (run_field0 w1 w.heap.size 0) (hI.add (by decide) shF_later (by decide) (Below.refl _ _) rfl)
    · have g8 := hF 8 (hpre 8 (by kernel_rfl))
      exact wpOp_load rfl (wanted_by (d := 11) rfl _ rfl rfl g8) _ _ rfl _ _ (hF 12 (hpre 12 (by kernel_rfl))) (run_load9 w1 w.heap.size 0 x (cell_later hI.below hx0.out)) (hI.add (by decide) shF_later (by decide) (Below.refl _ _) rfl)
    · have g8 := hF 8 (hpre 8 (by kernel_rfl))
      exact wpOp_call1 rfl (wanted_by (d := 11) rfl _ rfl rfl g8) 16 _ _ rfl _ (hF 13 (hpre 13 (by kernel_rfl))) (enters_rforb _ _) (hrf.out w1) (fun e w' h => ⟨_, h.1, hI.add (by decide) shF_later (by decide) h.2 rfl⟩)
    · have g8 := hF 8 (hpre 8 (by kernel_rfl))
      exact wpOp_bin rfl (wanted_by (d := 11) rfl _ rfl rfl g8) _ _ _ _ _ rfl _ _ _ (hF 11 (hpre 11 (by kernel_rfl))) (hF 14 (hpre 14 (by kernel_rfl))) (run_eqB10 _ _ _ w1) (hI.add (by decide) shF_later (by decide) (Below.refl _ _) rfl)
    · exact wpOp_pick rfl (wanted_free rfl) _ _ _ rfl true (hF 8 (hpre 8 (by kernel_rfl))) _ (hF 15 (hpre 15 (by kernel_rfl))) (hI.add (by decide) shF_later (by decide) (Below.refl _ _) rfl)
    · exact wpOp_assign rfl (wanted_free rfl) _ rfl _ (hF 16 (hpre 16 (by kernel_rfl))) (hI.add (by decide) shF_later (by decide) (Below.refl _ _) rfl)
  · intro D a w1 hI hall
    have fz : a.eval (.tmp 2) = .bool true := hI.fact 17 (hall 17 (by decide))
    have hd := hI.defs
    have hB := hI.below
    clear hall
    go_wp2
    refine bodyPost_ret (results_tmp rfl a.tmps _ _) hd ⟨?_, below_then (below_box w _) hB⟩
    show Ending.returned (a.eval (.tmp 2)) = _
    rw [fz]
end Go.Proofs.YtdnificbbmnnhaaDoor
