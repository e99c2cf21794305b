/-
  The walk of the statement CycParts, if Table, Sum and Put are as they are held to be.
-/
import Derived.Test.YtjcbndnldmpmaaaCycLaws
namespace Go.Proofs.Ytjcbndnldmpmaaa
open Go.RowKit

set_option maxRecDepth 100000 in
set_option maxHeartbeats 400000 in
theorem cshort_any (A : Option Addr) (n c : Nat) (l : List Int) (w : World) (hA : Holds w A n c l) :
    Calls Try.prog 10 #[.slice A n c] w fun e w' => e = .returned (.slice A (min n 200) c) ∧ w = w' := by
  have h1 := hA.cap
  have h2 := hA.room
  unfold maxLen at h2
  by_cases h : n ≤ 200
  · have hm : min n 200 = n := by omega
    rw [hm]
    clear hm
    go_enter Try.func10, Try.ntmps10
    go_wp2
    go_ret
    exact ⟨rfl, rfl⟩
  · have hm : min n 200 = 200 := by omega
    rw [hm]
    clear hm
    obtain ⟨b, off, rfl, _⟩ := hA.cell (by omega)
    go_enter Try.func10, Try.ntmps10
    go_wp2
    go_ret
    exact ⟨rfl, rfl⟩

/-- What 'short' gives, in whatever later world: the front of the bytes, its length theirs. -/
theorem cshort_later {A : Option Addr} {n c : Nat} {l0 : List Int} {w : World} (hA : Holds w A n c l0) :
    ∃ l : List Int, l.length ≤ 200 ∧ Holds w A l.length c l ∧ ∀ W, Below w.heap.size w W → Calls Try.prog 10 #[.slice A n c] W fun e w' => e = .returned (.slice A l.length c) ∧ W = w' := by
  have hF := hA.front (k := min n 200) (Nat.min_le_left _ _)
  have hl := hF.len
  refine ⟨l0.take (min n 200), by rw [hl]; exact Nat.min_le_right _ _, by rw [hl]; exact hF, fun W hb => ?_⟩
  rw [hl]
  exact cshort_any A n c l0 W (hA.later hb)

theorem enters_cawake (vs : Array Value) (w : World) : (callFunc 9 vs).run Try.prog w = .ok (.enter 9 vs) w := by kernel_rfl
theorem enters_cshort (vs : Array Value) (w : World) : (callFunc 10 vs).run Try.prog w = .ok (.enter 10 vs) w := by kernel_rfl
theorem run_single (w : World) (A : Option Addr) (n c : Nat) : (Instr.buildSlice 40 1 #[(0, .slice A n c)]).run Try.prog w = .ok (.slice (some ⟨w.heap.size, 0, Option.none⟩) 1 1) (w.alloc (.cells #[.slice A n c] 28)) := by go_simp
theorem run_quad (w : World) (A B C D : Option Addr) (n m k j c d e f : Nat) : (Instr.buildSlice 40 4 #[(0, .slice A n c), (1, .slice B m d), (2, .slice C k e), (3, .slice D j f)]).run Try.prog w = .ok (.slice (some ⟨w.heap.size, 0, Option.none⟩) 4 4) (w.alloc (.cells #[.slice A n c, .slice B m d, .slice C k e, .slice D j f] 28)) := by go_simp
theorem pp_one (w : World) {A1 : Option Addr} {c1 : Nat} {l1 : List Int} (h1 : Holds w A1 l1.length c1 l1) :
    PP [l1] (.slice (some ⟨w.heap.size, 0, Option.none⟩) 1 1) (w.alloc (.cells #[.slice A1 l1.length c1] 28)) := by
  refine ⟨_, 1, rfl, rfl, fun _ => ⟨w.heap.size, 0, rfl, fun j hj => ?_⟩⟩
  have hc := cell_of_row (w.alloc (.cells #[.slice A1 l1.length c1] 28)) w.heap.size j _ _ (0, 0) (heap_alloc_new w _)
  rw [Nat.zero_add, hc]
  obtain rfl : j = 0 := by have : j < 1 := hj; omega
  exact ⟨A1, _, c1, rfl, h1.alloc _⟩
theorem pp_four (w : World) {A1 A2 A3 A4 : Option Addr} {c1 c2 c3 c4 : Nat} {l1 l2 l3 l4 : List Int} (h1 : Holds w A1 l1.length c1 l1) (h2 : Holds w A2 l2.length c2 l2) (h3 : Holds w A3 l3.length c3 l3) (h4 : Holds w A4 l4.length c4 l4) :
    PP [l1, l2, l3, l4] (.slice (some ⟨w.heap.size, 0, Option.none⟩) 4 4) (w.alloc (.cells #[.slice A1 l1.length c1, .slice A2 l2.length c2, .slice A3 l3.length c3, .slice A4 l4.length c4] 28)) := by
  refine ⟨_, 4, rfl, rfl, fun _ => ⟨w.heap.size, 0, rfl, fun j hj => ?_⟩⟩
  have hc := cell_of_row (w.alloc (.cells #[.slice A1 l1.length c1, .slice A2 l2.length c2, .slice A3 l3.length c3, .slice A4 l4.length c4] 28)) w.heap.size j _ _ (0, 0) (heap_alloc_new w _)
  rw [Nat.zero_add, hc]
  have hj' : j = 0 ∨ j = 1 ∨ j = 2 ∨ j = 3 := by have : j < 4 := hj; omega
  rcases hj' with rfl | rfl | rfl | rfl
  · exact ⟨A1, _, c1, rfl, h1.alloc _⟩
  · exact ⟨A2, _, c2, rfl, h2.alloc _⟩
  · exact ⟨A3, _, c3, rfl, h3.alloc _⟩
  · exact ⟨A4, _, c4, rfl, h4.alloc _⟩

/-- What the slots of the last statement hold. -/
def paF (A B C X : Option Addr) (na nb nc ca cb cc cx : Nat) (la lb lc l : List Int) (j : Nat) (v : Value) (w : World) : Prop :=
  match j with
  | 0 => v = .bool true
  | 1 => v = .bool true
  | 2 => v = .agg (cells32 tab0).toArray
  | 3 => v = .slice A na ca
  | 4 => v = .slice A la.length ca
  | 5 => v = .slice B nb cb
  | 6 => v = .slice B lb.length cb
  | 7 => v = .slice C nc cc
  | 8 => v = .slice C lc.length cc
  | 9 => PP [la, [], lb, lc] v w
  | 10 => v = .int .u32 ((4294967295 - regs tab0 [la, [], lb, lc] : Nat) : Int)
  | 11 => v = .agg (cells32 tab0).toArray
  | 12 => v = .slice X l.length cx
  | 13 => PP [l] v w
  | 14 => v = .int .u32 ((4294967295 - regs tab0 [l] : Nat) : Int)
  | 15 => v = .bool true
  | 16 => v = .bool true
  | 17 => v = .bool true
  | 18 => v = .agg (cells32 tab0).toArray
  | 19 => v = .int .u32 0
  | 20 => v = .bool true
  | 21 => v = .bool true
  | 22 => v = .bool true
  | _ => True
theorem paF_later {A B C X : Option Addr} {na nb nc ca cb cc cx : Nat} {la lb lc l : List Int} : Outlives (paF A B C X na nb nc ca cb cc cx la lb lc l) := by
  intro j v w w' h hk
  unfold paF at h ⊢
  split at h
  all_goals first | exact h.keeps hk | exact h

theorem info8 : (Try.prog.info? 5).map (fun i => (i.zero, i.size, i.bytes)) = some (some (.int .u8 0), 1, 1) := by kernel_rfl

set_option maxRecDepth 100000 in
set_option maxHeartbeats 1600000 in
theorem cycParts_said (hT : TableSaid) (hS : SumSaid) (hP : PutSaid) (A : Option Addr) (na ca : Nat) (la0 : List Int) (B : Option Addr) (nb cb : Nat) (lb0 : List Int) (C : Option Addr) (nc cc : Nat) (lc0 : List Int) (w : World)
    (hA : Holds w A na ca la0) (hB : Holds w B nb cb lb0) (hC : Holds w C nc cc lc0) :
    Calls Try.prog 6 #[.slice A na ca, .slice B nb cb, .slice C nc cc] w (Yes w) := by
  obtain ⟨i0, hi0, hz0, hz1, hz2⟩ := info_parts info8
  obtain ⟨la, ka, HA0, SA0⟩ := cshort_later hA
  obtain ⟨lb, kb, HB0, SB0⟩ := cshort_later hB
  obtain ⟨lc, kc, HC0, SC0⟩ := cshort_later hC
  have KA := Lib.hid SA0
  have KB := Lib.hid SB0
  have KC := Lib.hid SC0
  clear SA0 SB0 SC0 hA hB hC
  go_enter Try.func6, Try.ntmps6
  go_wp2_with fail
  refine (hT w).mono ?_
  rintro e wt ⟨rfl, hbt⟩
  go_wp2_with (with_reducible refine wpList_table rfl _ _ rfl rfl wt.heap.size rfl tab0 rfl rfl ?_; intro w2 ht0 hg2 hb2)
  have hb02 : Below w.heap.size w w2 := hbt.trans (hb2.mono hbt.size)
  have hgw : wt.heap.size < w2.heap.size := World.block_lt_of_cell? w2 _ (ht0 0 (by omega))
  have Ht := Lib.hid ht0
  clear ht0 hg2 hb2 hbt
  generalize wt.heap.size = g at *
  have hO1 := Lib.hid (owns_lit w2 w2.heap.size 5 #[] [] rfl Leb.Bytes.nil (by simp) (Nat.le_refl _))
  have bw : Below w2.heap.size w2 (w2.alloc (.cells #[] 5)) := (Below.refl _ _).alloc (Nat.le_refl _) _
  have bw' := hb02.trans (bw.mono hb02.size)
  refine (KA.out _ bw').mono ?_
  rintro e w' ⟨rfl, rfl⟩
  have hH1 := Lib.hid (HA0.later bw')
  go_wp2_with (at_builtin; refine wpList_append_bytes rfl (.tmp 10) (.tmp 12) 28 rfl w2.heap.size 5 i0 Try.underlying28 hi0 hz0 hz1 hz2 (.slice (some ⟨w2.heap.size, 0, Option.none⟩) 0 0) [] rfl hO1.out A la.length ca la rfl hH1.out (by simp; omega) bw.size ?_; intro v3 w3 hown3 hg3 hat3)
  have bw3 : Below w2.heap.size w2 w3 := below_own bw hO1.out hg3 bw.size
  have b3 := hb02.trans (bw3.mono hb02.size)
  clear hO1 bw bw' hH1 hg3 hat3
  rw [List.nil_append] at hown3
  refine (KB.out _ b3).mono ?_
  rintro e w' ⟨rfl, rfl⟩
  have hH1 := Lib.hid (HB0.later b3)
  have Ho3 := Lib.hid hown3
  clear hown3
  go_wp2_with (at_builtin; refine wpList_append_bytes rfl (.tmp 13) (.tmp 15) 28 rfl w2.heap.size 5 i0 Try.underlying28 hi0 hz0 hz1 hz2 v3 la rfl Ho3.out B lb.length cb lb rfl hH1.out (by omega) bw3.size ?_; intro v4 w4 hown4 hg4 hat4)
  have bw4 : Below w2.heap.size w2 w4 := below_own bw3 Ho3.out hg4 bw3.size
  have b4 := hb02.trans (bw4.mono hb02.size)
  clear Ho3 bw3 b3 hH1 hg4 hat4
  refine (KC.out _ b4).mono ?_
  rintro e w' ⟨rfl, rfl⟩
  have hH1 := Lib.hid (HC0.later b4)
  have Ho4 := Lib.hid hown4
  have hl4 : (la ++ lb).length + lc.length ≤ 140737488355328 := by rw [List.length_append]; omega
  have Hl4 := Lib.hid hl4
  clear hown4 hl4
  go_wp2_with (at_builtin; refine wpList_append_bytes rfl (.tmp 16) (.tmp 18) 28 rfl w2.heap.size 5 i0 Try.underlying28 hi0 hz0 hz1 hz2 v4 (la ++ lb) rfl Ho4.out C lc.length cc lc rfl hH1.out Hl4.out bw4.size ?_; intro v5 w5 hown5 hg5 hat5)
  have bw5 : Below w2.heap.size w2 w5 := below_own bw4 Ho4.out hg5 bw4.size
  have hbw : Below w.heap.size w w5 := hb02.trans (bw5.mono hb02.size)
  obtain ⟨X, cx, rfl, HX⟩ := hown5.holds
  have ht : ∀ c, c < 256 → w5.cell? ⟨g, c, Option.none⟩ = some (.int .u32 (tab0 c)) := fun c hc => cell_later bw5 (Ht.out c hc)
  have HA := HA0.later hbw
  have HB := HB0.later hbw
  have HC := HC0.later hbw
  have SA : ∀ W, Below w5.heap.size w5 W → _ := fun W hb => KA.out W (hbw.trans (hb.mono hbw.size))
  have SB : ∀ W, Below w5.heap.size w5 W → _ := fun W hb => KB.out W (hbw.trans (hb.mono hbw.size))
  have SC : ∀ W, Below w5.heap.size w5 W → _ := fun W hb => KC.out W (hbw.trans (hb.mono hbw.size))
  have hl : regs tab0 [la ++ lb ++ lc] = regs tab0 [la, [], lb, lc] := by unfold regs; simp
  clear Ho4 Hl4 hH1 hown5 hg5 hat5 bw4 b4 bw5 Ht KA KB KC HA0 HB0 HC0
  generalize la ++ lb ++ lc = l at *
  refine wp_region_each (RInv 42 [20, 21, 22, 23, 24, 25, 26, 27, 28, 29, 30, 31, 32, 33, 34, 35, 36, 37, 38, 39, 40, 41, 6] _ (paF A B C X na nb nc ca cb cc cx la lb lc l) w5 NoMore) (by kernel_rfl) (by kernel_rfl) (RInv.start rfl trivial (Below.refl _ _).drew) ?_ ?_
  · intro i hi D a w1 hI hcl hnd hpre
    have hi' : i < 23 := hi
    have hcase : i = 0 ∨ i = 1 ∨ i = 2 ∨ i = 3 ∨ i = 4 ∨ i = 5 ∨ i = 6 ∨ i = 7 ∨ i = 8 ∨ i = 9 ∨ i = 10 ∨ i = 11 ∨ i = 12 ∨ i = 13 ∨ i = 14 ∨ i = 15 ∨ i = 16 ∨ i = 17 ∨ i = 18 ∨ i = 19 ∨ i = 20 ∨ i = 21 ∨ i = 22 := by omega
    have hF := hI.fact
    rcases hcase with rfl | rfl | rfl | rfl | rfl | rfl | rfl | rfl | rfl | rfl | rfl | rfl | rfl | rfl | rfl | rfl | rfl | rfl | rfl | rfl | rfl | rfl | rfl
    · exact wpOp_call0 rfl (wanted_free rfl) 9 _ rfl (enters_cawake _ _) (cycAwake_any hT hS hP w1) (fun e w' h => ⟨_, h.1, hI.add (by decide) paF_later (by decide) h.2 rfl⟩)
    · exact wpOp_move rfl (wanted_free rfl) _ rfl _ (hF 0 (hpre 0 (by kernel_rfl))) (hI.add (by decide) paF_later (by decide) (Below.refl _ _) rfl)
    · have g1 := hF 1 (hpre 1 (by kernel_rfl))
      exact wpOp_load rfl (wanted_by (d := 21) rfl _ rfl rfl g1) _ _ rfl _ _ (hI.same 7 (by decide)) (run_loadTab w1 g tab0 (fun c hc => below_cells hI.below (ht c hc))) (hI.add (by decide) paF_later (by decide) (Below.refl _ _) rfl)
    · have g1 := hF 1 (hpre 1 (by kernel_rfl))
      exact wpOp_move rfl (wanted_by (d := 21) rfl _ rfl rfl g1) _ rfl _ (hI.same 0 (by decide)) (hI.add (by decide) paF_later (by decide) (Below.refl _ _) rfl)
    · have g1 := hF 1 (hpre 1 (by kernel_rfl))
      refine wpOp_call1 rfl (wanted_by (d := 21) rfl _ rfl rfl g1) 10 _ _ rfl _ (hF 3 (hpre 3 (by kernel_rfl))) (enters_cshort _ _) (SA w1 hI.below) (fun e w' h => ?_)
      obtain ⟨rfl, rfl⟩ := h
      exact ⟨_, rfl, (hI.add (by decide) paF_later (by decide) (Below.refl _ _) rfl)⟩
    · have g1 := hF 1 (hpre 1 (by kernel_rfl))
      exact wpOp_move rfl (wanted_by (d := 21) rfl _ rfl rfl g1) _ rfl _ (hI.same 1 (by decide)) (hI.add (by decide) paF_later (by decide) (Below.refl _ _) rfl)
    · have g1 := hF 1 (hpre 1 (by kernel_rfl))
      refine wpOp_call1 rfl (wanted_by (d := 21) rfl _ rfl rfl g1) 10 _ _ rfl _ (hF 5 (hpre 5 (by kernel_rfl))) (enters_cshort _ _) (SB w1 hI.below) (fun e w' h => ?_)
      obtain ⟨rfl, rfl⟩ := h
      exact ⟨_, rfl, (hI.add (by decide) paF_later (by decide) (Below.refl _ _) rfl)⟩
    · have g1 := hF 1 (hpre 1 (by kernel_rfl))
      exact wpOp_move rfl (wanted_by (d := 21) rfl _ rfl rfl g1) _ rfl _ (hI.same 2 (by decide)) (hI.add (by decide) paF_later (by decide) (Below.refl _ _) rfl)
    · have g1 := hF 1 (hpre 1 (by kernel_rfl))
      refine wpOp_call1 rfl (wanted_by (d := 21) rfl _ rfl rfl g1) 10 _ _ rfl _ (hF 7 (hpre 7 (by kernel_rfl))) (enters_cshort _ _) (SC w1 hI.below) (fun e w' h => ?_)
      obtain ⟨rfl, rfl⟩ := h
      exact ⟨_, rfl, (hI.add (by decide) paF_later (by decide) (Below.refl _ _) rfl)⟩
    · have g1 := hF 1 (hpre 1 (by kernel_rfl))
      have h1 : a.eval (.tmp 24) = _ := (hF 4 (hpre 4 (by kernel_rfl)))
      have h2 : a.eval (.tmp 26) = _ := (hF 6 (hpre 6 (by kernel_rfl)))
      have h3 : a.eval (.tmp 28) = _ := (hF 8 (hpre 8 (by kernel_rfl)))
      exact wpOp_build rfl (wanted_by (d := 21) rfl _ rfl rfl g1) _ _ _ rfl #[(0, .slice A la.length ca), (1, .slice Option.none 0 0), (2, .slice B lb.length cb), (3, .slice C lc.length cc)] (by simp [h1, h2, h3]; rfl) _ (run_quad w1 _ _ _ _ _ _ _ _ _ _ _ _) (hI.add (by decide) paF_later (by decide) ((Below.refl _ _).alloc (Nat.le_refl _) _) (pp_four w1 (HA.later hI.below) (holds_nil w1) (HB.later hI.below) (HC.later hI.below)))
    · have g1 := hF 1 (hpre 1 (by kernel_rfl))
      obtain ⟨P, c, hv, hPP⟩ := (hF 9 (hpre 9 (by kernel_rfl)))
      exact wpOp_call2 rfl (wanted_by (d := 21) rfl _ rfl rfl g1) 11 _ _ _ rfl _ _ (hF 2 (hpre 2 (by kernel_rfl))) hv (enters_sum _ _) (hS tab0 tab0_lt P _ c _ w1 hPP (by simp)) (fun e w' h => ⟨_, h.1, hI.add (by decide) paF_later (by decide) h.2 rfl⟩)
    · have g1 := hF 1 (hpre 1 (by kernel_rfl))
      exact wpOp_load rfl (wanted_by (d := 21) rfl _ rfl rfl g1) _ _ rfl _ _ (hI.same 7 (by decide)) (run_loadTab w1 g tab0 (fun c hc => below_cells hI.below (ht c hc))) (hI.add (by decide) paF_later (by decide) (Below.refl _ _) rfl)
    · have g1 := hF 1 (hpre 1 (by kernel_rfl))
      exact wpOp_move rfl (wanted_by (d := 21) rfl _ rfl rfl g1) _ rfl _ (hI.same 8 (by decide)) (hI.add (by decide) paF_later (by decide) (Below.refl _ _) rfl)
    · have g1 := hF 1 (hpre 1 (by kernel_rfl))
      have h1 : a.eval (.tmp 32) = _ := (hF 12 (hpre 12 (by kernel_rfl)))
      exact wpOp_build rfl (wanted_by (d := 21) rfl _ rfl rfl g1) _ _ _ rfl #[(0, .slice X l.length cx)] (by simp [h1]) _ (run_single w1 _ _ _) (hI.add (by decide) paF_later (by decide) ((Below.refl _ _).alloc (Nat.le_refl _) _) (pp_one w1 (HX.later hI.below)))
    · have g1 := hF 1 (hpre 1 (by kernel_rfl))
      obtain ⟨P, c, hv, hPP⟩ := (hF 13 (hpre 13 (by kernel_rfl)))
      exact wpOp_call2 rfl (wanted_by (d := 21) rfl _ rfl rfl g1) 11 _ _ _ rfl _ _ (hF 11 (hpre 11 (by kernel_rfl))) hv (enters_sum _ _) (hS tab0 tab0_lt P _ c _ w1 hPP (by simp)) (fun e w' h => ⟨_, h.1, hI.add (by decide) paF_later (by decide) h.2 rfl⟩)
    · have g1 := hF 1 (hpre 1 (by kernel_rfl))
      have h1 := (hF 10 (hpre 10 (by kernel_rfl)))
      have h2 := (hF 14 (hpre 14 (by kernel_rfl)))
      have e : regs tab0 [l] = regs tab0 [la, [], lb, lc] := hl
      have h2' : a.eval (.tmp 34) = .int .u32 ((4294967295 - regs tab0 [la, [], lb, lc] : Nat) : Int) := by rw [← e]; exact h2
      exact wpOp_bin rfl (wanted_by (d := 21) rfl _ rfl rfl g1) _ _ _ _ _ rfl _ _ _ h1 h2' (run_same_u32 _ _ _ w1) (hI.add (by decide) paF_later (by decide) (Below.refl _ _) rfl)
    · exact wpOp_pick rfl (wanted_free rfl) _ _ _ rfl true (hF 1 (hpre 1 (by kernel_rfl))) _ (hF 15 (hpre 15 (by kernel_rfl))) (hI.add (by decide) paF_later (by decide) (Below.refl _ _) rfl)
    · exact wpOp_move rfl (wanted_free rfl) _ rfl _ (hF 16 (hpre 16 (by kernel_rfl))) (hI.add (by decide) paF_later (by decide) (Below.refl _ _) rfl)
    · have g17 := hF 17 (hpre 17 (by kernel_rfl))
      exact wpOp_load rfl (wanted_by (d := 37) rfl _ rfl rfl g17) _ _ rfl _ _ (hI.same 7 (by decide)) (run_loadTab w1 g tab0 (fun c hc => below_cells hI.below (ht c hc))) (hI.add (by decide) paF_later (by decide) (Below.refl _ _) rfl)
    · have g17 := hF 17 (hpre 17 (by kernel_rfl))
      exact wpOp_call2 rfl (wanted_by (d := 37) rfl _ rfl rfl g17) 11 _ _ _ rfl _ _ (hF 18 (hpre 18 (by kernel_rfl))) rfl (enters_sum _ _) (hS tab0 tab0_lt _ _ _ [] w1 ⟨rfl, fun h => absurd h (by omega)⟩ (by omega)) (fun e w' h => ⟨_, h.1, hI.add (by decide) paF_later (by decide) h.2 rfl⟩)
    · have g17 := hF 17 (hpre 17 (by kernel_rfl))
      exact wpOp_bin rfl (wanted_by (d := 37) rfl _ rfl rfl g17) _ _ _ _ _ rfl _ _ _ (hF 19 (hpre 19 (by kernel_rfl))) rfl (run_same_u32 _ _ _ w1) (hI.add (by decide) paF_later (by decide) (Below.refl _ _) rfl)
    · exact wpOp_pick rfl (wanted_free rfl) _ _ _ rfl true (hF 17 (hpre 17 (by kernel_rfl))) _ (hF 20 (hpre 20 (by kernel_rfl))) (hI.add (by decide) paF_later (by decide) (Below.refl _ _) rfl)
    · exact wpOp_assign rfl (wanted_free rfl) _ rfl _ (hF 21 (hpre 21 (by kernel_rfl))) (hI.add (by decide) paF_later (by decide) (Below.refl _ _) rfl)
  · intro D a w1 hI hall
    have fz : a.eval (.tmp 6) = .bool true := hI.fact 22 (hall 22 (by decide))
    have hd := hI.defs
    have hB := hI.below
    clear hall
    go_wp2
    refine bodyPost_ret (results_tmp rfl a.tmps _ _) hd ⟨?_, hbw.trans (hB.mono hbw.size)⟩
    show Ending.returned (a.eval (.tmp 6)) = _
    rw [fz]
end Go.Proofs.Ytjcbndnldmpmaaa
