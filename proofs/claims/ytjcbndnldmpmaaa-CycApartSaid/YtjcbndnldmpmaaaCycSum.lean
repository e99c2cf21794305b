/-
  The walk of the statement CycSum, if Table, Sum and Put are as they are held to be.
-/
import Derived.Test.YtjcbndnldmpmaaaCycSumX
namespace Go.Proofs.Ytjcbndnldmpmaaa
open Go.RowKit

/-- What the slots of the last statement hold. -/
def svF (t : Nat → Nat) (A B X : Option Addr) (na nb ca cb cx S : Nat) (la lb l : List Int) (j : Nat) (v : Value) (w : World) : Prop :=
  match j with
  | 0 => v = .bool true
  | 1 => v = .bool true
  | 2 => v = .agg (cells32 t).toArray
  | 3 => v = .slice A na ca
  | 4 => v = .slice A la.length ca
  | 5 => v = .slice B nb cb
  | 6 => v = .slice B lb.length cb
  | 7 => PP [la, lb] v w
  | 8 => v = .int .u32 (S : Int)
  | 9 => v = .agg (cells32 t).toArray
  | 10 => v = .slice X l.length cx
  | 11 => v = .int .u32 (S : Int)
  | 12 => v = .bool true
  | 13 => v = .bool true
  | 14 => v = .bool true
  | _ => True
theorem svF_later {t : Nat → Nat} {A B X : Option Addr} {na nb ca cb cx S : Nat} {la lb l : List Int} : Outlives (svF t A B X na nb ca cb cx S la lb l) := by
  intro j v w w' h hk
  unfold svF at h ⊢
  split at h
  all_goals first | exact h.keeps hk | exact h

theorem enters_refSum (vs : Array Value) (w : World) : (callFunc 12 vs).run Try.prog w = .ok (.enter 12 vs) w := by kernel_rfl
theorem enters_four (vs : Array Value) (w : World) : (callFunc 14 vs).run Try.prog w = .ok (.enter 14 vs) w := by kernel_rfl
theorem enters_by (vs : Array Value) (w : World) : (callFunc 15 vs).run Try.prog w = .ok (.enter 15 vs) w := by kernel_rfl
theorem run_none (w : World) : (Instr.buildSlice 28 0 #[]).run Try.prog w = .ok (.slice (some ⟨w.heap.size, 0, Option.none⟩) 0 0) (w.alloc (.cells #[] 5)) := by go_simp
theorem run_same_neq (x y : Operand) (z : Int) (w : World) : (do eqGuard .neq 22 x y (.int .u32 z) (.int .u32 z); binOp .neq 22 (.int .u32 z) (.int .u32 z) : Sem Value).run Try.prog w = .ok (.bool false) w := by go_simp
theorem run_same_ntext (x y : Operand) (s : ByteArray) (w : World) : (do eqGuard .neq 9 x y (.string s) (.string s); binOp .neq 9 (.string s) (.string s) : Sem Value).run Try.prog w = .ok (.bool false) w := by go_simp

theorem Holds.setCell {w : World} {A : Option Addr} {n c : Nat} {l : List Int} (h : Holds w A n c l) {p : Addr} (hp : ∀ b off, A = some ⟨b, off, Option.none⟩ → 0 < n → b ≠ p.block) (u : Value) : Holds (w.setCell p u) A n c l :=
  ⟨h.len, h.byt, h.cap, h.room, h.bare, fun hn => by
    obtain ⟨b, off, e, hc⟩ := h.cell hn
    refine ⟨b, off, e, fun j hj => ?_⟩
    rw [World.cell?_setCell_other w p _ u (fun e' => hp b off e hn (by rw [e']))]
    exact hc j hj⟩

/-- The table with one number changed. -/
def tabWith (x n : Nat) (c : Nat) : Nat := if c = x then n else tab0 c
theorem tabWith_lt {x n : Nat} (hn : n < 4294967296) (c : Nat) : tabWith x n c < 4294967296 := by
  unfold tabWith
  split
  · exact hn
  · exact tab0_lt c

theorem regs_two (t : Nat → Nat) (la lb : List Int) : regs t [la, lb] = Cyc.byTab t 4294967295 (la ++ lb) := by unfold regs; simp

set_option maxRecDepth 100000 in
set_option maxHeartbeats 3200000 in
theorem cycSum_said (hT : TableSaid) (hS : SumSaid) (hP : PutSaid) (A : Option Addr) (na ca : Nat) (la0 : List Int) (B : Option Addr) (nb cb : Nat) (lb0 : List Int) (q n : Nat) (w : World)
    (hA : Holds w A na ca la0) (hB : Holds w B nb cb lb0) (hq : q < 4294967296) (hn : n < 4294967296) :
    Calls Try.prog 4 #[.slice A na ca, .slice B nb cb, .int .u32 q, .int .u32 n] w (Yes w) := by
  obtain ⟨i0, hi0, hz0, hz1, hz2⟩ := info_parts info8
  obtain ⟨la, ka, HA0, SA0⟩ := cshort_later hA
  obtain ⟨lb, kb, HB0, SB0⟩ := cshort_later hB
  have KA := Lib.hid SA0
  have KB := Lib.hid SB0
  clear SA0 SB0 hA hB
  go_enter Try.func4, Try.ntmps4
  go_wp2_with fail
  refine (hT w).mono ?_
  rintro e wt ⟨rfl, hbt⟩
  go_wp2_with (with_reducible refine wpList_table rfl _ _ rfl rfl wt.heap.size rfl tab0 rfl rfl ?_; intro w2 ht0 hg2 hb2)
  have hb02 : Below w.heap.size w w2 := hbt.trans (hb2.mono hbt.size)
  have hgw : wt.heap.size < w2.heap.size := World.block_lt_of_cell? w2 _ (ht0 0 (by omega))
  have hwg : w.heap.size ≤ wt.heap.size := hbt.size
  have Ht := Lib.hid ht0
  have Hg := Lib.hid hg2
  clear ht0 hg2 hb2 hbt
  generalize wt.heap.size = g at *
  have hO1 := Lib.hid (owns_lit w2 w2.heap.size 5 #[] [] rfl Leb.Bytes.nil (by simp) (Nat.le_refl _))
  have bw : Below w2.heap.size w2 (w2.alloc (.cells #[] 5)) := (Below.refl _ _).alloc (Nat.le_refl _) _
  have bw' := hb02.trans (bw.mono hb02.size)
  refine (KA.out _ bw').mono ?_
  rintro e w' ⟨rfl, rfl⟩
  have hH1 := Lib.hid (HA0.later bw')
  go_wp2_with (at_builtin; refine wpList_append_bytes rfl (.tmp 12) (.tmp 14) 28 rfl w2.heap.size 5 i0 Try.underlying28 hi0 hz0 hz1 hz2 (.slice (some ⟨w2.heap.size, 0, Option.none⟩) 0 0) [] rfl hO1.out A la.length ca la rfl hH1.out (by simp; omega) bw.size ?_; intro v3 w3 hown3 hg3 hat3)
  have bw3 : Below w2.heap.size w2 w3 := below_own bw hO1.out hg3 bw.size
  have b3 := hb02.trans (bw3.mono hb02.size)
  clear hO1 bw bw' hH1 hg3 hat3
  rw [List.nil_append] at hown3
  refine (KB.out _ b3).mono ?_
  rintro e w' ⟨rfl, rfl⟩
  have hH1 := Lib.hid (HB0.later b3)
  have Ho3 := Lib.hid hown3
  clear hown3
  go_wp2_with (at_builtin; refine wpList_append_bytes rfl (.tmp 15) (.tmp 17) 28 rfl w2.heap.size 5 i0 Try.underlying28 hi0 hz0 hz1 hz2 v3 la rfl Ho3.out B lb.length cb lb rfl hH1.out (by omega) bw3.size ?_; intro v5 w5 hown5 hg5 hat5)
  have bw5 : Below w2.heap.size w2 w5 := below_own bw3 Ho3.out hg5 bw3.size
  have hbw : Below w.heap.size w w5 := hb02.trans (bw5.mono hb02.size)
  have HXg : Hid (∀ gg, v5.ownBlock = some gg → w2.heap.size ≤ gg) := fun gg h => (hown5.2.lt gg h).1
  obtain ⟨X, cx, rfl, HX⟩ := hown5.holds
  have ht : ∀ c, c < 256 → w5.cell? ⟨g, c, Option.none⟩ = some (.int .u32 (tab0 c)) := fun c hc => cell_later bw5 (Ht.out c hc)
  have Hg5 : Hid (w5.heap[g]? = some (.cells (cells32 tab0).toArray 24 (0, 0))) := (bw5.block g hgw).trans Hg.out
  have HA := HA0.later hbw
  have HB := HB0.later hbw
  have SA : ∀ W, Below w5.heap.size w5 W → _ := fun W hb => KA.out W (hbw.trans (hb.mono hbw.size))
  have SB : ∀ W, Below w5.heap.size w5 W → _ := fun W hb => KB.out W (hbw.trans (hb.mono hbw.size))
  have hlb : Leb.Bytes (la ++ lb) := HX.byt
  obtain ⟨S, hS1⟩ : ∃ S, 4294967295 - regs tab0 [la, lb] = S := ⟨_, rfl⟩
  have hS2 : 4294967295 - Cyc.reg 4294967295 (la ++ lb) = S := by rw [← hS1, regs_two, byTab_tab0 _ _ hlb, Cyc.byTab_tab _ _ hlb]
  obtain ⟨S', hS'⟩ : ∃ S', 4294967295 - regs (tabWith (q % 256) n) [la, lb] = S' := ⟨_, rfl⟩
  have hS3 : 4294967295 - Cyc.byTab (tabWith (q % 256) n) 4294967295 (la ++ lb) = S' := by rw [← hS', regs_two]
  have hg5lt : g < w5.heap.size := Nat.lt_of_lt_of_le hgw bw5.size
  clear Ho3 hH1 hown5 hg5 hat5 bw3 b3 Ht Hg hlb
  generalize la ++ lb = l at *
  refine wp_region_each (RInv 64 [19, 20, 21, 22, 23, 24, 25, 26, 27, 28, 29, 30, 31, 32, 33, 34, 35, 36, 37, 38, 39, 40, 41, 42, 43, 44] _ (suF A B X na nb ca cb cx S n la lb l) w5 (SuX w5 la lb n)) (by kernel_rfl) (by kernel_rfl) (RInv.start rfl ⟨⟨fun h => h.elim, fun h => h.elim, fun h => h.elim⟩, fun h => h.elim⟩ (Below.refl _ _).drew) ?_ ?_
  · intro i hi D a w1 hI hcl hnd hpre
    have hi' : i < 26 := hi
    have hcase : i = 0 ∨ i = 1 ∨ i = 2 ∨ i = 3 ∨ i = 4 ∨ i = 5 ∨ i = 6 ∨ i = 7 ∨ i = 8 ∨ i = 9 ∨ i = 10 ∨ i = 11 ∨ i = 12 ∨ i = 13 ∨ i = 14 ∨ i = 15 ∨ i = 16 ∨ i = 17 ∨ i = 18 ∨ i = 19 ∨ i = 20 ∨ i = 21 ∨ i = 22 ∨ i = 23 ∨ i = 24 ∨ i = 25 := by omega
    have hF := hI.fact
    rcases hcase with rfl | rfl | rfl | rfl | rfl | rfl | rfl | rfl | rfl | rfl | rfl | rfl | rfl | rfl | rfl | rfl | rfl | rfl | rfl | rfl | rfl | rfl | rfl | rfl | rfl | rfl
    · exact wpOp_load rfl (wanted_free rfl) _ _ rfl _ _ (hI.same 9 (by decide)) (run_loadTab w1 g tab0 (fun c hc => below_cells hI.below (ht c hc))) (hI.addS (by decide) (by decide) (by decide) (by decide) (by decide) (by decide) (by decide) (Below.refl _ _) rfl)
    · exact wpOp_move rfl (wanted_free rfl) _ rfl _ (hI.same 0 (by decide)) (hI.addS (by decide) (by decide) (by decide) (by decide) (by decide) (by decide) (by decide) (Below.refl _ _) rfl)
    · refine wpOp_call1 rfl (wanted_free rfl) 10 _ _ rfl _ (hF 1 (hpre 1 (by kernel_rfl))) (enters_cshort _ _) (SA w1 hI.below) (fun e w' h => ?_)
      obtain ⟨rfl, rfl⟩ := h
      exact ⟨_, rfl, (hI.addS (by decide) (by decide) (by decide) (by decide) (by decide) (by decide) (by decide) (Below.refl _ _) rfl)⟩
    · exact wpOp_move rfl (wanted_free rfl) _ rfl _ (hI.same 1 (by decide)) (hI.addS (by decide) (by decide) (by decide) (by decide) (by decide) (by decide) (by decide) (Below.refl _ _) rfl)
    · refine wpOp_call1 rfl (wanted_free rfl) 10 _ _ rfl _ (hF 3 (hpre 3 (by kernel_rfl))) (enters_cshort _ _) (SB w1 hI.below) (fun e w' h => ?_)
      obtain ⟨rfl, rfl⟩ := h
      exact ⟨_, rfl, (hI.addS (by decide) (by decide) (by decide) (by decide) (by decide) (by decide) (by decide) (Below.refl _ _) rfl)⟩
    · have h1 : a.eval (.tmp 21) = _ := (hF 2 (hpre 2 (by kernel_rfl)))
      have h2 : a.eval (.tmp 23) = _ := (hF 4 (hpre 4 (by kernel_rfl)))
      have n16 : ¬ D 16 := fun h => hnd (hcl 6 (hcl 9 (hcl 10 (hcl 16 h 10 (by kernel_rfl)) 9 (by kernel_rfl)) 6 (by kernel_rfl)) 5 (by kernel_rfl))
      have n19 : ¬ D 19 := fun h => n16 (hcl 19 h 16 (by kernel_rfl))
      have n21 : ¬ D 21 := fun h => n19 (hcl 21 h 19 (by kernel_rfl))
      exact wpOp_build rfl (wanted_free rfl) _ _ _ rfl #[(0, .slice A la.length ca), (1, .slice B lb.length cb)] (by simp [h1, h2]) _ (run_pair w1 _ _ _ _ _ _) (hI.add5 ((Below.refl _ _).alloc (Nat.le_refl _) _) (pp_two w1 (HA.later hI.below) (HB.later hI.below)) n16 n19 n21)
    · obtain ⟨P, c, hv, hPP⟩ := hI.more.2 (hpre 5 (by kernel_rfl)) hnd
      exact wpOp_call2 rfl (wanted_free rfl) 11 _ _ _ rfl _ _ (hF 0 (hpre 0 (by kernel_rfl))) hv (enters_sum _ _) (hS tab0 tab0_lt P _ c _ w1 hPP (by simp)) (fun e w' h => ⟨_, h.1, (hI.addS (by decide) (by decide) (by decide) (by decide) (by decide) (by decide) (by decide) h.2 (congrArg (fun z : Nat => Value.int .u32 (z : Int)) hS1))⟩)
    · exact wpOp_move rfl (wanted_free rfl) _ rfl _ (hI.same 10 (by decide)) (hI.addS (by decide) (by decide) (by decide) (by decide) (by decide) (by decide) (by decide) (Below.refl _ _) rfl)
    · refine wpOp_call1 rfl (wanted_free rfl) 12 _ _ rfl _ (hF 7 (hpre 7 (by kernel_rfl))) (enters_refSum _ _) (refSum_any X _ cx l w1 (HX.later hI.below)) (fun e w' h => ?_)
      obtain ⟨rfl, rfl⟩ := h
      exact ⟨_, rfl, (hI.addS (by decide) (by decide) (by decide) (by decide) (by decide) (by decide) (by decide) (Below.refl _ _) (congrArg (fun z : Nat => Value.int .u32 (z : Int)) hS2))⟩
    · exact wpOp_bin rfl (wanted_free rfl) _ _ _ _ _ rfl _ _ _ (hF 6 (hpre 6 (by kernel_rfl))) (hF 8 (hpre 8 (by kernel_rfl))) (run_same_neq _ _ _ w1) (hI.addS (by decide) (by decide) (by decide) (by decide) (by decide) (by decide) (by decide) (Below.refl _ _) rfl)
    · exact wpOp_move rfl (wanted_free rfl) _ rfl _ (hF 9 (hpre 9 (by kernel_rfl))) (hI.addS (by decide) (by decide) (by decide) (by decide) (by decide) (by decide) (by decide) (Below.refl _ _) rfl)
    · have g10 := hF 10 (hpre 10 (by kernel_rfl))
      exact wpOp_move rfl (wanted_by (d := 29) rfl _ rfl rfl g10) _ rfl _ (hI.same 0 (by decide)) (hI.addS (by decide) (by decide) (by decide) (by decide) (by decide) (by decide) (by decide) (Below.refl _ _) rfl)
    · have g10 := hF 10 (hpre 10 (by kernel_rfl))
      refine wpOp_call1 rfl (wanted_by (d := 29) rfl _ rfl rfl g10) 10 _ _ rfl _ (hF 11 (hpre 11 (by kernel_rfl))) (enters_cshort _ _) (SA w1 hI.below) (fun e w' h => ?_)
      obtain ⟨rfl, rfl⟩ := h
      exact ⟨_, rfl, (hI.addS (by decide) (by decide) (by decide) (by decide) (by decide) (by decide) (by decide) (Below.refl _ _) rfl)⟩
    · have g10 := hF 10 (hpre 10 (by kernel_rfl))
      exact wpOp_move rfl (wanted_by (d := 29) rfl _ rfl rfl g10) _ rfl _ (hI.same 3 (by decide)) (hI.addS (by decide) (by decide) (by decide) (by decide) (by decide) (by decide) (by decide) (Below.refl _ _) rfl)
    · have g10 := hF 10 (hpre 10 (by kernel_rfl))
      have d6 := hcl 9 (hcl 10 (hpre 10 (by kernel_rfl)) 9 (by kernel_rfl)) 6 (by kernel_rfl)
      have n19 : ¬ D 19 := fun h => hnd (hcl 18 (hcl 19 h 18 (by kernel_rfl)) 14 (by kernel_rfl))
      have n21 : ¬ D 21 := fun h => n19 (hcl 21 h 19 (by kernel_rfl))
      refine wpOp_call2 rfl (wanted_by (d := 29) rfl _ rfl rfl g10) 13 _ _ _ rfl _ _ (hF 12 (hpre 12 (by kernel_rfl))) (hF 13 (hpre 13 (by kernel_rfl))) (enters_put32 _ _) (hP A _ ca la n w1 hn (HA.later hI.below) (by omega)) (fun e w' h => ?_)
      obtain ⟨v, rfl, ho, hb⟩ := h
      exact ⟨_, rfl, hI.add14 d6 n19 n21 ho hb⟩
    · have g10 := hF 10 (hpre 10 (by kernel_rfl))
      obtain ⟨A1, c1, h1, H1⟩ := (hF 14 (hpre 14 (by kernel_rfl)))
      exact wpOp_convert rfl (wanted_by (d := 29) rfl _ rfl rfl g10) _ _ _ rfl _ _ h1 (run_text _ _ 5 Try.underlying28 Try.underlying5 Try.underlying9 H1) (hI.addS (by decide) (by decide) (by decide) (by decide) (by decide) (by decide) (by decide) (Below.refl _ _) rfl)
    · have g10 := hF 10 (hpre 10 (by kernel_rfl))
      have d6 := hcl 9 (hcl 10 (hpre 10 (by kernel_rfl)) 9 (by kernel_rfl)) 6 (by kernel_rfl)
      have n19 : ¬ D 19 := fun h => hnd (hcl 19 h 16 (by kernel_rfl))
      have n21 : ¬ D 21 := fun h => n19 (hcl 21 h 19 (by kernel_rfl))
      exact wpOp_build rfl (wanted_by (d := 29) rfl _ rfl rfl g10) _ _ _ rfl #[] (by simp) _ (run_none w1) (hI.add16 d6 n19 n21)
    · have g10 := hF 10 (hpre 10 (by kernel_rfl))
      exact wpOp_move rfl (wanted_by (d := 29) rfl _ rfl rfl g10) _ rfl _ (hI.same 0 (by decide)) (hI.addS (by decide) (by decide) (by decide) (by decide) (by decide) (by decide) (by decide) (Below.refl _ _) rfl)
    · have g10 := hF 10 (hpre 10 (by kernel_rfl))
      refine wpOp_call1 rfl (wanted_by (d := 29) rfl _ rfl rfl g10) 10 _ _ rfl _ (hF 17 (hpre 17 (by kernel_rfl))) (enters_cshort _ _) (SA w1 hI.below) (fun e w' h => ?_)
      obtain ⟨rfl, rfl⟩ := h
      exact ⟨_, rfl, (hI.addS (by decide) (by decide) (by decide) (by decide) (by decide) (by decide) (by decide) (Below.refl _ _) rfl)⟩
    · have g10 := hF 10 (hpre 10 (by kernel_rfl))
      have d6 := hcl 9 (hcl 10 (hpre 10 (by kernel_rfl)) 9 (by kernel_rfl)) 6 (by kernel_rfl)
      have n21 : ¬ D 21 := fun h => hnd (hcl 21 h 19 (by kernel_rfl))
      have n22 : ¬ D 22 := fun h => hnd (hcl 22 h 19 (by kernel_rfl))
      have d16 := hpre 16 (by kernel_rfl)
      have d14 := hcl 18 (hpre 18 (by kernel_rfl)) 14 (by kernel_rfl)
      obtain ⟨x1, x2⟩ := hI.more.1.1 d16 hnd
      exact wpOp_append rfl (wanted_by (d := 29) rfl _ rfl rfl g10) _ _ 28 rfl w5.heap.size 5 i0 Try.underlying28 hi0 hz0 hz1 hz2 _ [] rfl x1 A _ ca la (hF 18 (hpre 18 (by kernel_rfl))) (HA.later hI.below) (by simp; omega) hI.below.size (fun v w' ho hg hat => hI.add19 d6 d16 d14 hnd n21 n22 ho hg hat)
    · have g10 := hF 10 (hpre 10 (by kernel_rfl))
      exact wpOp_move rfl (wanted_by (d := 29) rfl _ rfl rfl g10) _ rfl _ (hI.same 3 (by decide)) (hI.addS (by decide) (by decide) (by decide) (by decide) (by decide) (by decide) (by decide) (Below.refl _ _) rfl)
    · have g10 := hF 10 (hpre 10 (by kernel_rfl))
      have d6 := hcl 9 (hcl 10 (hpre 10 (by kernel_rfl)) 9 (by kernel_rfl)) 6 (by kernel_rfl)
      have n22 : ¬ D 22 := fun h => hnd (hcl 22 h 21 (by kernel_rfl))
      refine wpOp_call1 rfl (wanted_by (d := 29) rfl _ rfl rfl g10) 14 _ _ rfl _ (hF 20 (hpre 20 (by kernel_rfl))) (enters_four _ _) (four_any n w1 hn) (fun e w' h => ?_)
      obtain ⟨v, rfl, ho, hb⟩ := h
      exact ⟨_, rfl, hI.add21 d6 (hpre 19 (by kernel_rfl)) n22 ho hb⟩
    · have g10 := hF 10 (hpre 10 (by kernel_rfl))
      have d6 := hcl 9 (hcl 10 (hpre 10 (by kernel_rfl)) 9 (by kernel_rfl)) 6 (by kernel_rfl)
      have d19 := hpre 19 (by kernel_rfl)
      have d21 := hpre 21 (by kernel_rfl)
      obtain ⟨x1, x2⟩ := hI.more.1.2.1 d19 hnd
      obtain ⟨Ay, cy, hy, hY⟩ := hI.more.1.2.2 d21 hnd
      exact wpOp_append rfl (wanted_by (d := 29) rfl _ rfl rfl g10) _ _ 28 rfl w5.heap.size 5 i0 Try.underlying28 hi0 hz0 hz1 hz2 _ la rfl x1 Ay _ cy (four n) hy hY (by simp [four]; omega) hI.below.size (fun v w' ho hg hat => hI.add22 d6 d19 hnd ho hg)
    · have g10 := hF 10 (hpre 10 (by kernel_rfl))
      obtain ⟨A1, c1, h1, H1⟩ := (hF 22 (hpre 22 (by kernel_rfl)))
      exact wpOp_convert rfl (wanted_by (d := 29) rfl _ rfl rfl g10) _ _ _ rfl _ _ h1 (run_text _ _ 5 Try.underlying28 Try.underlying5 Try.underlying9 H1) (hI.addS (by decide) (by decide) (by decide) (by decide) (by decide) (by decide) (by decide) (Below.refl _ _) rfl)
    · have g10 := hF 10 (hpre 10 (by kernel_rfl))
      exact wpOp_bin rfl (wanted_by (d := 29) rfl _ rfl rfl g10) _ _ _ _ _ rfl _ _ _ (hF 15 (hpre 15 (by kernel_rfl))) (hF 23 (hpre 23 (by kernel_rfl))) (run_same_ntext _ _ _ w1) (hI.addS (by decide) (by decide) (by decide) (by decide) (by decide) (by decide) (by decide) (Below.refl _ _) rfl)
    · exact wpOp_pick rfl (wanted_free rfl) _ _ _ rfl false (hF 10 (hpre 10 (by kernel_rfl))) _ (hF 24 (hpre 24 (by kernel_rfl))) (hI.addS (by decide) (by decide) (by decide) (by decide) (by decide) (by decide) (by decide) (Below.refl _ _) rfl)
  · intro D a w6 hI hall
    obtain ⟨f, rfl, hf⟩ := hI.done (by decide) rfl hall
    have hB6 := hI.below
    have h44 : f 44 = .bool false := hf 25 (by decide)
    clear hI hall hf hS1 hS2
    simp only [putAll, List.map_cons, List.map_nil, Act.put, List.setIfInBounds_toArray, List.set_cons_zero, List.set_cons_succ, h44]
    clear h44
    have hbw6 : Below w.heap.size w w6 := hbw.trans (hB6.mono hbw.size)
    have hx : q % 256 < 256 := by omega
    have hrow : w6.heap[g]? = some (.cells (cells32 tab0).toArray 24 (0, 0)) := (hB6.block g hg5lt).trans Hg5.out
    have hcx : w6.cell? ⟨g, q % 256, Option.none⟩ = some (.int .u32 (tab0 (q % 256))) := cell_later hB6 (ht _ hx)
    have hfx : w6.frozen? ⟨g, q % 256, Option.none⟩ = false := frozen_of_row w6 g _ _ _ hrow
    have ht6 : Hid (∀ c, c < 256 → w6.cell? ⟨g, c, Option.none⟩ = some (.int .u32 (tab0 c))) := fun c hc => cell_later hB6 (ht c hc)
    have HX6 := Lib.hid (HX.later hB6)
    clear hrow ht Hg5 HX SA SB HA HB
    go_wp2
    have ht7 : ∀ c, c < 256 → (w6.setCell ⟨g, q % 256, Option.none⟩ (.int .u32 n)).cell? ⟨g, c, Option.none⟩ = some (.int .u32 (tabWith (q % 256) n c)) := fun c hc => by
      unfold tabWith
      by_cases e : c = q % 256
      · subst e
        rw [if_pos rfl, World.cell?_setCell_same w6 _ _ hcx]
      · rw [if_neg e, World.cell?_setCell_other w6 _ _ _ (fun e' => e (by injection e' with _ h2 _; exact h2.symm))]
        exact ht6.out c hc
    have hbw7 : Below w.heap.size w (w6.setCell ⟨g, q % 256, Option.none⟩ (.int .u32 n)) := hbw6.setCell hwg _
    have HX7 : Holds (w6.setCell ⟨g, q % 256, Option.none⟩ (.int .u32 n)) X l.length cx l := HX6.out.setCell (fun b off e _ => by
      have h1 := HXg.out b (by rw [e]; rfl)
      show b ≠ g
      omega) _
    generalize w6.setCell ⟨g, q % 256, Option.none⟩ (.int .u32 n) = w7 at *
    have HA7 := HA0.later hbw7
    have HB7 := HB0.later hbw7
    have SA7 : ∀ W, Below w7.heap.size w7 W → _ := fun W hb => KA.out W (hbw7.trans (hb.mono hbw7.size))
    have SB7 : ∀ W, Below w7.heap.size w7 W → _ := fun W hb => KB.out W (hbw7.trans (hb.mono hbw7.size))
    have htt := tabWith_lt (x := q % 256) hn
    generalize tabWith (q % 256) n = tt at *
    clear hcx hfx ht6 HX6
    subst hS'
    refine wp_region_each (RInv 64 [50, 51, 52, 53, 54, 55, 56, 57, 58, 59, 60, 61, 62, 63, 8] _ (svF tt A B X na nb ca cb cx (4294967295 - regs tt [la, lb]) la lb l) w7 NoMore) (by kernel_rfl) (by kernel_rfl) (RInv.start rfl trivial (Below.refl _ _).drew) ?_ ?_
    · intro i hi D a w1 hI hcl hnd hpre
      have hi' : i < 15 := hi
      have hcase : i = 0 ∨ i = 1 ∨ i = 2 ∨ i = 3 ∨ i = 4 ∨ i = 5 ∨ i = 6 ∨ i = 7 ∨ i = 8 ∨ i = 9 ∨ i = 10 ∨ i = 11 ∨ i = 12 ∨ i = 13 ∨ i = 14 := by omega
      have hF := hI.fact
      rcases hcase with rfl | rfl | rfl | rfl | rfl | rfl | rfl | rfl | rfl | rfl | rfl | rfl | rfl | rfl | rfl
      · exact wpOp_call0 rfl (wanted_free rfl) 9 _ rfl (enters_cawake _ _) (cycAwake_any hT hS hP w1) (fun e w' h => ⟨_, h.1, (hI.add (by decide) svF_later (by decide) h.2 rfl)⟩)
      · exact wpOp_move rfl (wanted_free rfl) _ rfl _ (hF 0 (hpre 0 (by kernel_rfl))) (hI.add (by decide) svF_later (by decide) (Below.refl _ _) rfl)
      · have g1 := hF 1 (hpre 1 (by kernel_rfl))
        exact wpOp_load rfl (wanted_by (d := 51) rfl _ rfl rfl g1) _ _ rfl _ _ (hI.same 9 (by decide)) (run_loadTab w1 g tt (fun c hc => below_cells hI.below (ht7 c hc))) (hI.add (by decide) svF_later (by decide) (Below.refl _ _) rfl)
      · have g1 := hF 1 (hpre 1 (by kernel_rfl))
        exact wpOp_move rfl (wanted_by (d := 51) rfl _ rfl rfl g1) _ rfl _ (hI.same 0 (by decide)) (hI.add (by decide) svF_later (by decide) (Below.refl _ _) rfl)
      · have g1 := hF 1 (hpre 1 (by kernel_rfl))
        refine wpOp_call1 rfl (wanted_by (d := 51) rfl _ rfl rfl g1) 10 _ _ rfl _ (hF 3 (hpre 3 (by kernel_rfl))) (enters_cshort _ _) (SA7 w1 hI.below) (fun e w' h => ?_)
        obtain ⟨rfl, rfl⟩ := h
        exact ⟨_, rfl, (hI.add (by decide) svF_later (by decide) (Below.refl _ _) rfl)⟩
      · have g1 := hF 1 (hpre 1 (by kernel_rfl))
        exact wpOp_move rfl (wanted_by (d := 51) rfl _ rfl rfl g1) _ rfl _ (hI.same 1 (by decide)) (hI.add (by decide) svF_later (by decide) (Below.refl _ _) rfl)
      · have g1 := hF 1 (hpre 1 (by kernel_rfl))
        refine wpOp_call1 rfl (wanted_by (d := 51) rfl _ rfl rfl g1) 10 _ _ rfl _ (hF 5 (hpre 5 (by kernel_rfl))) (enters_cshort _ _) (SB7 w1 hI.below) (fun e w' h => ?_)
        obtain ⟨rfl, rfl⟩ := h
        exact ⟨_, rfl, (hI.add (by decide) svF_later (by decide) (Below.refl _ _) rfl)⟩
      · have g1 := hF 1 (hpre 1 (by kernel_rfl))
        have h1 : a.eval (.tmp 54) = _ := (hF 4 (hpre 4 (by kernel_rfl)))
        have h2 : a.eval (.tmp 56) = _ := (hF 6 (hpre 6 (by kernel_rfl)))
        exact wpOp_build rfl (wanted_by (d := 51) rfl _ rfl rfl g1) _ _ _ rfl #[(0, .slice A la.length ca), (1, .slice B lb.length cb)] (by simp [h1, h2]) _ (run_pair w1 _ _ _ _ _ _) (hI.add (by decide) svF_later (by decide) ((Below.refl _ _).alloc (Nat.le_refl _) _) (pp_two w1 (HA7.later hI.below) (HB7.later hI.below)))
      · have g1 := hF 1 (hpre 1 (by kernel_rfl))
        obtain ⟨P, c, hv, hPP⟩ := (hF 7 (hpre 7 (by kernel_rfl)))
        exact wpOp_call2 rfl (wanted_by (d := 51) rfl _ rfl rfl g1) 11 _ _ _ rfl _ _ (hF 2 (hpre 2 (by kernel_rfl))) hv (enters_sum _ _) (hS tt htt P _ c _ w1 hPP (by simp)) (fun e w' h => ⟨_, h.1, (hI.add (by decide) svF_later (by decide) h.2 rfl)⟩)
      · have g1 := hF 1 (hpre 1 (by kernel_rfl))
        exact wpOp_load rfl (wanted_by (d := 51) rfl _ rfl rfl g1) _ _ rfl _ _ (hI.same 9 (by decide)) (run_loadTab w1 g tt (fun c hc => below_cells hI.below (ht7 c hc))) (hI.add (by decide) svF_later (by decide) (Below.refl _ _) rfl)
      · have g1 := hF 1 (hpre 1 (by kernel_rfl))
        exact wpOp_move rfl (wanted_by (d := 51) rfl _ rfl rfl g1) _ rfl _ (hI.same 10 (by decide)) (hI.add (by decide) svF_later (by decide) (Below.refl _ _) rfl)
      · have g1 := hF 1 (hpre 1 (by kernel_rfl))
        exact wpOp_call2 rfl (wanted_by (d := 51) rfl _ rfl rfl g1) 15 _ _ _ rfl _ _ (hF 9 (hpre 9 (by kernel_rfl))) (hF 10 (hpre 10 (by kernel_rfl))) (enters_by _ _) (refBy_any tt htt X _ cx l w1 (HX7.later hI.below)) (fun e w' h => ⟨_, h.1, (hI.add (by decide) svF_later (by decide) h.2 (congrArg (fun z : Nat => Value.int .u32 (z : Int)) hS3))⟩)
      · have g1 := hF 1 (hpre 1 (by kernel_rfl))
        exact wpOp_bin rfl (wanted_by (d := 51) rfl _ rfl rfl g1) _ _ _ _ _ rfl _ _ _ (hF 8 (hpre 8 (by kernel_rfl))) (hF 11 (hpre 11 (by kernel_rfl))) (run_same_u32 _ _ _ w1) (hI.add (by decide) svF_later (by decide) (Below.refl _ _) rfl)
      · exact wpOp_pick rfl (wanted_free rfl) _ _ _ rfl true (hF 1 (hpre 1 (by kernel_rfl))) _ (hF 12 (hpre 12 (by kernel_rfl))) (hI.add (by decide) svF_later (by decide) (Below.refl _ _) rfl)
      · exact wpOp_assign rfl (wanted_free rfl) _ rfl _ (hF 13 (hpre 13 (by kernel_rfl))) (hI.add (by decide) svF_later (by decide) (Below.refl _ _) rfl)
    · intro D a w1 hI hall
      have fz : a.eval (.tmp 8) = .bool true := hI.fact 14 (hall 14 (by decide))
      have hd := hI.defs
      have hB := hI.below
      clear hall
      go_wp2
      refine bodyPost_ret (results_tmp rfl a.tmps _ _) hd ⟨?_, hbw7.trans (hB.mono hbw7.size)⟩
      show Ending.returned (a.eval (.tmp 8)) = _
      rw [fz]
end Go.Proofs.Ytjcbndnldmpmaaa
