/-
  The fixed fact at the head of each statement of layer 2 holds, if Table, Sum and Put are as they are held to be.
-/
import Derived.Test.YtjcbndnldmpmaaaCycSaid
namespace Go.Proofs.Ytjcbndnldmpmaaa
open Go.RowKit

/-- It returns true, and nothing that was there is changed. -/
def Yes (w : World) (e : Ending) (w' : World) : Prop := e = .returned (.bool true) ∧ Below w.heap.size w w'

/-- A literal of bytes in a block of its own, from B on. -/
def LB (B : Nat) (l : List Int) (v : Value) (w : World) : Prop := ∃ b, B ≤ b ∧ v = .slice (some ⟨b, 0, Option.none⟩) l.length l.length ∧ Holds w (some ⟨b, 0, Option.none⟩) l.length l.length l
/-- A slice of slices that reads as ls. -/
def PP (ls : List (List Int)) (v : Value) (w : World) : Prop := ∃ P c, v = .slice P ls.length c ∧ Parts w P ls.length ls

theorem LB.keeps {B : Nat} {l : List Int} {v : Value} {w w' : World} (h : LB B l v w) (hk : Keeps w w') : LB B l v w' := by
  obtain ⟨b, h1, h2, h3⟩ := h
  exact ⟨b, h1, h2, h3.keeps hk⟩
theorem PP.keeps {ls : List (List Int)} {v : Value} {w w' : World} (h : PP ls v w) (hk : Keeps w w') : PP ls v w' := by
  obtain ⟨P, c, h1, h2⟩ := h
  exact ⟨P, c, h1, h2.keeps hk⟩
theorem lb_new (w : World) {B : Nat} (cs : Array Value) (l : List Int) (hcs : cs = (l.map (Value.int .u8)).toArray) (hb : Leb.Bytes l) (hm : l.length ≤ maxLen) (hB : B ≤ w.heap.size) :
    LB B l (.slice (some ⟨w.heap.size, 0, Option.none⟩) l.length l.length) (w.alloc (.cells cs 5)) := ⟨w.heap.size, hB, rfl, holds_new w _ cs l hcs hb hm⟩
theorem pp_two (w : World) {A1 A2 : Option Addr} {c1 c2 : Nat} {l1 l2 : List Int} (h1 : Holds w A1 l1.length c1 l1) (h2 : Holds w A2 l2.length c2 l2) :
    PP [l1, l2] (.slice (some ⟨w.heap.size, 0, Option.none⟩) 2 2) (w.alloc (.cells #[.slice A1 l1.length c1, .slice A2 l2.length c2] 28)) := by
  refine ⟨_, 2, rfl, rfl, fun _ => ⟨w.heap.size, 0, rfl, fun j hj => ?_⟩⟩
  have hc := cell_of_row (w.alloc (.cells #[.slice A1 l1.length c1, .slice A2 l2.length c2] 28)) w.heap.size j _ _ (0, 0) (heap_alloc_new w _)
  rw [Nat.zero_add, hc]
  have hj' : j = 0 ∨ j = 1 := by have : j < 2 := hj; omega
  rcases hj' with rfl | rfl
  · exact ⟨A1, _, c1, rfl, h1.alloc _⟩
  · exact ⟨A2, _, c2, rfl, h2.alloc _⟩
theorem below_cells {w w' : World} (hb : Below w.heap.size w w') {a : Addr} {v : Value} (h : w.cell? a = some v) : w'.cell? a = some v := cell_later hb h

theorem run_index32 (w : World) (g i : Nat) (hi : i < 256) : (Instr.indexAt 24 (.pointer (some ⟨g, 0, Option.none⟩)) (.int .i64 (i : Int))).run Try.prog w = .ok (.pointer (some ⟨g, i, Option.none⟩)) w := by
  have h1 : (0 : Int) ≤ (i : Int) := by omega
  have h2 : (i : Int) < 256 := by omega
  go_simp
theorem run_load32 (w : World) (g i : Nat) (v : Value) (h : w.cell? ⟨g, i, Option.none⟩ = some v) : (Instr.loadAt 22 (.pointer (some ⟨g, i, Option.none⟩))).run Try.prog w = .ok v w := by go_simp
theorem run_loadTab (w : World) (g : Nat) (t : Nat → Nat) (h : ∀ c, c < 256 → w.cell? ⟨g, c, Option.none⟩ = some (.int .u32 (t c))) : (Instr.loadAt 24 (.pointer (some ⟨g, 0, Option.none⟩))).run Try.prog w = .ok (.agg (cells32 t).toArray) w := by
  refine run_loadAt_mid w g 0 _ (cells32 t) _ (fun j v hv => ?_) Try.underlying24 rfl (by rw [info32, length_cells32])
  have hj : j < 256 := by have := (List.getElem?_eq_some_iff.1 hv).1; rw [length_cells32] at this; exact this
  rw [cells32_at t hj] at hv
  injection hv with hv
  subst hv
  rw [Nat.zero_add]
  exact h j hj
theorem run_same_u32 (x y : Operand) (z : Int) (w : World) : (do eqGuard .eql 22 x y (.int .u32 z) (.int .u32 z); binOp .eql 22 (.int .u32 z) (.int .u32 z) : Sem Value).run Try.prog w = .ok (.bool true) w := by go_simp
theorem run_same_text (x y : Operand) (s : ByteArray) (w : World) : (do eqGuard .eql 9 x y (.string s) (.string s); binOp .eql 9 (.string s) (.string s) : Sem Value).run Try.prog w = .ok (.bool true) w := by go_simp
theorem run_build1 (w : World) (a : Int) : (Instr.buildSlice 28 1 #[(0, .int .u8 a)]).run Try.prog w = .ok (.slice (some ⟨w.heap.size, 0, Option.none⟩) 1 1) (w.alloc (.cells #[.int .u8 a] 5)) := by go_simp
theorem bytes_all {l : List Int} (h : (l.all fun x => decide (0 ≤ x) && decide (x < 256)) = true) : Leb.Bytes l := by
  intro x hx
  have := List.all_eq_true.1 h x hx
  simpa using this
theorem run_build4 (w : World) : (Instr.buildSlice 28 4 #[(0, .int .u8 49), (1, .int .u8 50), (2, .int .u8 51), (3, .int .u8 52)]).run Try.prog w = .ok (.slice (some ⟨w.heap.size, 0, Option.none⟩) 4 4) (w.alloc (.cells #[.int .u8 49, .int .u8 50, .int .u8 51, .int .u8 52] 5)) := by go_simp
theorem run_build5 (w : World) (a b c d e : Int) : (Instr.buildSlice 28 5 #[(0, .int .u8 a), (1, .int .u8 b), (2, .int .u8 c), (3, .int .u8 d), (4, .int .u8 e)]).run Try.prog w = .ok (.slice (some ⟨w.heap.size, 0, Option.none⟩) 5 5) (w.alloc (.cells #[.int .u8 a, .int .u8 b, .int .u8 c, .int .u8 d, .int .u8 e] 5)) := by go_simp
theorem run_pair (w : World) (A B : Option Addr) (n m c d : Nat) : (Instr.buildSlice 40 2 #[(0, .slice A n c), (1, .slice B m d)]).run Try.prog w = .ok (.slice (some ⟨w.heap.size, 0, Option.none⟩) 2 2) (w.alloc (.cells #[.slice A n c, .slice B m d] 28)) := by go_simp
theorem enters_sum (vs : Array Value) (w : World) : (callFunc 11 vs).run Try.prog w = .ok (.enter 11 vs) w := by kernel_rfl
theorem enters_put32 (vs : Array Value) (w : World) : (callFunc 13 vs).run Try.prog w = .ok (.enter 13 vs) w := by kernel_rfl
theorem sum_known : 4294967295 - regs tab0 [[49, 50, 51, 52], [53, 54, 55, 56, 57]] = 3421780262 := by decide +kernel
theorem tab_known : tab0 1 = 1996959894 ∧ tab0 255 = 755167117 := by decide +kernel

/-- What the slots of the fixed fact hold. -/
def awF (g B : Nat) (j : Nat) (v : Value) (w : World) : Prop :=
  match j with
  | 0 => v = .pointer (some ⟨g, 1, Option.none⟩)
  | 1 => v = .int .u32 1996959894
  | 2 => v = .bool true
  | 3 => v = .bool true
  | 4 => v = .pointer (some ⟨g, 255, Option.none⟩)
  | 5 => v = .int .u32 755167117
  | 6 => v = .bool true
  | 7 => v = .bool true
  | 8 => v = .bool true
  | 9 => v = .agg (cells32 tab0).toArray
  | 10 => LB B [49, 50, 51, 52] v w
  | 11 => BB [49, 50, 51, 52] v w
  | 12 => LB B [53, 54, 55, 56, 57] v w
  | 13 => BB [53, 54, 55, 56, 57] v w
  | 14 => PP [[49, 50, 51, 52], [53, 54, 55, 56, 57]] v w
  | 15 => v = .int .u32 3421780262
  | 16 => v = .bool true
  | 17 => v = .bool true
  | 18 => v = .bool true
  | 19 => BB [9] v w
  | 20 => BB [9, 4, 3, 2, 1] v w
  | 21 => v = .string (strOfNums [9, 4, 3, 2, 1])
  | 22 => BB [9, 4, 3, 2, 1] v w
  | 23 => v = .string (strOfNums [9, 4, 3, 2, 1])
  | 24 => v = .bool true
  | 25 => v = .bool true
  | 26 => v = .bool true
  | _ => True
theorem awF_later {g B : Nat} : Outlives (awF g B) := by
  intro j v w w' h hk
  unfold awF at h ⊢
  split at h
  all_goals first | exact h.keeps hk | exact h

set_option maxRecDepth 100000 in
set_option maxHeartbeats 1600000 in
theorem cycAwake_any (hT : TableSaid) (hS : SumSaid) (hP : PutSaid) (w : World) : Calls Try.prog 9 #[] w (Yes w) := by
  go_enter Try.func9, Try.ntmps9
  go_wp2_with fail
  refine (hT w).mono ?_
  rintro e wt ⟨rfl, hbt⟩
  go_wp2_with (with_reducible refine wpList_table rfl _ _ rfl rfl wt.heap.size rfl tab0 rfl rfl ?_; intro w2 ht0 hg2 hb2)
  have hbw : Below w.heap.size w w2 := hbt.trans (hb2.mono hbt.size)
  have ht : ∀ c, c < 256 → w2.cell? ⟨wt.heap.size, c, Option.none⟩ = some (.int .u32 (tab0 c)) := ht0
  clear ht0 hg2 hb2 hbt
  generalize wt.heap.size = g at *
  refine wp_region_each (RInv 29 [3, 4, 5, 6, 7, 8, 9, 10, 11, 12, 13, 14, 15, 16, 17, 18, 19, 20, 21, 22, 23, 24, 25, 26, 27, 28, 0] _ (awF g w2.heap.size) w2 NoMore) (by kernel_rfl) (by kernel_rfl) (RInv.start rfl trivial (Below.refl _ _).drew) ?_ ?_
  · intro i hi D a w1 hI hcl hnd hpre
    have hi' : i < 27 := hi
    have hcase : i = 0 ∨ i = 1 ∨ i = 2 ∨ i = 3 ∨ i = 4 ∨ i = 5 ∨ i = 6 ∨ i = 7 ∨ i = 8 ∨ i = 9 ∨ i = 10 ∨ i = 11 ∨ i = 12 ∨ i = 13 ∨ i = 14 ∨ i = 15 ∨ i = 16 ∨ i = 17 ∨ i = 18 ∨ i = 19 ∨ i = 20 ∨ i = 21 ∨ i = 22 ∨ i = 23 ∨ i = 24 ∨ i = 25 ∨ i = 26 := by omega
    have hF := hI.fact
    rcases hcase with rfl | rfl | rfl | rfl | rfl | rfl | rfl | rfl | rfl | rfl | rfl | rfl | rfl | rfl | rfl | rfl | rfl | rfl | rfl | rfl | rfl | rfl | rfl | rfl | rfl | rfl | rfl
    · exact wpOp_index rfl (wanted_free rfl) _ _ _ rfl _ _ _ (hI.same 1 (by decide)) rfl (run_index32 w1 g 1 (by omega)) (hI.add (by decide) awF_later (by decide) (Below.refl _ _) rfl)
    · exact wpOp_load rfl (wanted_free rfl) _ _ rfl _ _ (hF 0 (hpre 0 (by kernel_rfl))) (run_load32 w1 g 1 _ (below_cells hI.below (ht 1 (by omega)))) (hI.add (by decide) awF_later (by decide) (Below.refl _ _) rfl)
    · exact wpOp_bin rfl (wanted_free rfl) _ _ _ _ _ rfl _ _ _ (hF 1 (hpre 1 (by kernel_rfl))) rfl (run_same_u32 _ _ _ w1) (hI.add (by decide) awF_later (by decide) (Below.refl _ _) rfl)
    · exact wpOp_move rfl (wanted_free rfl) _ rfl _ (hF 2 (hpre 2 (by kernel_rfl))) (hI.add (by decide) awF_later (by decide) (Below.refl _ _) rfl)
    · have g3 := hF 3 (hpre 3 (by kernel_rfl))
      exact wpOp_index rfl (wanted_by (d := 6) rfl _ rfl rfl g3) _ _ _ rfl _ _ _ (hI.same 1 (by decide)) rfl (run_index32 w1 g 255 (by omega)) (hI.add (by decide) awF_later (by decide) (Below.refl _ _) rfl)
    · have g3 := hF 3 (hpre 3 (by kernel_rfl))
      exact wpOp_load rfl (wanted_by (d := 6) rfl _ rfl rfl g3) _ _ rfl _ _ (hF 4 (hpre 4 (by kernel_rfl))) (run_load32 w1 g 255 _ (below_cells hI.below (ht 255 (by omega)))) (hI.add (by decide) awF_later (by decide) (Below.refl _ _) rfl)
    · have g3 := hF 3 (hpre 3 (by kernel_rfl))
      exact wpOp_bin rfl (wanted_by (d := 6) rfl _ rfl rfl g3) _ _ _ _ _ rfl _ _ _ (hF 5 (hpre 5 (by kernel_rfl))) rfl (run_same_u32 _ _ _ w1) (hI.add (by decide) awF_later (by decide) (Below.refl _ _) rfl)
    · exact wpOp_pick rfl (wanted_free rfl) _ _ _ rfl true (hF 3 (hpre 3 (by kernel_rfl))) _ (hF 6 (hpre 6 (by kernel_rfl))) (hI.add (by decide) awF_later (by decide) (Below.refl _ _) rfl)
    · exact wpOp_move rfl (wanted_free rfl) _ rfl _ (hF 7 (hpre 7 (by kernel_rfl))) (hI.add (by decide) awF_later (by decide) (Below.refl _ _) rfl)
    · have g8 := hF 8 (hpre 8 (by kernel_rfl))
      exact wpOp_load rfl (wanted_by (d := 11) rfl _ rfl rfl g8) _ _ rfl _ _ (hI.same 1 (by decide)) (run_loadTab w1 g tab0 (fun c hc => below_cells hI.below (ht c hc))) (hI.add (by decide) awF_later (by decide) (Below.refl _ _) rfl)
    · have g8 := hF 8 (hpre 8 (by kernel_rfl))
      exact wpOp_build rfl (wanted_by (d := 11) rfl _ rfl rfl g8) _ _ _ rfl #[(0, .int .u8 49), (1, .int .u8 50), (2, .int .u8 51), (3, .int .u8 52)] (by simp [Act.eval]) _ (run_build4 w1) (hI.add (by decide) awF_later (by decide) ((Below.refl _ _).alloc (Nat.le_refl _) _) (lb_new w1 _ [49, 50, 51, 52] rfl (bytes_all (by decide)) (by simp [maxLen]) hI.below.size))
    · have g8 := hF 8 (hpre 8 (by kernel_rfl))
      obtain ⟨b, hbB, hv, hH⟩ := (hF 10 (hpre 10 (by kernel_rfl)))
      obtain ⟨w', hr, hk, hbw⟩ := run_mark Try.prog w1 28 5 b _ _ Try.underlying28 Try.underlying5
      exact wpOp_convert rfl (wanted_by (d := 11) rfl _ rfl rfl g8) _ _ _ rfl _ _ hv hr (hI.addK (by decide) awF_later (by decide) hk (hbw _ _ hI.below hbB) ⟨_, _, rfl, hH.keeps hk⟩)
    · have g8 := hF 8 (hpre 8 (by kernel_rfl))
      exact wpOp_build rfl (wanted_by (d := 11) rfl _ rfl rfl g8) _ _ _ rfl #[(0, .int .u8 53), (1, .int .u8 54), (2, .int .u8 55), (3, .int .u8 56), (4, .int .u8 57)] (by simp [Act.eval]) _ (run_build5 w1 _ _ _ _ _) (hI.add (by decide) awF_later (by decide) ((Below.refl _ _).alloc (Nat.le_refl _) _) (lb_new w1 _ [53, 54, 55, 56, 57] rfl (bytes_all (by decide)) (by simp [maxLen]) hI.below.size))
    · have g8 := hF 8 (hpre 8 (by kernel_rfl))
      obtain ⟨b, hbB, hv, hH⟩ := (hF 12 (hpre 12 (by kernel_rfl)))
      obtain ⟨w', hr, hk, hbw⟩ := run_mark Try.prog w1 28 5 b _ _ Try.underlying28 Try.underlying5
      exact wpOp_convert rfl (wanted_by (d := 11) rfl _ rfl rfl g8) _ _ _ rfl _ _ hv hr (hI.addK (by decide) awF_later (by decide) hk (hbw _ _ hI.below hbB) ⟨_, _, rfl, hH.keeps hk⟩)
    · have g8 := hF 8 (hpre 8 (by kernel_rfl))
      obtain ⟨A1, c1, h1, H1⟩ := (hF 11 (hpre 11 (by kernel_rfl)))
      obtain ⟨A2, c2, h2, H2⟩ := (hF 13 (hpre 13 (by kernel_rfl)))
      have h1' : a.eval (.tmp 14) = .slice A1 4 c1 := h1
      have h2' : a.eval (.tmp 16) = .slice A2 5 c2 := h2
      exact wpOp_build rfl (wanted_by (d := 11) rfl _ rfl rfl g8) _ _ _ rfl #[(0, .slice A1 4 c1), (1, .slice A2 5 c2)] (by simp [h1', h2']) _ (run_pair w1 _ _ _ _ _ _) (hI.add (by decide) awF_later (by decide) ((Below.refl _ _).alloc (Nat.le_refl _) _) (pp_two w1 H1 H2))
    · have g8 := hF 8 (hpre 8 (by kernel_rfl))
      obtain ⟨P, c, hv, hPP⟩ := (hF 14 (hpre 14 (by kernel_rfl)))
      refine wpOp_call2 rfl (wanted_by (d := 11) rfl _ rfl rfl g8) 11 _ _ _ rfl _ _ (hF 9 (hpre 9 (by kernel_rfl))) hv (enters_sum _ _) (hS tab0 tab0_lt P 2 c _ w1 hPP (by omega)) (fun e w' h => ?_)
      refine ⟨_, h.1, (hI.add (by decide) awF_later (by decide) h.2 ?_)⟩
      exact congrArg (fun z : Nat => Value.int .u32 (z : Int)) sum_known
    · have g8 := hF 8 (hpre 8 (by kernel_rfl))
      exact wpOp_bin rfl (wanted_by (d := 11) rfl _ rfl rfl g8) _ _ _ _ _ rfl _ _ _ (hF 15 (hpre 15 (by kernel_rfl))) rfl (run_same_u32 _ _ _ w1) (hI.add (by decide) awF_later (by decide) (Below.refl _ _) rfl)
    · exact wpOp_pick rfl (wanted_free rfl) _ _ _ rfl true (hF 8 (hpre 8 (by kernel_rfl))) _ (hF 16 (hpre 16 (by kernel_rfl))) (hI.add (by decide) awF_later (by decide) (Below.refl _ _) rfl)
    · exact wpOp_move rfl (wanted_free rfl) _ rfl _ (hF 17 (hpre 17 (by kernel_rfl))) (hI.add (by decide) awF_later (by decide) (Below.refl _ _) rfl)
    · have g18 := hF 18 (hpre 18 (by kernel_rfl))
      exact wpOp_build rfl (wanted_by (d := 21) rfl _ rfl rfl g18) _ _ _ rfl #[(0, .int .u8 9)] (by simp [Act.eval]) _ (run_build1 w1 _) (hI.add (by decide) awF_later (by decide) ((Below.refl _ _).alloc (Nat.le_refl _) _) ⟨_, _, rfl, holds_new w1 _ _ [9] rfl (bytes_all (by decide)) (by simp [maxLen])⟩)
    · have g18 := hF 18 (hpre 18 (by kernel_rfl))
      obtain ⟨A1, c1, h1, H1⟩ := (hF 19 (hpre 19 (by kernel_rfl)))
      refine wpOp_call2 rfl (wanted_by (d := 21) rfl _ rfl rfl g18) 13 _ _ _ rfl _ _ h1 rfl (enters_put32 _ _) (hP _ _ _ _ 16909060 w1 (by omega) H1 (by simp)) (fun e w' h => ?_)
      obtain ⟨v, rfl, ho, hb⟩ := h
      exact ⟨_, rfl, (hI.add (by decide) awF_later (by decide) hb ho.holds)⟩
    · have g18 := hF 18 (hpre 18 (by kernel_rfl))
      obtain ⟨A1, c1, h1, H1⟩ := (hF 20 (hpre 20 (by kernel_rfl)))
      exact wpOp_convert rfl (wanted_by (d := 21) rfl _ rfl rfl g18) _ _ _ rfl _ _ h1 (run_text _ _ 5 Try.underlying28 Try.underlying5 Try.underlying9 H1) (hI.add (by decide) awF_later (by decide) (Below.refl _ _) rfl)
    · have g18 := hF 18 (hpre 18 (by kernel_rfl))
      exact wpOp_build rfl (wanted_by (d := 21) rfl _ rfl rfl g18) _ _ _ rfl #[(0, .int .u8 9), (1, .int .u8 4), (2, .int .u8 3), (3, .int .u8 2), (4, .int .u8 1)] (by simp [Act.eval]) _ (run_build5 w1 _ _ _ _ _) (hI.add (by decide) awF_later (by decide) ((Below.refl _ _).alloc (Nat.le_refl _) _) ⟨_, _, rfl, holds_new w1 _ _ [9, 4, 3, 2, 1] rfl (bytes_all (by decide)) (by simp [maxLen])⟩)
    · have g18 := hF 18 (hpre 18 (by kernel_rfl))
      obtain ⟨A1, c1, h1, H1⟩ := (hF 22 (hpre 22 (by kernel_rfl)))
      exact wpOp_convert rfl (wanted_by (d := 21) rfl _ rfl rfl g18) _ _ _ rfl _ _ h1 (run_text _ _ 5 Try.underlying28 Try.underlying5 Try.underlying9 H1) (hI.add (by decide) awF_later (by decide) (Below.refl _ _) rfl)
    · have g18 := hF 18 (hpre 18 (by kernel_rfl))
      exact wpOp_bin rfl (wanted_by (d := 21) rfl _ rfl rfl g18) _ _ _ _ _ rfl _ _ _ (hF 21 (hpre 21 (by kernel_rfl))) (hF 23 (hpre 23 (by kernel_rfl))) (run_same_text _ _ _ w1) (hI.add (by decide) awF_later (by decide) (Below.refl _ _) rfl)
    · exact wpOp_pick rfl (wanted_free rfl) _ _ _ rfl true (hF 18 (hpre 18 (by kernel_rfl))) _ (hF 24 (hpre 24 (by kernel_rfl))) (hI.add (by decide) awF_later (by decide) (Below.refl _ _) rfl)
    · exact wpOp_assign rfl (wanted_free rfl) _ rfl _ (hF 25 (hpre 25 (by kernel_rfl))) (hI.add (by decide) awF_later (by decide) (Below.refl _ _) rfl)
  · intro D a w1 hI hall
    have f26 : a.eval (.tmp 0) = .bool true := hI.fact 26 (hall 26 (by decide))
    have hd := hI.defs
    have hB := hI.below
    clear hall
    go_wp2
    refine bodyPost_ret (results_tmp rfl a.tmps _ _) hd ⟨?_, hbw.trans (hB.mono hbw.size)⟩
    show Ending.returned (a.eval (.tmp 0)) = _
    rw [f26]
end Go.Proofs.Ytjcbndnldmpmaaa
