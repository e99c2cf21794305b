/-
  Words that the walks over checksums share: literals of bytes, slices of slices, tables in memory; and single operations. Conditions: those that each theorem states.
-/
import Derived.Test.YtaabhnjikggomaaCycSaid
import Derived.Test.YtaabhnjikggomaaInfo
namespace Go.Proofs.Ytaabhnjikggomaa
open Go.RowKit

/-- A literal of bytes in a block of its own, from B on. -/
def LB (B : Nat) (l : List Int) (v : Value) (w : World) : Prop := ∃ b, B ≤ b ∧ v = .slice (some ⟨b, 0, Option.none⟩) l.length l.length ∧ Holds w (some ⟨b, 0, Option.none⟩) l.length l.length l
/-- A slice of slices that reads as ls. -/
def PP (ls : List (List Int)) (v : Value) (w : World) : Prop := ∃ P c, v = .slice P ls.length c ∧ Parts w P ls.length ls

theorem LB.keeps {B : Nat} {l : List Int} {v : Value} {w w' : World} (h : LB B l v w) (hk : Keeps w w') : LB B l v w' := by
  obtain ⟨b, h1, h2, h3⟩ := h
  exact ⟨b, h1, h2, h3.keeps hk⟩
theorem PP.keeps {ls : List (List Int)} {v : Value} {w w' : World} (h : PP ls v w) (hk : Keeps w w') : PP ls v w' := by
  obtain ⟨P, c, h1, h2⟩ := h
  exact ⟨P, c, h1, h2.keeps hk⟩
theorem lb_new (w : World) {B : Nat} (cs : Array Value) (l : List Int) (hcs : cs = (l.map (Value.int .u8)).toArray) (hb : Leb.Bytes l) (hm : l.length ≤ maxLen) (hB : B ≤ w.heap.size) :
    LB B l (.slice (some ⟨w.heap.size, 0, Option.none⟩) l.length l.length) (w.alloc (.cells cs 5)) := ⟨w.heap.size, hB, rfl, holds_new w _ cs l hcs hb hm⟩
theorem pp_two (w : World) {A1 A2 : Option Addr} {c1 c2 : Nat} {l1 l2 : List Int} (h1 : Holds w A1 l1.length c1 l1) (h2 : Holds w A2 l2.length c2 l2) :
    PP [l1, l2] (.slice (some ⟨w.heap.size, 0, Option.none⟩) 2 2) (w.alloc (.cells #[.slice A1 l1.length c1, .slice A2 l2.length c2] 24)) := by
  refine ⟨_, 2, rfl, rfl, fun _ => ⟨w.heap.size, 0, rfl, fun j hj => ?_⟩⟩
  have hc := cell_of_row (w.alloc (.cells #[.slice A1 l1.length c1, .slice A2 l2.length c2] 24)) w.heap.size j _ _ (0, 0) (heap_alloc_new w _)
  rw [Nat.zero_add, hc]
  have hj' : j = 0 ∨ j = 1 := by have : j < 2 := hj; omega
  rcases hj' with rfl | rfl
  · exact ⟨A1, _, c1, rfl, h1.alloc _⟩
  · exact ⟨A2, _, c2, rfl, h2.alloc _⟩
theorem below_cells {w w' : World} (hb : Below w.heap.size w w') {a : Addr} {v : Value} (h : w.cell? a = some v) : w'.cell? a = some v := cell_later hb h

theorem run_index32 (w : World) (g i : Nat) (hi : i < 256) : (Instr.indexAt 25 (.pointer (some ⟨g, 0, Option.none⟩)) (.int .i64 (i : Int))).run Try.prog w = .ok (.pointer (some ⟨g, i, Option.none⟩)) w := by
  have h1 : (0 : Int) ≤ (i : Int) := by omega
  have h2 : (i : Int) < 256 := by omega
  go_simp
theorem run_load32 (w : World) (g i : Nat) (v : Value) (h : w.cell? ⟨g, i, Option.none⟩ = some v) : (Instr.loadAt 23 (.pointer (some ⟨g, i, Option.none⟩))).run Try.prog w = .ok v w := by go_simp
theorem run_loadTab (w : World) (g : Nat) (t : Nat → Nat) (h : ∀ c, c < 256 → w.cell? ⟨g, c, Option.none⟩ = some (.int .u32 (t c))) : (Instr.loadAt 25 (.pointer (some ⟨g, 0, Option.none⟩))).run Try.prog w = .ok (.agg (cells32 t).toArray) w := by
  refine run_loadAt_mid w g 0 _ (cells32 t) _ (fun j v hv => ?_) Try.underlying25 rfl (by rw [info32, length_cells32])
  have hj : j < 256 := by have := (List.getElem?_eq_some_iff.1 hv).1; rw [length_cells32] at this; exact this
  rw [cells32_at t hj] at hv
  injection hv with hv
  subst hv
  rw [Nat.zero_add]
  exact h j hj
theorem run_same_u32 (x y : Operand) (z : Int) (w : World) : (do eqGuard .eql 23 x y (.int .u32 z) (.int .u32 z); binOp .eql 23 (.int .u32 z) (.int .u32 z) : Sem Value).run Try.prog w = .ok (.bool true) w := by go_simp
theorem run_same_text (x y : Operand) (s : ByteArray) (w : World) : (do eqGuard .eql 9 x y (.string s) (.string s); binOp .eql 9 (.string s) (.string s) : Sem Value).run Try.prog w = .ok (.bool true) w := by go_simp
theorem run_build1 (w : World) (a : Int) : (Instr.buildSlice 24 1 #[(0, .int .u8 a)]).run Try.prog w = .ok (.slice (some ⟨w.heap.size, 0, Option.none⟩) 1 1) (w.alloc (.cells #[.int .u8 a] 5)) := by go_simp
theorem bytes_all {l : List Int} (h : (l.all fun x => decide (0 ≤ x) && decide (x < 256)) = true) : Leb.Bytes l := by
  intro x hx
  have := List.all_eq_true.1 h x hx
  simpa using this
theorem run_build4 (w : World) : (Instr.buildSlice 24 4 #[(0, .int .u8 49), (1, .int .u8 50), (2, .int .u8 51), (3, .int .u8 52)]).run Try.prog w = .ok (.slice (some ⟨w.heap.size, 0, Option.none⟩) 4 4) (w.alloc (.cells #[.int .u8 49, .int .u8 50, .int .u8 51, .int .u8 52] 5)) := by go_simp
theorem run_build5 (w : World) (a b c d e : Int) : (Instr.buildSlice 24 5 #[(0, .int .u8 a), (1, .int .u8 b), (2, .int .u8 c), (3, .int .u8 d), (4, .int .u8 e)]).run Try.prog w = .ok (.slice (some ⟨w.heap.size, 0, Option.none⟩) 5 5) (w.alloc (.cells #[.int .u8 a, .int .u8 b, .int .u8 c, .int .u8 d, .int .u8 e] 5)) := by go_simp
theorem run_pair (w : World) (A B : Option Addr) (n m c d : Nat) : (Instr.buildSlice 61 2 #[(0, .slice A n c), (1, .slice B m d)]).run Try.prog w = .ok (.slice (some ⟨w.heap.size, 0, Option.none⟩) 2 2) (w.alloc (.cells #[.slice A n c, .slice B m d] 24)) := by go_simp
theorem enters_sum (vs : Array Value) (w : World) : (callFunc 18 vs).run Try.prog w = .ok (.enter 18 vs) w := by kernel_rfl
theorem enters_put32 (vs : Array Value) (w : World) : (callFunc 17 vs).run Try.prog w = .ok (.enter 17 vs) w := by kernel_rfl
theorem sum_known : 4294967295 - regs tab0 [[49, 50, 51, 52], [53, 54, 55, 56, 57]] = 3421780262 := by decide +kernel
theorem tab_known : tab0 1 = 1996959894 ∧ tab0 255 = 755167117 := by decide +kernel

end Go.Proofs.Ytaabhnjikggomaa
