/-
  Words for the laws of stage 20. Conditions: those that each theorem states.
-/
import Derived.Test.YtkjnpdnihfohoaaDelAwake
import Derived.Test.YtkjnpdnihfohoaaTabLen
import Derived.Test.YtkjnpdnihfohoaaDelFew
namespace Go.Proofs.Ytkjnpdnihfohoaa
open Go.RowKit Go.Lib Go.Maps Go.WideMaps Leb

theorem enters_awake20 (vs : Array Value) (w : World) : (callFunc 5 vs).run Try.prog w = .ok (.enter 5 vs) w := by kernel_rfl
theorem enters_same20 (vs : Array Value) (w : World) : (callFunc 12 vs).run Try.prog w = .ok (.enter 12 vs) w := by kernel_rfl
theorem enters_len20 (vs : Array Value) (w : World) : (callFunc 13 vs).run Try.prog w = .ok (.enter 13 vs) w := by kernel_rfl
set_option maxRecDepth 100000 in
theorem run_eqI20 (x y : Operand) (z : Int) (w : World) : (do eqGuard .eql 3 x y (.int .i64 z) (.int .i64 z); binOp .eql 3 (.int .i64 z) (.int .i64 z) : Sem Value).run Try.prog w = .ok (.bool true) w := by go_simp
set_option maxRecDepth 100000 in
theorem run_fieldR20 (w : World) (b : Nat) : (Instr.fieldAt 33 (.pointer (some ⟨b, 0, Option.none⟩)) 0).run Try.prog w = .ok (.pointer (some ⟨b, 0, Option.none⟩)) w := by go_simp
/-- Both tables as New and '&ref.Table{}' make them. -/
theorem duo_new20 {w w1 : World} {b1 : Nat} {S1 : Nat → Prop} (h1 : PTab w1 b1 [] S1) (lo1 : ∀ k, S1 k → w.heap.size ≤ k) (hb1 : Below w.heap.size w w1) :
    Duo w.heap.size (w1.alloc (.cells #[.slice Option.none 0 0] 33)) b1 [] S1 w1.heap.size [] (fun k => k = w1.heap.size) :=
  ⟨h1.later (below_box w1 _), newR w1 _ rfl, fun k hk e => by have := h1.low k hk; omega, lo1, fun k e => by have := hb1.size; omega⟩
theorem HwO.lo {w : World} {B : Nat} {v : Value} {l : List Hd} {S : Nat → Prop} (h : OwnsH w B v l) (hS : ∀ k, S k → k < B) : HwO w B v l S := ⟨h, h.off hS⟩
/-- The bytes of an argument lie in none of a table's blocks that was made since. -/
theorem off_args {W : World} {S : Nat → Prop} {A : Option Addr} {n c : Nat} {X : List Int} (h : Holds W A n c X) (hS : ∀ k, S k → W.heap.size ≤ k) : Off S A n := off_old h hS
theorem below_stepR {B : Nat} {w0 w w' : World} {b : Nat} {S S' : Nat → Prop} {l' : List (List UInt8)} (hb : Below B w0 w) (hs : RStep w w' b S S' l') (hB : B ≤ w.heap.size) (hS : ∀ k, S k → B ≤ k) : Below B w0 w' := below_alt hb hs.alt hB hS
/-- What the slots hold where the law asks whether both answers of Take are one. -/
def dtF (A6 A8 : Option Addr) (m6 c6 c8 : Nat) (q e : Int) (b1 b2 m : Nat) (A9 : Option Addr) (c9 : Nat) (j : Nat) (v : Value) (_ : World) : Prop :=
  match j with
  | 0 => v = .bool true
  | 1 => v = .bool true
  | 2 => v = .slice A6 m6 c6
  | 3 => v = .slice A8 m6 c8
  | 4 => v = .bool true
  | 5 => v = .bool true
  | 6 => v = .bool true
  | 7 => v = .int .i64 q
  | 8 => v = .int .i64 q
  | 9 => v = .bool true
  | 10 => v = .bool true
  | 11 => v = .bool true
  | 12 => v = .int .i64 e
  | 13 => v = .int .i64 e
  | 14 => v = .bool true
  | 15 => v = .bool true
  | 16 => v = .bool true
  | 17 => v = .pointer (some ⟨b1, 0, Option.none⟩)
  | 18 => v = .int .i64 (m : Int)
  | 19 => v = .pointer (some ⟨b2, 0, Option.none⟩)
  | 20 => v = .pointer (some ⟨b2, 0, Option.none⟩)
  | 21 => v = .pointer (some ⟨b2, 0, Option.none⟩)
  | 22 => v = .slice A9 m c9
  | 23 => v = .int .i64 (m : Int)
  | 24 => v = .bool true
  | 25 => v = .bool true
  | 26 => v = .bool true
  | _ => True
theorem dtF_later {A6 A8 : Option Addr} {m6 c6 c8 : Nat} {q e : Int} {b1 b2 m : Nat} {A9 : Option Addr} {c9 : Nat} : Outlives (dtF A6 A8 m6 c6 c8 q e b1 b2 m A9 c9) := by
  intro j v w w' h hk
  unfold dtF at h ⊢
  split at h
  all_goals first | exact h.keeps hk | exact h
end Go.Proofs.Ytkjnpdnihfohoaa
