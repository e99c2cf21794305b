/-
  Single operations on the reference's memo. Conditions: those that each theorem states.
-/
import Derived.Test.YthojnhdnflakiaaMemoRefDrop
import Derived.Test.YthojnhdnflakiaaTail
namespace Go.Proofs.Ythojnhdnflakiaa
open Go.RowKit Go.Lib Go.Shelf

section
variable {P : Program} {ops : Array Oper} {Q : Exit → Act → World → Prop} {i : Nat} {o : Oper} {a : Act} {w : World} {K : Act → World → Prop}
theorem wpOp_nil (ho : ops[i]? = some o) (hw : Region.wanted o (yielded ops a.tmps) = true) (x : Operand) (hop : o.op = .nilCheck x) (p : Addr) (hx : a.eval x = .pointer (some p)) (hK : K (a.put o.dst (.pointer (some p))) w) : wpOp P ops Q i K a w :=
  wpOp_value ho hw (v := .pointer (some p)) (w' := w) (by simp only [execOp, hop, hx]; rfl) hK
end
set_option maxRecDepth 100000 in
theorem run_fieldM (w : World) (b : Nat) : (Instr.fieldAt 42 (.pointer (some ⟨b, 0, Option.none⟩)) 1).run Try.prog w = .ok (.pointer (some ⟨b, 1, Option.none⟩)) w := by go_simp
set_option maxRecDepth 100000 in
theorem run_loadM (w : World) (b k : Nat) (A : Option Addr) (n c : Nat) (h : w.cell? ⟨b, k, Option.none⟩ = some (.slice A n c)) : (Instr.loadAt 39 (.pointer (some ⟨b, k, Option.none⟩))).run Try.prog w = .ok (.slice A n c) w := by go_simp
set_option maxRecDepth 100000 in
theorem run_idxE (w : World) (g off n c k : Nat) (h : k < n) : (Instr.indexAt 39 (.slice (some ⟨g, off, Option.none⟩) n c) (.int .i64 (k : Int))).run Try.prog w = .ok (.pointer (some ⟨g, off + k * 6, Option.none⟩)) w := by go_simp
set_option maxRecDepth 100000 in
theorem run_loadE (w : World) (g k : Nat) (x : Ent) (h1 : w.cell? ⟨g, k, Option.none⟩ = some (.string x.fr)) (h2 : w.cell? ⟨g, k + 1, Option.none⟩ = some (.string x.at_)) (h3 : w.cell? ⟨g, k + 2, Option.none⟩ = some (.bool x.cred)) (h4 : w.cell? ⟨g, k + 3, Option.none⟩ = some (.string x.me)) (h5 : w.cell? ⟨g, k + 4, Option.none⟩ = some (.string x.he)) (h6 : w.cell? ⟨g, k + 5, Option.none⟩ = some (.int .i64 x.til)) :
    (Instr.loadAt 32 (.pointer (some ⟨g, k, Option.none⟩))).run Try.prog w = .ok (evalue x) w := by
  obtain ⟨x1, x2, x3, x4, x5, x6⟩ := x
  unfold evalue
  simp only at *
  go_simp
theorem enters_same15 (vs : Array Value) (w : World) : (callFunc 27 vs).run Try.prog w = .ok (.enter 27 vs) w := by kernel_rfl
/-- What the slots of the statement hold that compares keys. -/
def mkF (b q : Nat) (A : Option Addr) (n c g off : Nat) (x y : Ent) (j : Nat) (v : Value) (_ : World) : Prop :=
  match j with
  | 0 => v = .pointer (some ⟨b, 0, Option.none⟩)
  | 1 => v = .pointer (some ⟨b, 0, Option.none⟩)
  | 2 => v = .pointer (some ⟨b, 1, Option.none⟩)
  | 3 => v = .slice A n c
  | 4 => v = .int .i64 (q : Int)
  | 5 => v = .pointer (some ⟨g, off + q * 6, Option.none⟩)
  | 6 => v = evalue y
  | 7 => v = evalue x
  | 8 => v = .bool (sameKey y x)
  | _ => True
theorem mkF_later {b q : Nat} {A : Option Addr} {n c g off : Nat} {x y : Ent} : Outlives (mkF b q A n c g off x y) := by
  intro j v w w' h _
  unfold mkF at h ⊢
  split at h
  all_goals exact h
end Go.Proofs.Ythojnhdnflakiaa
