/-
  Small words on memory that grows. Conditions: those that each theorem states.
-/
import Derived.Test.YtlmchoonokglaaaRegion
namespace Go.Proofs.Ytlmchoonokglaaa
open Go.RowKit Go.Lib

theorem below_then {w a b : World} (h : Below w.heap.size w a) (k : Below a.heap.size a b) : Below w.heap.size w b := h.trans (k.mono h.size)
theorem below_box (w : World) (o : Obj) : Below w.heap.size w (w.alloc o) := (Below.refl _ _).alloc (Nat.le_refl _) o
theorem below_boxd (w : World) (o : Obj) : Below w.heap.size w (w.alloc o).drew := (below_box w o).drew
theorem below_undrew {w w' : World} (h : Below w.drew.heap.size w.drew w') : Below w.heap.size w w' := ⟨h.os, h.tape, h.output, h.size, h.block⟩
theorem tiny {n : Nat} (h : n ≤ 1000) : n ≤ maxLen := by simp only [maxLen]; omega
section
variable {P : Program} {ops : Array Oper} {Q : Exit → Act → World → Prop} {i : Nat} {o : Oper} {a : Act} {w : World} {K : Act → World → Prop}
theorem wpOp_field (ho : ops[i]? = some o) (hw : Region.wanted o (yielded ops a.tmps) = true) (t : TypeId) (x : Operand) (k : Nat) (hop : o.op = .fieldAddr t x k) (u v : Value) (hx : a.eval x = u) (hr : (Instr.fieldAt t u k).run P w = .ok v w) (hK : K (a.put o.dst v) w) : wpOp P ops Q i K a w :=
  wpOp_value ho hw (v := v) (w' := w) (by simp only [execOp, hop, hx, Sem.run_bind, hr]; rfl) hK
end
end Go.Proofs.Ytlmchoonokglaaa
