/-
  Single operations of the statements of layer 14: answers by value, their fields, a call with four arguments. Conditions: those that each theorem states.
-/
import Derived.Test.YtalnjlodldhfbaaGreatDoorPreMath
import Derived.Test.YtalnjlodldhfbaaGreatDoorLow
namespace Go.Proofs.YtalnjlodldhfbaaGreatDoor
open Go.RowKit Go.Lib Go.Shelf

section
variable {P : Program} {ops : Array Oper} {Q : Exit → Act → World → Prop} {i : Nat} {o : Oper} {a : Act} {w : World} {K : Act → World → Prop}
theorem wpOp_call4 (ho : ops[i]? = some o) (hw : Region.wanted o (yielded ops a.tmps) = true) (f : FuncId) (x y z t : Operand) (ts : Array TypeId) (hop : o.op = .call { callee := .value (.func f), args := #[x, y, z, t], argTypes := ts }) (u u' u'' u3 : Value) (hx : a.eval x = u) (hy : a.eval y = u') (hz : a.eval z = u'') (ht : a.eval t = u3)
    {R : Ending → World → Prop} (hcf : (callFunc f #[u, u', u'', u3]).run P w = .ok (.enter f #[u, u', u'', u3]) w) (hc : Calls P f #[u, u', u'', u3] w R) (hK : ∀ e w', R e w' → ∃ v, e = .returned v ∧ K (a.put o.dst v) w') : wpOp P ops Q i K a w :=
  wpOp_call ho hw f #[u, u', u'', u3] (by
    subst hx
    subst hy
    subst hz
    subst ht
    unfold execOp
    simp only [hop, resolve, Act.eval, Deferred.ofValue, invoke, Sem.run_bind, Sem.run_pure, Result.andThen_ok, List.map_toArray, List.map_cons, List.map_nil, Array.append_empty]
    exact hcf) hc hK
/-- An operation whose guard asks for something else is passed over. -/
theorem wanted_off {b : Bool} {j d : Nat} {v : Value} (h : o.guard = some (j, b)) (og : Oper) (hj : ops[j]? = some og) (hd : og.dst = some d) (hv : a.eval (.tmp d) = v) (hne : v ≠ .bool b) : Region.wanted o (yielded ops a.tmps) = false := by
  have e : yielded ops a.tmps j ≠ some b := by
    unfold yielded
    simp only [hj, hd, Option.bind_some]
    simp only [Act.eval, Array.getD_eq_getD_getElem?] at hv
    cases hx : a.tmps[d]? with
    | none => simp
    | some x =>
      rw [hx] at hv
      have hxv : x = v := by simpa using hv
      subst hxv
      cases x with
      | bool q =>
        intro e
        simp only [Option.some.injEq] at e
        exact hne (by rw [e])
      | _ => simp
  unfold Region.wanted
  rw [h]
  simpa using e
theorem wpOp_idle (ho : ops[i]? = some o) (hw : Region.wanted o (yielded ops a.tmps) = false) (hK : K (a.put o.dst undef) w) : wpOp P ops Q i K a w := by
  unfold wpOp
  rw [ho]
  simp only [hw]
  exact hK
end
set_option maxRecDepth 100000 in
theorem run_fA0 (w : World) (g : Nat) : (Instr.fieldAt 33 (.pointer (some ⟨g, 0, Option.none⟩)) 0).run Tryz.prog w = .ok (.pointer (some ⟨g, 0, Option.none⟩)) w := by go_simp
set_option maxRecDepth 100000 in
theorem run_fA1 (w : World) (g : Nat) : (Instr.fieldAt 33 (.pointer (some ⟨g, 0, Option.none⟩)) 1).run Tryz.prog w = .ok (.pointer (some ⟨g, 1, Option.none⟩)) w := by go_simp
set_option maxRecDepth 100000 in
theorem run_fA2 (w : World) (g : Nat) : (Instr.fieldAt 33 (.pointer (some ⟨g, 0, Option.none⟩)) 2).run Tryz.prog w = .ok (.pointer (some ⟨g, 2, Option.none⟩)) w := by go_simp
set_option maxRecDepth 100000 in
theorem run_lA (w : World) (g : Nat) (x y : Value) (z : Int) (h0 : w.cell? ⟨g, 0, Option.none⟩ = some x) (h1 : w.cell? ⟨g, 1, Option.none⟩ = some y) (h2 : w.cell? ⟨g, 2, Option.none⟩ = some (.int .i64 z)) : (Instr.loadAt 33 (.pointer (some ⟨g, 0, Option.none⟩))).run Tryz.prog w = .ok (.agg #[x, y, .int .i64 z]) w := by go_simp
set_option maxRecDepth 100000 in
theorem run_fB0 (w : World) (g : Nat) : (Instr.fieldAt 36 (.pointer (some ⟨g, 0, Option.none⟩)) 0).run Tryz.prog w = .ok (.pointer (some ⟨g, 0, Option.none⟩)) w := by go_simp
set_option maxRecDepth 100000 in
theorem run_fB1 (w : World) (g : Nat) : (Instr.fieldAt 36 (.pointer (some ⟨g, 0, Option.none⟩)) 1).run Tryz.prog w = .ok (.pointer (some ⟨g, 1, Option.none⟩)) w := by go_simp
set_option maxRecDepth 100000 in
theorem run_fB2 (w : World) (g : Nat) : (Instr.fieldAt 36 (.pointer (some ⟨g, 0, Option.none⟩)) 2).run Tryz.prog w = .ok (.pointer (some ⟨g, 2, Option.none⟩)) w := by go_simp
set_option maxRecDepth 100000 in
theorem run_lB (w : World) (g : Nat) (x y : Value) (z : Int) (h0 : w.cell? ⟨g, 0, Option.none⟩ = some x) (h1 : w.cell? ⟨g, 1, Option.none⟩ = some y) (h2 : w.cell? ⟨g, 2, Option.none⟩ = some (.int .i64 z)) : (Instr.loadAt 36 (.pointer (some ⟨g, 0, Option.none⟩))).run Tryz.prog w = .ok (.agg #[x, y, .int .i64 z]) w := by go_simp
set_option maxRecDepth 100000 in
theorem run_lS (w : World) (g k : Nat) (A : Option Addr) (n c : Nat) (h : w.cell? ⟨g, k, Option.none⟩ = some (.slice A n c)) : (Instr.loadAt 31 (.pointer (some ⟨g, k, Option.none⟩))).run Tryz.prog w = .ok (.slice A n c) w := by go_simp
set_option maxRecDepth 100000 in
theorem run_lI (w : World) (g k : Nat) (z : Int) (h : w.cell? ⟨g, k, Option.none⟩ = some (.int .i64 z)) : (Instr.loadAt 3 (.pointer (some ⟨g, k, Option.none⟩))).run Tryz.prog w = .ok (.int .i64 z) w := by go_simp
theorem run_eqB (x y : Operand) (b : Bool) (w : World) : (do eqGuard .eql 4 x y (.bool b) (.bool b); binOp .eql 4 (.bool b) (.bool b) : Sem Value).run Tryz.prog w = .ok (.bool true) w := by go_simp
theorem run_eqI (x y : Operand) (z : Int) (w : World) : (do eqGuard .eql 3 x y (.int .i64 z) (.int .i64 z); binOp .eql 3 (.int .i64 z) (.int .i64 z) : Sem Value).run Tryz.prog w = .ok (.bool true) w := by go_simp
set_option maxRecDepth 100000 in
theorem run_gtN (x y : Operand) (n : Nat) (h : 0 < n) (w : World) : (do eqGuard .gtr 3 x y (.int .i64 (n : Int)) (.int .i64 0); binOp .gtr 3 (.int .i64 (n : Int)) (.int .i64 0) : Sem Value).run Tryz.prog w = .ok (.bool true) w := by go_simp
theorem run_gtZ (x y : Operand) (n : Nat) (h : n = 0) (w : World) : (do eqGuard .gtr 3 x y (.int .i64 (n : Int)) (.int .i64 0); binOp .gtr 3 (.int .i64 (n : Int)) (.int .i64 0) : Sem Value).run Tryz.prog w = .ok (.bool false) w := by subst h; go_simp
theorem run_not (b : Bool) (w : World) : (Op.unary .not (.bool b)).run Tryz.prog w = .ok (.bool (!b)) w := by go_simp
theorem enters_awake14 (vs : Array Value) (w : World) : (callFunc 6 vs).run Tryz.prog w = .ok (.enter 6 vs) w := by kernel_rfl
theorem enters_lets (vs : Array Value) (w : World) : (callFunc 16 vs).run Tryz.prog w = .ok (.enter 16 vs) w := by kernel_rfl
end Go.Proofs.YtalnjlodldhfbaaGreatDoor
