/-
  Operations whose guard is not met, in a region of open order. Conditions: those that each theorem states.
-/
import Derived.Test.YthojnhdnflakiaaRegion
namespace Go.Proofs.Ythojnhdnflakiaa
open Go.RowKit Leb

section
variable {P : Program} {ops : Array Oper} {Q : Exit → Act → World → Prop} {i : Nat} {o : Oper} {a : Act} {w : World} {K : Act → World → Prop}
/-- An operation whose guard asks for something else is passed over. -/
theorem wanted_off {b : Bool} {j d : Nat} {v : Value} (h : o.guard = some (j, b)) (og : Oper) (hj : ops[j]? = some og) (hd : og.dst = some d) (hv : a.eval (.tmp d) = v) (hne : v ≠ .bool b) : Region.wanted o (yielded ops a.tmps) = false := by
  have e : yielded ops a.tmps j ≠ some b := by
    unfold yielded
    simp only [hj, hd, Option.bind_some]
    simp only [Act.eval, Array.getD_eq_getD_getElem?] at hv
    cases hx : a.tmps[d]? with
    | none => simp
    | some x =>
      rw [hx] at hv
      have hxv : x = v := by simpa using hv
      subst hxv
      cases x with
      | bool q =>
        intro e
        simp only [Option.some.injEq] at e
        exact hne (by rw [e])
      | _ => simp
  unfold Region.wanted
  rw [h]
  simpa using e
theorem wpOp_idle (ho : ops[i]? = some o) (hw : Region.wanted o (yielded ops a.tmps) = false) (hK : K (a.put o.dst undef) w) : wpOp P ops Q i K a w := by
  unfold wpOp
  rw [ho]
  simp only [hw]
  exact hK
end
end Go.Proofs.Ythojnhdnflakiaa
