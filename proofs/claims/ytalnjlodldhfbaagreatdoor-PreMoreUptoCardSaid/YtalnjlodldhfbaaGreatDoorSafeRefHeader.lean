/-
  Safelisted headers, as the reference has them: all of them. Conditions: those that each theorem states.
-/
import Derived.Test.YtalnjlodldhfbaaGreatDoorSafeRefLang
import Derived.Test.YtalnjlodldhfbaaGreatDoorSafeRefType
namespace Go.Proofs.YtalnjlodldhfbaaGreatDoor
open Go.RowKit Go.Lib Go.Shelf

theorem refHeader_any (x y : ByteArray) (hx : x.size ≤ 140737488351232) (w : World) : Calls Tryz.prog 21 #[.agg #[.string x, .string y]] w fun e w' => e = .returned (.bool (headOk x y)) ∧ Below w.heap.size w w' := by
  have hlow := fun W => refLower_any x hx W
  rw [show (⟨(x.data.toList.map (turn 65 90 32)).toArray⟩ : ByteArray) = mk (lo x) from rfl] at hlow
  by_cases hy : y.size ≤ 128
  · rw [show headOk x y = headKind (mk (lo x)) y by unfold headOk; rw [decide_eq_true hy, Bool.true_and]]
    generalize mk (lo x) = u at hlow ⊢
    unfold headKind
    cases q0 : (u.toList == [97, 99, 99, 101, 112, 116]) with
    | true =>
      rw [text_is q0] at hlow
      exact refhead_accept x y w hlow hy
    | false =>
    cases q1 : (u.toList == [97, 99, 99, 101, 112, 116, 45, 108, 97, 110, 103, 117, 97, 103, 101]) with
    | true =>
      rw [text_is q1] at hlow
      exact refhead_lang1 x y w hlow hy
    | false =>
    cases q2 : (u.toList == [99, 111, 110, 116, 101, 110, 116, 45, 108, 97, 110, 103, 117, 97, 103, 101]) with
    | true =>
      rw [text_is q2] at hlow
      exact refhead_lang2 x y w hlow hy
    | false =>
    cases q3 : (u.toList == [99, 111, 110, 116, 101, 110, 116, 45, 116, 121, 112, 101]) with
    | true =>
      rw [text_is q3] at hlow
      exact refhead_type x y w hlow hy
    | false => exact refhead_other x y u w hlow hy (isIn_miss (by simp only [four, List.forall_mem_cons]; exact ⟨q0, q1, q2, q3, fun _ h => by cases h⟩))
  · rw [show headOk x y = false by unfold headOk; rw [decide_eq_false hy, Bool.false_and]]
    exact refhead_long x y _ w hlow (by omega)
end Go.Proofs.YtalnjlodldhfbaaGreatDoor
