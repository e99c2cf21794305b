/-
  A map from texts to numbers that reads as a table's numbers. No program is spoken of; no condition beyond those that each theorem states.
-/
import Derived.Test.YtkjnpdnihfohoaaTabMath
import Derived.Maps.OwnSet
namespace Go.Proofs.Ytkjnpdnihfohoaa
open Go.RowKit Go.Maps

/-- The map that reads as D tells the number of each text of l, and of no other one. -/
structure TabOf {H : Type} (q : IntKind) (D : DataW H) (l : List (List UInt8)) : Prop where
  map : IsMap D
  has : ∀ s, Maps.has D (.string s) = decide (numT l s ≠ 0)
  num : ∀ s, numT l s ≠ 0 → D.atKey (.string s) (.lit (.int q 0)) = .lit (.int q (numT l s))

theorem tab_nil {H : Type} (q : IntKind) : TabOf q (.map [] : DataW H) [] := ⟨isMap_empty, fun s => by simp [Maps.has, numT], fun s h => absurd rfl h⟩

theorem isKey_string (s : List UInt8) : WideAt.IsKeyLit (.string s) := by simp [WideAt.IsKeyLit]

theorem TabOf.put {H : Type} {q : IntKind} {D : DataW H} {l : List (List UInt8)} (h : TabOf q D l) {s : List UInt8} (hs : numT l s = 0) : TabOf q (D.put (.string s) (.lit (.int q ((l.length + 1 : Nat) : Int)))) (l ++ [s]) := by
  refine ⟨h.map.put _ _, fun x => ?_, fun x hx => ?_⟩
  · by_cases e : x = s
    · subst e
      rw [has_put_same h.map (isKey_string x), numT_snoc_new hs]
      simp
    · rw [has_put_other (fun e' => e (by injection e')), h.has, numT_snoc_other l e]
  · by_cases e : x = s
    · subst e
      rw [atKey_put_same h.map (isKey_string x), numT_snoc_new hs]
    · rw [numT_snoc_other l e] at hx ⊢
      rw [atKey_put_other (fun e' => e (by injection e')), h.num x hx]
end Go.Proofs.Ytkjnpdnihfohoaa
