/-
  Arguments that are slices of bytes, as the frame of a statement's proof hands them over: what lies in memory. Conditions: those that each theorem states.
-/
import Derived.Test.YtodncamohimmmaaLow2
import Derived.Test.YtodncamohimmmaaLow3
import Derived.Carry
import Derived.OpenShut
import Derived.ChangeMaps5
import Derived.SizedLaws
namespace Go.Proofs.Ytodncamohimmmaa
open Go.RowKit Go.Lib Go.ChangeShapes Go.WideShapes
open Go.ChangeMaps (open_string)

section
variable {H : Type} {enc : TypeId × Value → H} {W : World}

set_option maxRecDepth 100000 in
theorem open_bytes9 {base : Nat} {v : Value} {d : DataW H} {p : List MemPlace} (hval : Value.okWide Try.prog W .any base 43 v) (h : DataW.Trod enc Try.prog W 0 (fun _ => true) true 43 v d p) :
    ∃ A n c l, v = .slice A n c ∧ Holds W A n c l := by
  obtain ⟨A, n, c, rfl⟩ := okWide_slice Try.underlying43 hval
  obtain ⟨fuel, hf⟩ := h
  rcases open_ints Try.underlying43 Try.underlying5 (by kernel_rfl) hf with ⟨e, _⟩ | ⟨a, len, cap, zs, e, _, hl, hm, hz, _, hcell, hwf⟩
  · simp [Value.cells] at e
    obtain ⟨rfl, rfl, rfl⟩ := e
    exact ⟨_, _, _, _, rfl, holds_nil W⟩
  · simp [Value.cells] at e
    obtain ⟨rfl, rfl, rfl⟩ := e
    simp only [if_true] at hz
    exact ⟨_, _, _, _, rfl, holds_of_row (.inr ⟨a, rfl, hl, hm, hz, hcell, hwf⟩)⟩

end
end Go.Proofs.Ytodncamohimmmaa
