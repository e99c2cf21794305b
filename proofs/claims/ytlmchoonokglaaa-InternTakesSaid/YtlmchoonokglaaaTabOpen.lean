/-
  Arguments that are slices of strings, as the frame of a statement's proof hands them over: what lies in memory. Conditions: those that each theorem states.
-/
import Derived.Test.YtlmchoonokglaaaTabFew
import Derived.Test.YtlmchoonokglaaaBytesOpen
import Derived.Test.YtlmchoonokglaaaLaidOut
import Derived.Carry
import Derived.SliceStrings
import Derived.OpenShut
import Derived.ChangeMaps5
import Derived.Deep.Slices
import Derived.Lib.SmallJoins
import Derived.SizedLaws
namespace Go.Proofs.Ytlmchoonokglaaa
open Go.RowKit Go.Lib Go.ChangeShapes Go.WideShapes Go.Deep Go.Joins
open Go.ChangeMaps (open_string)

section
variable {H : Type} {enc : TypeId × Value → H} {W : World}

set_option maxRecDepth 100000 in
/-- A slice of strings. -/
theorem open_txs {base : Nat} {v : Value} {d : DataW H} {p : List MemPlace} (hval : Value.okWide Try.prog W .any base 23 v) (h : DataW.Trod enc Try.prog W 0 (fun _ => true) true 23 v d p) :
    ∃ A n c l, v = .slice A n c ∧ Txs W A n c l := by
  obtain ⟨A, n, c, rfl⟩ := okWide_slice Try.underlying23 hval
  obtain ⟨fuel, hf⟩ := h
  rcases open_strings Try.underlying23 Try.underlying9 (by kernel_rfl) hf with ⟨e, hx⟩ | ⟨a, len, cap, ss, e, _, hl, hm, hss, hx, hc, _⟩
  · simp [Value.cells] at e
    obtain ⟨rfl, rfl, rfl⟩ := e
    exact ⟨_, _, _, [], rfl, ⟨rfl, Nat.zero_le _, Nat.zero_le _, fun _ => rfl, fun h => absurd h (by omega)⟩⟩
  · simp [Value.cells] at e
    obtain ⟨rfl, rfl, rfl⟩ := e
    simp only [if_true] at hss
    refine ⟨_, n, _, (ss.take n).map fun s => s.data.toList, rfl, ⟨by rw [List.length_map, List.length_take]; omega, hl, hm, (fun e => by cases e), fun hp => ?_⟩⟩
    obtain ⟨b, off, spot⟩ := a
    have h0 := hc 0 (by omega)
    have hs : spot = Option.none := by simpa [Addr.add] using World.cell?_spot h0
    subst hs
    refine ⟨b, off, rfl, World.block_lt_of_cell? W _ h0, fun j hj => ?_⟩
    have := hc j (by omega)
    rw [addr_add] at this
    have hj1 : j < (ss.take n).length := by rw [List.length_take]; omega
    rw [this, List.getElem?_map, List.getElem?_eq_getElem hj1, Option.map_some, Option.getD_some, List.getElem_take, mk_of, List.getD_eq_getElem?_getD, List.getElem?_eq_getElem (by omega)]
    rfl
end
end Go.Proofs.Ytlmchoonokglaaa
