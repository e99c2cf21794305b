/-
  EventPuts of layer 21. Conditions: those that each theorem states.
-/
import Derived.Test.YtodncamohimmmaaLow25
namespace Go.Proofs.Ytodncamohimmmaa
open Go.RowKit Go.Lib Leb

theorem eventPuts_law (A : Option Addr) (n c : Nat) (l : List Eva) (w : World) (hl : Evs w A n c l) (h6 : ∀ q ∈ l, Six12 q.ev) :
    Calls Try.prog 4 #[.slice A n c] w fun e w' => e = .returned (.bool true) ∧ Below w.heap.size w w' :=
  eventPuts_walk bookSaid awakeP A n c l w hl h6
end Go.Proofs.Ytodncamohimmmaa
