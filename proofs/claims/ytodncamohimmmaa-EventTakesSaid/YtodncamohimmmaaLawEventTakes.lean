/-
  EventTakes of layer 21. Conditions: those that each theorem states.
-/
import Derived.Test.YtodncamohimmmaaLow25
import Derived.Test.YtodncamohimmmaaEvRefTakeX
namespace Go.Proofs.Ytodncamohimmmaa
open Go.RowKit Go.Lib Leb

theorem eventTakes_law (A : Option Addr) (n c : Nat) (l : List Eva) (B : Option Addr) (m d : Nat) (X : List Int) (w : World) (hl : Evs w A n c l) (h6 : ∀ q ∈ l, Six12 q.ev) (hX : Holds w B m d X) :
    Calls Try.prog 5 #[.slice A n c, .slice B m d] w fun e w' => e = .returned (.bool true) ∧ Below w.heap.size w w' :=
  eventTakes_walk bookTakes refTakes_any awakeP A n c l B m d X w hl h6 hX
end Go.Proofs.Ytodncamohimmmaa
