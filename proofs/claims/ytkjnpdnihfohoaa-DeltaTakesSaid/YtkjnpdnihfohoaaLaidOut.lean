/-
  The program's types are laid out. No condition.
-/
import Derived.Test.YtkjnpdnihfohoaaChecked
import Derived.Carry
import Derived.Deep.Slices
import Derived.ChangeMaps5
import Derived.OpenShut
namespace Go.Proofs.Ytkjnpdnihfohoaa
open Go.RowKit Go.Deep Go.ChangeShapes Go.WideShapes

theorem Try.laidOut9 : laidOutB Try.prog = true := by kernel_rfl
end Go.Proofs.Ytkjnpdnihfohoaa
