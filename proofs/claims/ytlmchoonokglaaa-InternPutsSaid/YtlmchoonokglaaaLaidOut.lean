/-
  The program's types are laid out. No condition.
-/
import Derived.Test.YtlmchoonokglaaaChecked
import Derived.Carry
import Derived.Deep.Slices
import Derived.ChangeMaps5
import Derived.OpenShut
namespace Go.Proofs.Ytlmchoonokglaaa
open Go.RowKit Go.Deep Go.ChangeShapes Go.WideShapes

theorem Try.laidOut9 : laidOutB Try.prog = true := by kernel_rfl
end Go.Proofs.Ytlmchoonokglaaa
