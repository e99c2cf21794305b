/-
  A byte's zero value, its size in cells and in bytes, as the program's table of types has them; and the two ends that many statements share.
-/
import Derived.Test.YtlmchoonokglaaaChecked
import Derived.Test.YtlmchoonokglaaaMem
namespace Go.Proofs.Ytlmchoonokglaaa
open Go.RowKit

theorem Try.info8 : (Try.prog.info? 5).map (fun i => (i.zero, i.size, i.bytes)) = some (some (.int .u8 0), 1, 1) := by kernel_rfl

/-- It returns true, and nothing that was there is changed. -/
def Yes (w : World) (e : Ending) (w' : World) : Prop := e = .returned (.bool true) ∧ Below w.heap.size w w'
end Go.Proofs.Ytlmchoonokglaaa
