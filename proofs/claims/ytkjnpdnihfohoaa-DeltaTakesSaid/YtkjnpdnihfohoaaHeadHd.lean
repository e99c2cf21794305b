/-
  A header, as a pair. No condition.
-/
import Derived.Lib.Join
namespace Go.Proofs.Ytkjnpdnihfohoaa

/-- A header: its name and its value. -/
abbrev Hd := ByteArray × ByteArray
end Go.Proofs.Ytkjnpdnihfohoaa
