/-
  strings.IndexByte by the library's contract. Conditions: those that each theorem states.
-/
import Derived.Test.YtdnificbbmnnhaaDoorAscBase
import Derived.Test.YtdnificbbmnnhaaDoorAscShelf
namespace Go.Proofs.YtdnificbbmnnhaaDoor
open Go.RowKit Go.Lib Go.Shelf

theorem index_any (s : ByteArray) (c : Int) (w : World) :
    Calls Tryd.prog 36 #[.string s, .int .u8 c] w fun e w' => e = .returned (.int .i64 (Lib.indexByte s.data.toList c.toNat.toUInt8)) ∧ w' = w := Any.strings_IndexByte Tryd.lays137 s c w
end Go.Proofs.YtdnificbbmnnhaaDoor
