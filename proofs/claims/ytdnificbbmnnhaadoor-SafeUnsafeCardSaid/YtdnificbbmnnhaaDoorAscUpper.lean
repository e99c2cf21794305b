/-
  Letters of one size: ascii.Upper as the program has it. Conditions: those that each theorem states.
-/
import Derived.Test.YtdnificbbmnnhaaDoorAscCase
namespace Go.Proofs.YtdnificbbmnnhaaDoor
open Go.RowKit Go.Lib

theorem upper_any (s : ByteArray) (hs : s.size ≤ maxLen) (w : World) : Calls Tryd.prog 20 #[.string s] w fun e w' =>
    e = .returned (.string ⟨(s.data.toList.map (turn 97 122 224)).toArray⟩) ∧ Below w.heap.size w w' := by
  have h := shift_any s hs 97 122 224 w
  generalize (⟨(s.data.toList.map (turn 97 122 224)).toArray⟩ : ByteArray) = r at h ⊢
  go_enter Tryd.func20, Tryd.ntmps20
  go_wp2_with (go_at_call 35; refine h.mono ?_; rintro e w' ⟨rfl, hb⟩)
  go_ret
  exact ⟨rfl, hb⟩
end Go.Proofs.YtdnificbbmnnhaaDoor
