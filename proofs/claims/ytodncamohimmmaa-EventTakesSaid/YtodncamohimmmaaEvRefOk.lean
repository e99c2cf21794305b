/-
  The reference's Good of layer 17, of a request that has modes alone. Conditions: those that each theorem states.
-/
import Derived.Test.YtodncamohimmmaaLow3
namespace Go.Proofs.Ytodncamohimmmaa
open Go.RowKit Go.Lib Leb

def okModes (m c r d : Int) : Prop := 1 ≤ m ∧ m ≤ 3 ∧ 1 ≤ c ∧ c ≤ 3 ∧ 1 ≤ r ∧ r ≤ 3 ∧ 1 ≤ d ∧ d ≤ 10
instance (m c r d : Int) : Decidable (okModes m c r d) := by unfold okModes; infer_instance

set_option maxHeartbeats 8000000 in
set_option maxRecDepth 100000 in
theorem refGood17_any (m c r d : Int) (w : World) :
    Calls Try.prog 28 #[.agg #[.string ⟨#[]⟩, .string ⟨#[]⟩, .int .i64 m, .int .i64 c, .int .i64 r, .int .i64 d, .string ⟨#[]⟩, .slice Option.none 0 0, .string ⟨#[]⟩]] w fun e w' => e = .returned (.bool (decide (okModes m c r d))) ∧ Below w.heap.size w w' := by
  go_enter Try.func28, Try.ntmps28
  have hbox := Lib.hid (below_box w (.cells #[.string ⟨#[]⟩, .string ⟨#[]⟩, .int .i64 m, .int .i64 c, .int .i64 r, .int .i64 d, .string ⟨#[]⟩, .slice Option.none 0 0, .string ⟨#[]⟩] 27))
  go_wp2
  go_loopw [3] (fun i wr => i = .int .i64 0 ∧ w.alloc (.cells #[.string ⟨#[]⟩, .string ⟨#[]⟩, .int .i64 m, .int .i64 c, .int .i64 r, .int .i64 d, .string ⟨#[]⟩, .slice Option.none 0 0, .string ⟨#[]⟩] 27) = wr) (fun _ _ => 0)
  case atStart => exact ⟨rfl, rfl⟩
  case round =>
    obtain ⟨rfl, rfl⟩ := hrel
    go_wp2
    all_goals
      go_ret
      refine ⟨ret_bool ?_, hbox.out⟩
      clear hbox
      first
        | exact (decide_eq_false (p := okModes m c r d) (fun h' => by unfold okModes at h'; omega)).symm
        | (simp_all [okModes]; done)
end Go.Proofs.Ytodncamohimmmaa
