/-
  intern's Len. Conditions: those that each theorem states.
-/
import Derived.Test.YtkjnpdnihfohoaaTabDuo
namespace Go.Proofs.Ytkjnpdnihfohoaa
open Go.RowKit Go.Lib Go.Maps Go.WideMaps Leb

set_option maxHeartbeats 2000000 in
set_option maxRecDepth 100000 in
theorem len19_any (b : Nat) (o : Option Nat) (v : Value) (l : List (List UInt8)) (w : World) (h : PT w b o v l) : Calls Try.prog 13 #[.pointer (some ⟨b, 0, Option.none⟩)] w fun e w' => e = .returned (.int .i64 l.length) ∧ w = w' := by
  obtain ⟨A, c, rfl, _⟩ := h.own.texts
  have hc := h.cell0
  obtain ⟨n, hn⟩ : ∃ n, n = l.length := ⟨_, rfl⟩
  rw [← hn] at hc ⊢
  clear h hn
  go_enter Try.func13, Try.ntmps13
  go_wp2
  go_ret
  exact ⟨rfl, rfl⟩
set_option maxRecDepth 100000 in
theorem len19_nil (w : World) : Calls Try.prog 13 #[.pointer Option.none] w fun e w' => e = .returned (.int .i64 0) ∧ w = w' := by
  go_enter Try.func13, Try.ntmps13
  go_wp2
  go_ret
  exact ⟨rfl, rfl⟩
section
variable (b : Nat) (l : List (List UInt8)) (S : Nat → Prop) (w : World)
theorem lenP_any (h : PTab w b l S) : Calls Try.prog 13 #[.pointer (some ⟨b, 0, Option.none⟩)] w fun e w' => e = .returned (.int .i64 l.length) ∧ w = w' := by
  obtain ⟨o, v, h, _⟩ := h
  exact len19_any b o v l w h
end
end Go.Proofs.Ytkjnpdnihfohoaa
