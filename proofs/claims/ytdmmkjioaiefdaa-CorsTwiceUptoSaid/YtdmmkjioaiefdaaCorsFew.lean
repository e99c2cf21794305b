/-
  The law's own 'few' of layer 13. Conditions: those that each theorem states.
-/
import Derived.Test.YtdmmkjioaiefdaaHeadMem
namespace Go.Proofs.Ytdmmkjioaiefdaa
open Go.RowKit Go.Lib Go.Shelf

set_option maxRecDepth 100000 in
theorem few13_any (A : Option Addr) (n c : Nat) (l : List Hd) (w : World) (h : Hds w A n c l) : Calls Try.prog 7 #[.slice A n c] w fun e w' => e = .returned (.slice A (min n 30) c) ∧ w' = w := by
  have hn : n ≤ 9223372036854775807 := by have h1 := h.cap; have h2 := h.room; unfold maxLen at h2; omega
  have hc : c ≤ 9223372036854775807 := by have h2 := h.room; unfold maxLen at h2; omega
  have hcap := h.cap
  by_cases h30 : 30 < n
  · obtain ⟨b, off, rfl, _, _⟩ := h.cell (by omega)
    have e : min n 30 = 30 := by omega
    rw [e]
    clear e h
    go_enter Try.func7, Try.ntmps7
    go_wp2
    go_ret
    exact ⟨rfl, rfl⟩
  · have e : min n 30 = n := by omega
    rw [e]
    clear e h
    go_enter Try.func7, Try.ntmps7
    go_wp2
    go_ret
    exact ⟨rfl, rfl⟩
end Go.Proofs.Ytdmmkjioaiefdaa
