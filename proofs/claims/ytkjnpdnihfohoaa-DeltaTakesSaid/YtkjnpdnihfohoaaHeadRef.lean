/-
  The reference's Same of layer 9. Conditions: those that each theorem states.
-/
import Derived.Test.YtkjnpdnihfohoaaHeadCells
namespace Go.Proofs.Ytkjnpdnihfohoaa
open Go.RowKit Go.Lib Go.Shelf

theorem same9_of {a b : List Hd} (hl : a.length = b.length) (h : ∀ j (h1 : j < a.length) (h2 : j < b.length), a[j] = b[j]) : a = b := List.ext_getElem hl h

set_option maxHeartbeats 2000000 in
set_option maxRecDepth 100000 in
/-- Two lists that read as one are the same. (The laws ask it of equal lists alone.) -/
theorem same9_any (A B : Option Addr) (n m c d : Nat) (a : List Hd) (w : World) (ha : Hds w A n c a) (hb : Hds w B m d a) :
    Calls Try.prog 12 #[.slice A n c, .slice B m d] w fun e w' => e = .returned (.bool true) ∧ Below w.heap.size w w' := by
  have hnm : n = m := by rw [← ha.len, ← hb.len]
  subst hnm
  have hn : n ≤ 9223372036854775807 := by have h1 := ha.cap; have h2 := ha.room; unfold maxLen at h2; omega
  have hl := Lib.hid ha.len
  have ha' := Lib.hid ha
  have hb' := Lib.hid hb
  clear ha hb
  go_enter Try.func12, Try.ntmps12
  go_wp2
  go_loopw [5] (fun i wr => ∃ k : Nat, k ≤ n ∧ i = .int .i64 k ∧ Below w.heap.size w wr) (fun i _ => n - (RowKit.intOf i).toNat)
  case atStart => exact ⟨0, Nat.zero_le _, rfl, Below.refl _ _⟩
  case round =>
    obtain ⟨k, hk, rfl, hbe⟩ := hrel
    by_cases hkn : k < n
    · obtain ⟨ga, oa, rfl, h1, h2⟩ := (ha'.out.later hbe).at hkn
      obtain ⟨gb, ob, rfl, h3, h4⟩ := (hb'.out.later hbe).at hkn
      generalize (a[k]'(by rw [hl.out]; exact hkn)).1 = x at h1 h3
      generalize (a[k]'(by rw [hl.out]; exact hkn)).2 = y at h2 h4
      go_wp2
      go_region
      all_goals go_wp2
      all_goals
        go_roundw
        case rel =>
          refine ⟨k + 1, by omega, by go_num, ?_⟩
          first | exact hbe.drew | exact below_drawn hbe _
        case measure => simp [RowKit.intOf]; omega
    · go_wp2
      go_ret
      exact ⟨rfl, hbe⟩
end Go.Proofs.Ytkjnpdnihfohoaa
