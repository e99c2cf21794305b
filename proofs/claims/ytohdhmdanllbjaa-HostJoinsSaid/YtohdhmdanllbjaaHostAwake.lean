/-
  The fixed fact of layer 5. No condition.
-/
import Derived.Test.YtohdhmdanllbjaaHostPort
namespace Go.Proofs.Ytohdhmdanllbjaa
open Go.RowKit Go.Lib

theorem small5 {n : Nat} (h : n ≤ 1000) : n ≤ maxLen := by simp only [maxLen]; omega

theorem fact5_yes (w : World) : Calls Try.prog 7 #[.string ⟨#[97, 46, 101, 120, 97, 109, 112, 108, 101]⟩] w fun e w' => e = .returned (.bool true) ∧ Below w.heap.size w w' := by
  have h := good_any ⟨#[97, 46, 101, 120, 97, 109, 112, 108, 101]⟩ (small5 (by decide)) w
  rw [show hgood (⟨#[97, 46, 101, 120, 97, 109, 112, 108, 101]⟩ : ByteArray).data.toList = true by decide +kernel] at h
  exact h
theorem fact5_two (w : World) : Calls Try.prog 7 #[.string ⟨#[97, 46, 46, 98]⟩] w fun e w' => e = .returned (.bool false) ∧ Below w.heap.size w w' := by
  have h := good_any ⟨#[97, 46, 46, 98]⟩ (small5 (by decide)) w
  rw [show hgood (⟨#[97, 46, 46, 98]⟩ : ByteArray).data.toList = false by decide +kernel] at h
  exact h
theorem fact5_dash (w : World) : Calls Try.prog 7 #[.string ⟨#[45, 97]⟩] w fun e w' => e = .returned (.bool false) ∧ Below w.heap.size w w' := by
  have h := good_any ⟨#[45, 97]⟩ (small5 (by decide)) w
  rw [show hgood (⟨#[45, 97]⟩ : ByteArray).data.toList = false by decide +kernel] at h
  exact h
theorem fact5_under (w : World) : Calls Try.prog 9 #[.string ⟨#[97, 46, 101, 120, 97, 109, 112, 108, 101]⟩, .string ⟨#[101, 120, 97, 109, 112, 108, 101]⟩] w fun e w' => e = .returned (.bool true) ∧ Below w.heap.size w w' := by
  have h := under_any ⟨#[97, 46, 101, 120, 97, 109, 112, 108, 101]⟩ ⟨#[101, 120, 97, 109, 112, 108, 101]⟩ (small5 (by decide)) (small5 (by decide)) w
  rw [show hunder (⟨#[97, 46, 101, 120, 97, 109, 112, 108, 101]⟩ : ByteArray).data.toList (⟨#[101, 120, 97, 109, 112, 108, 101]⟩ : ByteArray).data.toList = true by decide +kernel] at h
  exact h
theorem fact5_not (w : World) : Calls Try.prog 9 #[.string ⟨#[98, 97, 100, 101, 120, 97, 109, 112, 108, 101]⟩, .string ⟨#[101, 120, 97, 109, 112, 108, 101]⟩] w fun e w' => e = .returned (.bool false) ∧ Below w.heap.size w w' := by
  have h := under_any ⟨#[98, 97, 100, 101, 120, 97, 109, 112, 108, 101]⟩ ⟨#[101, 120, 97, 109, 112, 108, 101]⟩ (small5 (by decide)) (small5 (by decide)) w
  rw [show hunder (⟨#[98, 97, 100, 101, 120, 97, 109, 112, 108, 101]⟩ : ByteArray).data.toList (⟨#[101, 120, 97, 109, 112, 108, 101]⟩ : ByteArray).data.toList = false by decide +kernel] at h
  exact h
theorem fact5_port (w : World) : Calls Try.prog 11 #[.string ⟨#[56, 48, 56, 48]⟩] w fun e w' => e = .returned (.tuple #[.int .i64 8080, .bool true]) ∧ w' = w := by
  have h := port_any ⟨#[56, 48, 56, 48]⟩ (small5 (by decide)) w
  rw [show portNum (⟨#[56, 48, 56, 48]⟩ : ByteArray).data.toList = 8080 by decide +kernel, show portOk (⟨#[56, 48, 56, 48]⟩ : ByteArray).data.toList = true by decide +kernel] at h
  exact h
theorem fact5_zero (w : World) : Calls Try.prog 11 #[.string ⟨#[48, 56, 48]⟩] w fun e w' => e = .returned (.tuple #[.int .i64 0, .bool false]) ∧ w' = w := by
  have h := port_any ⟨#[48, 56, 48]⟩ (small5 (by decide)) w
  rw [show portNum (⟨#[48, 56, 48]⟩ : ByteArray).data.toList = 0 by decide +kernel, show portOk (⟨#[48, 56, 48]⟩ : ByteArray).data.toList = false by decide +kernel] at h
  exact h
theorem fact5_https (w : World) : Calls Try.prog 13 #[.string ⟨#[104, 116, 116, 112, 115]⟩] w fun e w' => e = .returned (.int .i64 443) ∧ w' = w := by
  have h := default_any ⟨#[104, 116, 116, 112, 115]⟩ w
  rw [show hdefault (⟨#[104, 116, 116, 112, 115]⟩ : ByteArray).data.toList = 443 by decide +kernel] at h
  exact h

set_option maxHeartbeats 4000000 in
set_option maxRecDepth 100000 in
theorem awake5_any (w : World) : Calls Try.prog 6 #[] w (Yes w) := by
  go_enter Try.func6, Try.ntmps6
  go_wp2_with (first
    | (go_at_call 11; with_reducible refine (fact5_port _).mono ?_; rintro e w' ⟨rfl, hw⟩; subst hw)
    | (go_at_call 11; with_reducible refine (fact5_zero _).mono ?_; rintro e w' ⟨rfl, hw⟩; subst hw)
    | (go_at_call 7; with_reducible refine (fact5_yes _).mono ?_; rintro e w1 ⟨rfl, hb1⟩)
    | (go_at_call 7; with_reducible refine (fact5_two _).mono ?_; rintro e w2 ⟨rfl, hb2⟩)
    | (go_at_call 7; with_reducible refine (fact5_dash _).mono ?_; rintro e w3 ⟨rfl, hb3⟩)
    | (go_at_call 9; with_reducible refine (fact5_under _).mono ?_; rintro e w4 ⟨rfl, hb4⟩)
    | (go_at_call 9; with_reducible refine (fact5_not _).mono ?_; rintro e w5 ⟨rfl, hb5⟩)
    | (go_at_call 13; refine (fact5_https _).mono ?_; rintro e w' ⟨rfl, hw⟩; have hw2 := hw.symm; subst hw2))
  go_ret
  exact ⟨rfl, below_then (below_then (below_then (below_then hb1 hb2) hb3) hb4) hb5⟩
end Go.Proofs.Ytohdhmdanllbjaa
