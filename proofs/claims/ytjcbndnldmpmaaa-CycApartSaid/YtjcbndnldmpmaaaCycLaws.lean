/-
  The walks of the statements CycTable and CycParts, if Table, Sum and Put are as they are held to be.
-/
import Derived.Test.YtjcbndnldmpmaaaCycAwake
namespace Go.Proofs.Ytjcbndnldmpmaaa
open Go.RowKit

theorem stps_c (i c : Nat) (hc : c < 256) : Cyc.stps i c < 4294967296 := Cyc.stps_lt i (by omega)

set_option maxRecDepth 100000 in
set_option maxHeartbeats 800000 in
theorem cycTable_said (hT : TableSaid) (hS : SumSaid) (hP : PutSaid) (c : Nat) (w : World) (hc : c < 256) : Calls Try.prog 3 #[.int .u8 c] w (Yes w) := by
  have Htab : Hid (tab0 c = Cyc.stps 8 c) := by unfold tab0; rw [if_pos hc]; rfl
  go_enter Try.func3, Try.ntmps3
  go_wp2
  go_loop [3, 4] (fun x j => ∃ i : Nat, i ≤ 8 ∧ j = .int .i64 i ∧ x = .int .u32 (Cyc.stps i c)) (fun _ j => 8 - (intOf j).toNat)
  case atStart => exact ⟨0, by omega, rfl, rfl⟩
  case round =>
    obtain ⟨i, hi, rfl, rfl⟩ := hrel
    have hsl := stps_c i c hc
    have hsn := Lib.hid (stps_snoc i c)
    by_cases hi8 : i < 8
    · go_wp2_with (go_at_call 7; refine (step_any _ _ hsl).mono ?_; rintro e w' ⟨rfl, rfl⟩)
      go_round
      case rel => exact ⟨i + 1, by omega, by go_num, by rw [hsn.out]⟩
      case measure => simp [intOf]; omega
    · obtain rfl : i = 8 := by omega
      go_wp2_with fail
      refine (hT w).mono ?_
      rintro e wt ⟨rfl, hbt⟩
      go_wp2_with (with_reducible refine wpList_table rfl _ _ rfl rfl wt.heap.size rfl tab0 rfl rfl ?_; intro w2 ht0 hg2 hb2)
      have hbw : Below w.heap.size w w2 := hbt.trans (hb2.mono hbt.size)
      refine (cycAwake_any hT hS hP w2).mono ?_
      rintro e w3 ⟨rfl, hb3⟩
      have hcell := cell_later hb3 (ht0 c hc)
      rw [Htab.out] at hcell
      clear ht0 hg2 hb2 hbt Htab
      go_wp2
      go_ret
      exact ⟨rfl, hbw.trans (hb3.mono hbw.size)⟩
end Go.Proofs.Ytjcbndnldmpmaaa
