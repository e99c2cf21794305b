/-
  Slices of strings compared, as the reference of layer 4 has it. Conditions: those that each theorem states.
-/
import Derived.Test.YtalnjlodldhfbaaGreatDoorLow
namespace Go.Proofs.YtalnjlodldhfbaaGreatDoor
open Go.RowKit Go.Lib Go.Shelf

set_option maxHeartbeats 2000000 in
set_option maxRecDepth 100000 in
theorem same_any (A B : Option Addr) (n m c d : Nat) (a b : List (List UInt8)) (w : World) (ha : Texts w A n a) (hb : Texts w B m b) (hn : n ≤ 9223372036854775807) (hm : m ≤ 9223372036854775807) :
    Calls Tryz.prog 15 #[.slice A n c, .slice B m d] w fun e w' => e = .returned (.bool (decide (a = b))) ∧ Below w.heap.size w w' := by
  by_cases hnm : n = m
  · subst hnm
    have ha' := Lib.hid ha
    have hb' := Lib.hid hb
    clear ha hb
    go_enter Tryz.func15, Tryz.ntmps15
    go_wp2
    go_loopw [5] (fun i wr => ∃ k : Nat, k ≤ n ∧ i = .int .i64 k ∧ Below w.heap.size w wr ∧ ∀ j, j < k → a[j]?.getD [] = b[j]?.getD []) (fun i _ => n - (RowKit.intOf i).toNat)
    case atStart => exact ⟨0, Nat.zero_le _, rfl, Below.refl _ _, fun j hj => absurd hj (by omega)⟩
    case round =>
      obtain ⟨k, hk, rfl, hbe, hall⟩ := hrel
      have hall' := Lib.hid hall
      clear hall
      by_cases hkn : k < n
      · obtain ⟨ga, rfl, _, hca⟩ := (ha'.out.later hbe).cell (by omega)
        obtain ⟨gb, rfl, _, hcb⟩ := (hb'.out.later hbe).cell (by omega)
        have h1 := hca k hkn
        have h2 := hcb k hkn
        have hq := Lib.hid (text_eq (a[k]?.getD []) (b[k]?.getD []))
        clear hca hcb
        generalize hx : mk (a[k]?.getD []) = x at h1 hq
        generalize hy : mk (b[k]?.getD []) = y at h2 hq
        have hx' := Lib.hid hx
        have hy' := Lib.hid hy
        clear hx hy
        by_cases he : a[k]?.getD [] = b[k]?.getD []
        · have hq1 : (x.toList == y.toList) = true := by rw [hq.out, decide_eq_true he]
          have he' := Lib.hid he
          clear he
          go_wp2
          go_region
          all_goals go_wp2
          go_roundw
          case rel =>
            refine ⟨k + 1, by omega, by go_num, ?_, fun j hj => ?_⟩
            · first | exact hbe.drew | exact below_drawn hbe _
            · by_cases e : j = k
              · subst e; exact he'.out
              · exact hall'.out j (by omega)
          case measure => simp [RowKit.intOf]; omega
        · have hq1 : (x.toList == y.toList) = false := by rw [hq.out, decide_eq_false he]
          have hf := Lib.hid (show decide (a = b) = false from decide_eq_false fun e => he (by rw [e]))
          clear he
          go_wp2
          go_region
          all_goals go_wp2
          go_ret
          exact ⟨ret_bool hf.out.symm, below_drawn hbe _⟩
      · have hf := Lib.hid (show decide (a = b) = true from decide_eq_true (same_of (by rw [ha'.out.len, hb'.out.len]) fun j hj => hall'.out j (by rw [ha'.out.len] at hj; omega)))
        go_wp2
        go_ret
        exact ⟨ret_bool hf.out.symm, hbe⟩
  · have h1 : ((n : Int) == m) = false := by rw [beq_eq_false_iff_ne]; omega
    have h2 : ¬ a = b := fun e => hnm (by rw [← ha.len, ← hb.len, e])
    rw [decide_eq_false h2]
    clear ha hb
    go_enter Tryz.func15, Tryz.ntmps15
    go_wp2
    go_ret
    exact ⟨rfl, Below.refl _ _⟩
end Go.Proofs.YtalnjlodldhfbaaGreatDoor
