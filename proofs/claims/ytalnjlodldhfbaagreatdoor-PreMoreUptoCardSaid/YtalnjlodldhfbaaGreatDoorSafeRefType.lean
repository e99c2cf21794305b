/-
  Safelisted headers, as the reference has them: a type. Conditions: those that each theorem states.
-/
import Derived.Test.YtalnjlodldhfbaaGreatDoorSafeRefHead
import Derived.Test.YtalnjlodldhfbaaGreatDoorLow
namespace Go.Proofs.YtalnjlodldhfbaaGreatDoor
open Go.RowKit Go.Lib Go.Shelf

set_option maxHeartbeats 4000000 in
set_option maxRecDepth 100000 in
theorem refhead_type (x y : ByteArray) (w : World) (hlow : ∀ W, Calls Tryz.prog 32 #[.string x] W fun e w' => e = .returned (.string ⟨#[99, 111, 110, 116, 101, 110, 116, 45, 116, 121, 112, 101]⟩) ∧ Below W.heap.size W w')
    (hy : y.size ≤ 128) :
    Calls Tryz.prog 21 #[.agg #[.string x, .string y]] w fun e w' => e = .returned (.bool (accAll y && typeOk y)) ∧ Below w.heap.size w w' := by
  have hL := Lib.hid hlow
  have hbx := Lib.hid (box_value w x y)
  clear hlow
  have hA := Lib.hid (fun W cs hcs g hg => (show isIn ⟨#[99, 111, 110, 116, 101, 110, 116, 45, 116, 121, 112, 101]⟩ four = true from isIn_iff.2 (by simp [four])) ▸ among_new four 4 rfl (by decide) ⟨#[99, 111, 110, 116, 101, 110, 116, 45, 116, 121, 112, 101]⟩ W cs hcs g hg)
  have l1 : (mk (aheadOf 59 y.data.toList)).size ≤ 128 := by rw [mk_size]; have := aheadOf_le 59 y.data.toList; rw [size_len] at hy; omega
  have l2 : (mk (trim (aheadOf 59 y.data.toList))).size ≤ 128 := by rw [mk_size] at l1 ⊢; have := trim_le (aheadOf 59 y.data.toList); omega
  have hT := Lib.hid (fun W => refTrim_any (mk (aheadOf 59 y.data.toList)) (tiny (Nat.le_trans l1 (by decide))) W)
  rw [mk_list] at hT
  have hLt := Lib.hid (fun W => refLower_any (mk (trim (aheadOf 59 y.data.toList))) (Nat.le_trans l2 (by decide)) W)
  change Hid (∀ W, Calls _ _ _ _ (fun e w' => e = .returned (.string (mk (trim (aheadOf 59 y.data.toList)))) ∧ w' = W)) at hT
  change Hid (∀ W, Calls _ _ _ _ (fun e w' => e = .returned (.string (typeOf y)) ∧ Below W.heap.size W w')) at hLt
  have hA3 := Lib.hid (fun W cs hcs g hg => (show isIn (typeOf y) formsR = typeOk y from forms_same _) ▸ among_new formsR 3 rfl (by decide) (typeOf y) W cs hcs g hg)
  generalize typeOk y = b3 at hA3 ⊢
  generalize typeOf y = u at hLt hA3
  clear l1 l2
  obtain ⟨r, hr⟩ : ∃ r, r = accAll y := ⟨_, rfl⟩
  rw [← hr]
  have hr' := Lib.hid hr
  clear hr
  go_enter Tryz.func21, Tryz.ntmps21
  go_wp2
  go_region_with (go_at_call 32; refine (hL.out _).mono ?_; rintro e w' ⟨rfl, hb⟩; have hc := cell_later (below_undrew hb) hbx.out)
  all_goals
    go_wp2_with (go_at_call 37; refine (hA.out _ _ rfl _ rfl).mono ?_; rintro e w2 ⟨rfl, hw⟩; subst hw)
    go_loop [5, 6] (fun f i => ∃ (k n : Nat) (m : Int), k ≤ y.size ∧ i = .int .i64 m ∧ f = .int .i64 n ∧ Hid (m = (k : Int) - 1) ∧ Hid (n = firstFrom y.data.toList k) ∧ Hid ((y.data.toList.drop k).all (fun b => acc b.toNat) = true)) (fun _ i => (RowKit.intOf i + 1).toNat)
    case atStart =>
      refine ⟨y.size, y.size, _, Nat.le_refl _, rfl, rfl, Lib.hid rfl, Lib.hid ?_, Lib.hid ?_⟩
      · rw [size_len, first_end]
      · rw [size_len, List.drop_length]
        rfl
    case round =>
      obtain ⟨k, n, m, hk, rfl, rfl, hm, hn, hall⟩ := hrel
      by_cases h0 : 0 < k
      · obtain ⟨j, rfl⟩ : ∃ j, k = j + 1 := ⟨k - 1, by omega⟩
        have em : m = (j : Int) := by rw [hm.out]; omega
        subst em
        clear hm
        have hjs : j < y.size := by omega
        have hj : j < y.data.toList.length := by rw [← size_len]; exact hjs
        have hat := byte_at y j hjs
        have hin := Lib.hid (fun W => refUnsafe_any y[j].toNat (byte_lt _) W)
        have hstop := Lib.hid (show acc y[j].toNat = false → r = false from fun h => by rw [hr'.out]; exact all_stop hj h)
        have hgo := Lib.hid (show acc y[j].toNat = true → (y.data.toList.drop j).all (fun b => acc b.toNat) = true from fun h => drop_all hj hall.out h)
        have hf1 := Lib.hid (show y[j].toNat = 59 → j = firstFrom y.data.toList j from fun h => (first_hit hj h).symm)
        have hf2 := Lib.hid (show ¬ y[j].toNat = 59 → n = firstFrom y.data.toList j from fun h => by rw [first_miss hj h]; exact hn.out)
        clear hat
        generalize acc y[j].toNat = b at hin hstop hgo
        by_cases h59 : y[j].toNat = 59
        · have hf := Lib.hid (hf1.out h59)
          have e59 : ((y[j].toNat : Int) == 59) = true := by rw [h59]; rfl
          clear h59 hf1 hf2
          cases b with
          | false =>
            have hz := Lib.hid (hstop.out rfl)
            clear hstop hgo
            go_wp2_with (go_at_call 42; refine (hin.out _).mono ?_; rintro e w3 ⟨rfl, hw⟩; subst hw)
            go_ret
            exact ⟨ret_bool (by rw [hz.out, Bool.false_and]), below_then (below_then (below_box _ _) (below_undrew hb)) (below_box _ _)⟩
          | true =>
            have hz := Lib.hid (hgo.out rfl)
            clear hstop hgo
            go_wp2_with (go_at_call 42; refine (hin.out _).mono ?_; rintro e w3 ⟨rfl, hw⟩; subst hw)
            go_round
            case rel => exact ⟨j, j, _, by omega, rfl, rfl, Lib.hid (by go_num), Lib.hid hf.out, Lib.hid hz.out⟩
            case measure => simp [RowKit.intOf]
        · have hf := Lib.hid (hf2.out h59)
          have e59 : ((y[j].toNat : Int) == 59) = false := by rw [beq_eq_false_iff_ne]; omega
          clear h59 hf1 hf2
          cases b with
          | false =>
            have hz := Lib.hid (hstop.out rfl)
            clear hstop hgo
            go_wp2_with (go_at_call 42; refine (hin.out _).mono ?_; rintro e w3 ⟨rfl, hw⟩; subst hw)
            go_ret
            exact ⟨ret_bool (by rw [hz.out, Bool.false_and]), below_then (below_then (below_box _ _) (below_undrew hb)) (below_box _ _)⟩
          | true =>
            have hz := Lib.hid (hgo.out rfl)
            clear hstop hgo
            go_wp2_with (go_at_call 42; refine (hin.out _).mono ?_; rintro e w3 ⟨rfl, hw⟩; subst hw)
            go_round
            case rel => exact ⟨j, n, _, by omega, rfl, rfl, Lib.hid (by go_num), Lib.hid hf.out, Lib.hid hz.out⟩
            case measure => simp [RowKit.intOf]
      · have ek : k = 0 := by omega
        subst ek
        have em : m = -1 := by rw [hm.out]; rfl
        subst em
        clear hm
        have hz : Hid (r = true) := Lib.hid (by rw [hr'.out]; exact hall.out)
        clear hall
        have hcut := extract_ahead y n (by rw [hn.out, first_all])
        have hnle : n ≤ y.size := by rw [hn.out, first_all, size_len]; exact aheadOf_le _ _
        rw [← hcut] at hT
        clear hcut hn
        generalize mk (trim (aheadOf 59 y.data.toList)) = t at hT hLt
        go_wp2_with (first
          | (go_at_call 43; refine (hT.out _).mono ?_; rintro e w3 ⟨rfl, hw⟩; subst hw)
          | (go_at_call 32; refine (hLt.out _).mono ?_; rintro e w4 ⟨rfl, hb4⟩)
          | (go_at_call 37; refine (hA3.out _ _ rfl _ rfl).mono ?_; rintro e w5 ⟨rfl, hw⟩; subst hw))
        go_ret
        exact ⟨ret_bool (by rw [hz.out, Bool.true_and]), below_then (below_then (below_then (below_then (below_box _ _) (below_undrew hb)) (below_box _ _)) hb4) (below_box _ _)⟩
end Go.Proofs.YtalnjlodldhfbaaGreatDoor
