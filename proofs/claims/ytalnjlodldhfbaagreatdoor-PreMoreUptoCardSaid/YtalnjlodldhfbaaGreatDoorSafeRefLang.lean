/-
  Safelisted headers, as the reference has them: a language. Conditions: those that each theorem states.
-/
import Derived.Test.YtalnjlodldhfbaaGreatDoorSafeRefHead
namespace Go.Proofs.YtalnjlodldhfbaaGreatDoor
open Go.RowKit Go.Lib Go.Shelf

set_option maxHeartbeats 4000000 in
set_option maxRecDepth 100000 in
theorem refhead_lang1 (x y : ByteArray) (w : World) (hlow : ∀ W, Calls Tryz.prog 32 #[.string x] W fun e w' => e = .returned (.string ⟨#[97, 99, 99, 101, 112, 116, 45, 108, 97, 110, 103, 117, 97, 103, 101]⟩) ∧ Below W.heap.size W w')
    (hy : y.size ≤ 128) :
    Calls Tryz.prog 21 #[.agg #[.string x, .string y]] w fun e w' => e = .returned (.bool (langAll y)) ∧ Below w.heap.size w w' := by
  have hL := Lib.hid hlow
  have hbx := Lib.hid (box_value w x y)
  clear hlow
  have hA := Lib.hid (fun W cs hcs g hg => (show isIn ⟨#[97, 99, 99, 101, 112, 116, 45, 108, 97, 110, 103, 117, 97, 103, 101]⟩ four = true from isIn_iff.2 (by simp [four])) ▸ among_new four 4 rfl (by decide) ⟨#[97, 99, 99, 101, 112, 116, 45, 108, 97, 110, 103, 117, 97, 103, 101]⟩ W cs hcs g hg)
  obtain ⟨r, hr⟩ : ∃ r, r = langAll y := ⟨_, rfl⟩
  rw [← hr]
  have hr' := Lib.hid hr
  clear hr
  go_enter Tryz.func21, Tryz.ntmps21
  go_wp2
  go_region_with (go_at_call 32; refine (hL.out _).mono ?_; rintro e w' ⟨rfl, hb⟩; have hc := cell_later (below_undrew hb) hbx.out)
  all_goals
    go_wp2_with (go_at_call 37; refine (hA.out _ _ rfl _ rfl).mono ?_; rintro e w2 ⟨rfl, hw⟩; subst hw)
    go_loop [5, 6] (fun f i => ∃ (k n : Nat) (m : Int), k ≤ y.size ∧ i = .int .i64 m ∧ f = .int .i64 n ∧ Hid (m = (k : Int) - 1) ∧ Hid (n = firstFrom y.data.toList k) ∧ Hid ((y.data.toList.drop k).all (fun b => lang b.toNat) = true)) (fun _ i => (RowKit.intOf i + 1).toNat)
    case atStart =>
      refine ⟨y.size, y.size, _, Nat.le_refl _, rfl, rfl, Lib.hid rfl, Lib.hid ?_, Lib.hid ?_⟩
      · rw [size_len, first_end]
      · rw [size_len, List.drop_length]
        rfl
    case round =>
      obtain ⟨k, n, m, hk, rfl, rfl, hm, hn, hall⟩ := hrel
      by_cases h0 : 0 < k
      · obtain ⟨j, rfl⟩ : ∃ j, k = j + 1 := ⟨k - 1, by omega⟩
        have em : m = (j : Int) := by rw [hm.out]; omega
        subst em
        clear hm
        have hjs : j < y.size := by omega
        have hj : j < y.data.toList.length := by rw [← size_len]; exact hjs
        have hat := byte_at y j hjs
        have hin := Lib.hid (fun W => refLanguage_any y[j].toNat (byte_lt _) W)
        have hstop := Lib.hid (show lang y[j].toNat = false → r = false from fun h => by rw [hr'.out]; exact all_stop hj h)
        have hgo := Lib.hid (show lang y[j].toNat = true → (y.data.toList.drop j).all (fun b => lang b.toNat) = true from fun h => drop_all hj hall.out h)
        have hf1 := Lib.hid (show y[j].toNat = 59 → j = firstFrom y.data.toList j from fun h => (first_hit hj h).symm)
        have hf2 := Lib.hid (show ¬ y[j].toNat = 59 → n = firstFrom y.data.toList j from fun h => by rw [first_miss hj h]; exact hn.out)
        clear hat
        generalize lang y[j].toNat = b at hin hstop hgo
        by_cases h59 : y[j].toNat = 59
        · have hf := Lib.hid (hf1.out h59)
          have e59 : ((y[j].toNat : Int) == 59) = true := by rw [h59]; rfl
          clear h59 hf1 hf2
          cases b with
          | false =>
            have hz := Lib.hid (hstop.out rfl)
            clear hstop hgo
            go_wp2_with (go_at_call 41; refine (hin.out _).mono ?_; rintro e w3 ⟨rfl, hw⟩; subst hw)
            go_ret
            exact ⟨ret_bool hz.out.symm, below_then (below_then (below_box _ _) (below_undrew hb)) (below_box _ _)⟩
          | true =>
            have hz := Lib.hid (hgo.out rfl)
            clear hstop hgo
            go_wp2_with (go_at_call 41; refine (hin.out _).mono ?_; rintro e w3 ⟨rfl, hw⟩; subst hw)
            go_round
            case rel => exact ⟨j, j, _, by omega, rfl, rfl, Lib.hid (by go_num), Lib.hid hf.out, Lib.hid hz.out⟩
            case measure => simp [RowKit.intOf]
        · have hf := Lib.hid (hf2.out h59)
          have e59 : ((y[j].toNat : Int) == 59) = false := by rw [beq_eq_false_iff_ne]; omega
          clear h59 hf1 hf2
          cases b with
          | false =>
            have hz := Lib.hid (hstop.out rfl)
            clear hstop hgo
            go_wp2_with (go_at_call 41; refine (hin.out _).mono ?_; rintro e w3 ⟨rfl, hw⟩; subst hw)
            go_ret
            exact ⟨ret_bool hz.out.symm, below_then (below_then (below_box _ _) (below_undrew hb)) (below_box _ _)⟩
          | true =>
            have hz := Lib.hid (hgo.out rfl)
            clear hstop hgo
            go_wp2_with (go_at_call 41; refine (hin.out _).mono ?_; rintro e w3 ⟨rfl, hw⟩; subst hw)
            go_round
            case rel => exact ⟨j, n, _, by omega, rfl, rfl, Lib.hid (by go_num), Lib.hid hf.out, Lib.hid hz.out⟩
            case measure => simp [RowKit.intOf]
      · have ek : k = 0 := by omega
        subst ek
        have em : m = -1 := by rw [hm.out]; rfl
        subst em
        clear hm
        have hz : Hid (r = true) := Lib.hid (by rw [hr'.out]; exact hall.out)
        clear hall
        go_wp2
        go_ret
        exact ⟨ret_bool hz.out.symm, below_then (below_then (below_box _ _) (below_undrew hb)) (below_box _ _)⟩

set_option maxHeartbeats 4000000 in
set_option maxRecDepth 100000 in
theorem refhead_lang2 (x y : ByteArray) (w : World) (hlow : ∀ W, Calls Tryz.prog 32 #[.string x] W fun e w' => e = .returned (.string ⟨#[99, 111, 110, 116, 101, 110, 116, 45, 108, 97, 110, 103, 117, 97, 103, 101]⟩) ∧ Below W.heap.size W w')
    (hy : y.size ≤ 128) :
    Calls Tryz.prog 21 #[.agg #[.string x, .string y]] w fun e w' => e = .returned (.bool (langAll y)) ∧ Below w.heap.size w w' := by
  have hL := Lib.hid hlow
  have hbx := Lib.hid (box_value w x y)
  clear hlow
  have hA := Lib.hid (fun W cs hcs g hg => (show isIn ⟨#[99, 111, 110, 116, 101, 110, 116, 45, 108, 97, 110, 103, 117, 97, 103, 101]⟩ four = true from isIn_iff.2 (by simp [four])) ▸ among_new four 4 rfl (by decide) ⟨#[99, 111, 110, 116, 101, 110, 116, 45, 108, 97, 110, 103, 117, 97, 103, 101]⟩ W cs hcs g hg)
  obtain ⟨r, hr⟩ : ∃ r, r = langAll y := ⟨_, rfl⟩
  rw [← hr]
  have hr' := Lib.hid hr
  clear hr
  go_enter Tryz.func21, Tryz.ntmps21
  go_wp2
  go_region_with (go_at_call 32; refine (hL.out _).mono ?_; rintro e w' ⟨rfl, hb⟩; have hc := cell_later (below_undrew hb) hbx.out)
  all_goals
    go_wp2_with (go_at_call 37; refine (hA.out _ _ rfl _ rfl).mono ?_; rintro e w2 ⟨rfl, hw⟩; subst hw)
    go_loop [5, 6] (fun f i => ∃ (k n : Nat) (m : Int), k ≤ y.size ∧ i = .int .i64 m ∧ f = .int .i64 n ∧ Hid (m = (k : Int) - 1) ∧ Hid (n = firstFrom y.data.toList k) ∧ Hid ((y.data.toList.drop k).all (fun b => lang b.toNat) = true)) (fun _ i => (RowKit.intOf i + 1).toNat)
    case atStart =>
      refine ⟨y.size, y.size, _, Nat.le_refl _, rfl, rfl, Lib.hid rfl, Lib.hid ?_, Lib.hid ?_⟩
      · rw [size_len, first_end]
      · rw [size_len, List.drop_length]
        rfl
    case round =>
      obtain ⟨k, n, m, hk, rfl, rfl, hm, hn, hall⟩ := hrel
      by_cases h0 : 0 < k
      · obtain ⟨j, rfl⟩ : ∃ j, k = j + 1 := ⟨k - 1, by omega⟩
        have em : m = (j : Int) := by rw [hm.out]; omega
        subst em
        clear hm
        have hjs : j < y.size := by omega
        have hj : j < y.data.toList.length := by rw [← size_len]; exact hjs
        have hat := byte_at y j hjs
        have hin := Lib.hid (fun W => refLanguage_any y[j].toNat (byte_lt _) W)
        have hstop := Lib.hid (show lang y[j].toNat = false → r = false from fun h => by rw [hr'.out]; exact all_stop hj h)
        have hgo := Lib.hid (show lang y[j].toNat = true → (y.data.toList.drop j).all (fun b => lang b.toNat) = true from fun h => drop_all hj hall.out h)
        have hf1 := Lib.hid (show y[j].toNat = 59 → j = firstFrom y.data.toList j from fun h => (first_hit hj h).symm)
        have hf2 := Lib.hid (show ¬ y[j].toNat = 59 → n = firstFrom y.data.toList j from fun h => by rw [first_miss hj h]; exact hn.out)
        clear hat
        generalize lang y[j].toNat = b at hin hstop hgo
        by_cases h59 : y[j].toNat = 59
        · have hf := Lib.hid (hf1.out h59)
          have e59 : ((y[j].toNat : Int) == 59) = true := by rw [h59]; rfl
          clear h59 hf1 hf2
          cases b with
          | false =>
            have hz := Lib.hid (hstop.out rfl)
            clear hstop hgo
            go_wp2_with (go_at_call 41; refine (hin.out _).mono ?_; rintro e w3 ⟨rfl, hw⟩; subst hw)
            go_ret
            exact ⟨ret_bool hz.out.symm, below_then (below_then (below_box _ _) (below_undrew hb)) (below_box _ _)⟩
          | true =>
            have hz := Lib.hid (hgo.out rfl)
            clear hstop hgo
            go_wp2_with (go_at_call 41; refine (hin.out _).mono ?_; rintro e w3 ⟨rfl, hw⟩; subst hw)
            go_round
            case rel => exact ⟨j, j, _, by omega, rfl, rfl, Lib.hid (by go_num), Lib.hid hf.out, Lib.hid hz.out⟩
            case measure => simp [RowKit.intOf]
        · have hf := Lib.hid (hf2.out h59)
          have e59 : ((y[j].toNat : Int) == 59) = false := by rw [beq_eq_false_iff_ne]; omega
          clear h59 hf1 hf2
          cases b with
          | false =>
            have hz := Lib.hid (hstop.out rfl)
            clear hstop hgo
            go_wp2_with (go_at_call 41; refine (hin.out _).mono ?_; rintro e w3 ⟨rfl, hw⟩; subst hw)
            go_ret
            exact ⟨ret_bool hz.out.symm, below_then (below_then (below_box _ _) (below_undrew hb)) (below_box _ _)⟩
          | true =>
            have hz := Lib.hid (hgo.out rfl)
            clear hstop hgo
            go_wp2_with (go_at_call 41; refine (hin.out _).mono ?_; rintro e w3 ⟨rfl, hw⟩; subst hw)
            go_round
            case rel => exact ⟨j, n, _, by omega, rfl, rfl, Lib.hid (by go_num), Lib.hid hf.out, Lib.hid hz.out⟩
            case measure => simp [RowKit.intOf]
      · have ek : k = 0 := by omega
        subst ek
        have em : m = -1 := by rw [hm.out]; rfl
        subst em
        clear hm
        have hz : Hid (r = true) := Lib.hid (by rw [hr'.out]; exact hall.out)
        clear hall
        go_wp2
        go_ret
        exact ⟨ret_bool hz.out.symm, below_then (below_then (below_box _ _) (below_undrew hb)) (below_box _ _)⟩
end Go.Proofs.YtalnjlodldhfbaaGreatDoor
