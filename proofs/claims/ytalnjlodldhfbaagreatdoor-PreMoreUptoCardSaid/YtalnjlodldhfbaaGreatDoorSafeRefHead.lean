/-
  Safelisted headers, as the reference has them. Conditions: those that each theorem states.
-/
import Derived.Test.YtalnjlodldhfbaaGreatDoorSafeHead
import Derived.Test.YtalnjlodldhfbaaGreatDoorSafeRefBytes
import Derived.Deep.RegionWith
namespace Go.Proofs.YtalnjlodldhfbaaGreatDoor
open Go.RowKit Go.Lib Go.Shelf

def four : List ByteArray := [⟨#[97, 99, 99, 101, 112, 116]⟩, ⟨#[97, 99, 99, 101, 112, 116, 45, 108, 97, 110, 103, 117, 97, 103, 101]⟩, ⟨#[99, 111, 110, 116, 101, 110, 116, 45, 108, 97, 110, 103, 117, 97, 103, 101]⟩, ⟨#[99, 111, 110, 116, 101, 110, 116, 45, 116, 121, 112, 101]⟩]
def formsR : List ByteArray := [⟨#[116, 101, 120, 116, 47, 112, 108, 97, 105, 110]⟩, ⟨#[109, 117, 108, 116, 105, 112, 97, 114, 116, 47, 102, 111, 114, 109, 45, 100, 97, 116, 97]⟩, ⟨#[97, 112, 112, 108, 105, 99, 97, 116, 105, 111, 110, 47, 120, 45, 119, 119, 119, 45, 102, 111, 114, 109, 45, 117, 114, 108, 101, 110, 99, 111, 100, 101, 100]⟩]
theorem forms_same (x : ByteArray) : isIn x formsR = isIn x forms := isIn_same x (by simp [forms, formsR]) (by simp [forms, formsR])
theorem box_name (w : World) (x y : ByteArray) : (w.alloc (.cells #[.string x, .string y] 45)).cell? ⟨w.heap.size, 0, Option.none⟩ = some (.string x) := by
  rw [cell_of_row _ w.heap.size 0 _ 45 (0, 0) (heap_alloc_new w _)]
  rfl

/-- Where the first semicolon from place k on stands; the length, if there is none. -/
def firstFrom (l : List UInt8) (k : Nat) : Nat := k + (aheadOf 59 (l.drop k)).length
theorem first_end (l : List UInt8) : firstFrom l l.length = l.length := by simp [firstFrom, aheadOf]
theorem first_all (l : List UInt8) : firstFrom l 0 = (aheadOf 59 l).length := by simp [firstFrom]
theorem drop_at {l : List UInt8} {j : Nat} (hj : j < l.length) : l.drop j = l[j] :: l.drop (j + 1) := List.drop_eq_getElem_cons hj
theorem first_hit {l : List UInt8} {j : Nat} (hj : j < l.length) (h : l[j].toNat = 59) : firstFrom l j = j := by
  have e : l[j] = 59 := by apply UInt8.toNat_inj.1; exact h
  unfold firstFrom
  rw [drop_at hj, e]
  simp [aheadOf]
theorem first_miss {l : List UInt8} {j : Nat} (hj : j < l.length) (h : ¬ l[j].toNat = 59) : firstFrom l j = firstFrom l (j + 1) := by
  have e : l[j] ≠ 59 := fun c => h (by rw [c]; rfl)
  unfold firstFrom aheadOf
  rw [drop_at hj, List.takeWhile_cons_of_pos (by simpa using e), List.length_cons]
  omega
theorem drop_all {l : List UInt8} {p : UInt8 → Bool} {j : Nat} (hj : j < l.length) (h : (l.drop (j + 1)).all p = true) (hp : p l[j] = true) : (l.drop j).all p = true := by
  rw [drop_at hj, List.all_cons, h, hp]
  rfl
theorem aheadOf_take (c : UInt8) (l : List UInt8) : l.take (aheadOf c l).length = aheadOf c l := by
  rcases index_split c l with ⟨_, h2⟩ | ⟨i, _, h2, h3⟩
  · rw [h2, List.take_length]
  · rw [h3, List.length_take, Nat.min_eq_left (by omega)]
theorem extract_ahead (y : ByteArray) (n : Nat) (h : n = (aheadOf 59 y.data.toList).length) : y.extract 0 n = mk (aheadOf 59 y.data.toList) := by
  subst h
  rw [← mk_of (y.extract 0 _), Lib.extract_data]
  simp [aheadOf_take]

set_option maxHeartbeats 4000000 in
set_option maxRecDepth 100000 in
theorem refhead_long (x y u : ByteArray) (w : World) (hlow : ∀ W, Calls Tryz.prog 32 #[.string x] W fun e w' => e = .returned (.string u) ∧ Below W.heap.size W w')
    (hy : 128 < y.size) :
    Calls Tryz.prog 21 #[.agg #[.string x, .string y]] w fun e w' => e = .returned (.bool false) ∧ Below w.heap.size w w' := by
  have hL := Lib.hid hlow
  have hbx := Lib.hid (box_value w x y)
  clear hlow
  go_enter Tryz.func21, Tryz.ntmps21
  go_wp2
  go_region_with (go_at_call 32; refine (hL.out _).mono ?_; rintro e w' ⟨rfl, hb⟩; have hc := cell_later (below_undrew hb) hbx.out)
  all_goals
    go_wp2
    go_ret
    exact ⟨rfl, below_then (below_box _ _) (below_undrew hb)⟩

set_option maxHeartbeats 4000000 in
set_option maxRecDepth 100000 in
theorem refhead_other (x y u : ByteArray) (w : World) (hlow : ∀ W, Calls Tryz.prog 32 #[.string x] W fun e w' => e = .returned (.string u) ∧ Below W.heap.size W w')
    (hy : y.size ≤ 128) (hq : isIn u four = false) :
    Calls Tryz.prog 21 #[.agg #[.string x, .string y]] w fun e w' => e = .returned (.bool false) ∧ Below w.heap.size w w' := by
  have hL := Lib.hid hlow
  have hbx := Lib.hid (box_value w x y)
  clear hlow
  have hA := Lib.hid (fun W cs hcs g hg => hq ▸ among_new four 4 rfl (by decide) u W cs hcs g hg)
  clear hq
  go_enter Tryz.func21, Tryz.ntmps21
  go_wp2
  go_region_with (go_at_call 32; refine (hL.out _).mono ?_; rintro e w' ⟨rfl, hb⟩; have hc := cell_later (below_undrew hb) hbx.out)
  all_goals
    go_wp2_with (go_at_call 37; refine (hA.out _ _ rfl _ rfl).mono ?_; rintro e w2 ⟨rfl, hw⟩; subst hw)
    go_ret
    exact ⟨rfl, below_then (below_then (below_box _ _) (below_undrew hb)) (below_box _ _)⟩

set_option maxHeartbeats 4000000 in
set_option maxRecDepth 100000 in
theorem refhead_accept (x y : ByteArray) (w : World) (hlow : ∀ W, Calls Tryz.prog 32 #[.string x] W fun e w' => e = .returned (.string ⟨#[97, 99, 99, 101, 112, 116]⟩) ∧ Below W.heap.size W w')
    (hy : y.size ≤ 128) :
    Calls Tryz.prog 21 #[.agg #[.string x, .string y]] w fun e w' => e = .returned (.bool (accAll y)) ∧ Below w.heap.size w w' := by
  have hL := Lib.hid hlow
  have hbx := Lib.hid (box_value w x y)
  clear hlow
  have hA := Lib.hid (fun W cs hcs g hg => (show isIn ⟨#[97, 99, 99, 101, 112, 116]⟩ four = true from isIn_iff.2 (by simp [four])) ▸ among_new four 4 rfl (by decide) ⟨#[97, 99, 99, 101, 112, 116]⟩ W cs hcs g hg)
  obtain ⟨r, hr⟩ : ∃ r, r = accAll y := ⟨_, rfl⟩
  rw [← hr]
  have hr' := Lib.hid hr
  clear hr
  go_enter Tryz.func21, Tryz.ntmps21
  go_wp2
  go_region_with (go_at_call 32; refine (hL.out _).mono ?_; rintro e w' ⟨rfl, hb⟩; have hc := cell_later (below_undrew hb) hbx.out)
  all_goals
    go_wp2_with (go_at_call 37; refine (hA.out _ _ rfl _ rfl).mono ?_; rintro e w2 ⟨rfl, hw⟩; subst hw)
    go_loop [5, 6] (fun f i => ∃ (k n : Nat) (m : Int), k ≤ y.size ∧ i = .int .i64 m ∧ f = .int .i64 n ∧ Hid (m = (k : Int) - 1) ∧ Hid (n = firstFrom y.data.toList k) ∧ Hid ((y.data.toList.drop k).all (fun b => acc b.toNat) = true)) (fun _ i => (RowKit.intOf i + 1).toNat)
    case atStart =>
      refine ⟨y.size, y.size, _, Nat.le_refl _, rfl, rfl, Lib.hid rfl, Lib.hid ?_, Lib.hid ?_⟩
      · rw [size_len, first_end]
      · rw [size_len, List.drop_length]
        rfl
    case round =>
      obtain ⟨k, n, m, hk, rfl, rfl, hm, hn, hall⟩ := hrel
      by_cases h0 : 0 < k
      · obtain ⟨j, rfl⟩ : ∃ j, k = j + 1 := ⟨k - 1, by omega⟩
        have em : m = (j : Int) := by rw [hm.out]; omega
        subst em
        clear hm
        have hjs : j < y.size := by omega
        have hj : j < y.data.toList.length := by rw [← size_len]; exact hjs
        have hat := byte_at y j hjs
        have hin := Lib.hid (fun W => refUnsafe_any y[j].toNat (byte_lt _) W)
        have hstop := Lib.hid (show acc y[j].toNat = false → r = false from fun h => by rw [hr'.out]; exact all_stop hj h)
        have hgo := Lib.hid (show acc y[j].toNat = true → (y.data.toList.drop j).all (fun b => acc b.toNat) = true from fun h => drop_all hj hall.out h)
        have hf1 := Lib.hid (show y[j].toNat = 59 → j = firstFrom y.data.toList j from fun h => (first_hit hj h).symm)
        have hf2 := Lib.hid (show ¬ y[j].toNat = 59 → n = firstFrom y.data.toList j from fun h => by rw [first_miss hj h]; exact hn.out)
        clear hat
        generalize acc y[j].toNat = b at hin hstop hgo
        by_cases h59 : y[j].toNat = 59
        · have hf := Lib.hid (hf1.out h59)
          have e59 : ((y[j].toNat : Int) == 59) = true := by rw [h59]; rfl
          clear h59 hf1 hf2
          cases b with
          | false =>
            have hz := Lib.hid (hstop.out rfl)
            clear hstop hgo
            go_wp2_with (go_at_call 42; refine (hin.out _).mono ?_; rintro e w3 ⟨rfl, hw⟩; subst hw)
            go_ret
            exact ⟨ret_bool hz.out.symm, below_then (below_then (below_box _ _) (below_undrew hb)) (below_box _ _)⟩
          | true =>
            have hz := Lib.hid (hgo.out rfl)
            clear hstop hgo
            go_wp2_with (go_at_call 42; refine (hin.out _).mono ?_; rintro e w3 ⟨rfl, hw⟩; subst hw)
            go_round
            case rel => exact ⟨j, j, _, by omega, rfl, rfl, Lib.hid (by go_num), Lib.hid hf.out, Lib.hid hz.out⟩
            case measure => simp [RowKit.intOf]
        · have hf := Lib.hid (hf2.out h59)
          have e59 : ((y[j].toNat : Int) == 59) = false := by rw [beq_eq_false_iff_ne]; omega
          clear h59 hf1 hf2
          cases b with
          | false =>
            have hz := Lib.hid (hstop.out rfl)
            clear hstop hgo
            go_wp2_with (go_at_call 42; refine (hin.out _).mono ?_; rintro e w3 ⟨rfl, hw⟩; subst hw)
            go_ret
            exact ⟨ret_bool hz.out.symm, below_then (below_then (below_box _ _) (below_undrew hb)) (below_box _ _)⟩
          | true =>
            have hz := Lib.hid (hgo.out rfl)
            clear hstop hgo
            go_wp2_with (go_at_call 42; refine (hin.out _).mono ?_; rintro e w3 ⟨rfl, hw⟩; subst hw)
            go_round
            case rel => exact ⟨j, n, _, by omega, rfl, rfl, Lib.hid (by go_num), Lib.hid hf.out, Lib.hid hz.out⟩
            case measure => simp [RowKit.intOf]
      · have ek : k = 0 := by omega
        subst ek
        have em : m = -1 := by rw [hm.out]; rfl
        subst em
        clear hm
        have hz : Hid (r = true) := Lib.hid (by rw [hr'.out]; exact hall.out)
        clear hall
        go_wp2
        go_ret
        exact ⟨ret_bool hz.out.symm, below_then (below_then (below_box _ _) (below_undrew hb)) (below_box _ _)⟩
end Go.Proofs.YtalnjlodldhfbaaGreatDoor
