/-
  Safelisted headers, as the program has them. Conditions: those that each theorem states.
-/
import Derived.Test.YtalnjlodldhfbaaGreatDoorSafeType
import Derived.Test.YtalnjlodldhfbaaGreatDoorSafeBytes
namespace Go.Proofs.YtalnjlodldhfbaaGreatDoor
open Go.RowKit Go.Lib Go.Shelf

def accAll (y : ByteArray) : Bool := y.data.toList.all fun b => acc b.toNat
def langAll (y : ByteArray) : Bool := y.data.toList.all fun b => lang b.toNat
/-- May a header whose name with small letters is u go anywhere? -/
def headKind (u y : ByteArray) : Bool :=
  if u.toList == [97, 99, 99, 101, 112, 116] then accAll y
  else if u.toList == [97, 99, 99, 101, 112, 116, 45, 108, 97, 110, 103, 117, 97, 103, 101] || u.toList == [99, 111, 110, 116, 101, 110, 116, 45, 108, 97, 110, 103, 117, 97, 103, 101] then langAll y
  else if u.toList == [99, 111, 110, 116, 101, 110, 116, 45, 116, 121, 112, 101] then accAll y && typeOk y
  else false
def headOk (x y : ByteArray) : Bool := decide (y.size ≤ 128) && headKind (mk (lo x)) y

theorem box_value (w : World) (x y : ByteArray) : (w.alloc (.cells #[.string x, .string y] 45)).cell? ⟨w.heap.size, 1, Option.none⟩ = some (.string y) := by
  rw [cell_of_row _ w.heap.size 1 _ 45 (0, 0) (heap_alloc_new w _)]
  rfl

set_option maxHeartbeats 4000000 in
set_option maxRecDepth 100000 in
theorem head_long (x y : ByteArray) (hy : 128 < y.size) (w : World) : Calls Tryz.prog 38 #[.agg #[.string x, .string y]] w fun e w' => e = .returned (.bool false) ∧ Below w.heap.size w w' := by
  go_enter Tryz.func38, Tryz.ntmps38
  go_wp2
  go_ret
  exact ⟨rfl, below_box _ _⟩

set_option maxHeartbeats 4000000 in
set_option maxRecDepth 100000 in
theorem head_accept (x y : ByteArray) (hy : y.size ≤ 128) (w : World) (hlow : ∀ W, Calls Tryz.prog 26 #[.string x] W fun e w' => e = .returned (.string ⟨#[97, 99, 99, 101, 112, 116]⟩) ∧ Below W.heap.size W w') :
    Calls Tryz.prog 38 #[.agg #[.string x, .string y]] w fun e w' => e = .returned (.bool (accAll y)) ∧ Below w.heap.size w w' := by
  have hL := Lib.hid hlow
  have hbx := Lib.hid (box_value w x y)
  have hC := Lib.hid (fun W => consists_acc y (tiny (Nat.le_trans hy (by decide))) W)
  change Hid (∀ W, Calls _ _ _ _ (fun e w' => e = .returned (.bool (accAll y)) ∧ w' = W)) at hC
  generalize accAll y = b at hC ⊢
  clear hlow
  go_enter Tryz.func38, Tryz.ntmps38
  go_wp2_with (first
    | (go_at_call 26; refine (hL.out _).mono ?_; rintro e w' ⟨rfl, hb⟩; have hc := cell_later hb hbx.out)
    | (go_at_call 57; refine (hC.out _).mono ?_; rintro e w2 ⟨rfl, hw⟩; subst hw))
  go_ret
  exact ⟨rfl, below_then (below_box _ _) hb⟩

set_option maxHeartbeats 4000000 in
set_option maxRecDepth 100000 in
theorem head_lang1 (x y : ByteArray) (hy : y.size ≤ 128) (w : World) (hlow : ∀ W, Calls Tryz.prog 26 #[.string x] W fun e w' => e = .returned (.string ⟨#[97, 99, 99, 101, 112, 116, 45, 108, 97, 110, 103, 117, 97, 103, 101]⟩) ∧ Below W.heap.size W w') :
    Calls Tryz.prog 38 #[.agg #[.string x, .string y]] w fun e w' => e = .returned (.bool (langAll y)) ∧ Below w.heap.size w w' := by
  have hL := Lib.hid hlow
  have hbx := Lib.hid (box_value w x y)
  have hC := Lib.hid (fun W => consists_lang y (tiny (Nat.le_trans hy (by decide))) W)
  change Hid (∀ W, Calls _ _ _ _ (fun e w' => e = .returned (.bool (langAll y)) ∧ w' = W)) at hC
  generalize langAll y = b at hC ⊢
  clear hlow
  go_enter Tryz.func38, Tryz.ntmps38
  go_wp2_with (first
    | (go_at_call 26; refine (hL.out _).mono ?_; rintro e w' ⟨rfl, hb⟩; have hc := cell_later hb hbx.out)
    | (go_at_call 57; refine (hC.out _).mono ?_; rintro e w2 ⟨rfl, hw⟩; subst hw))
  go_ret
  exact ⟨rfl, below_then (below_box _ _) hb⟩

set_option maxHeartbeats 4000000 in
set_option maxRecDepth 100000 in
theorem head_lang2 (x y : ByteArray) (hy : y.size ≤ 128) (w : World) (hlow : ∀ W, Calls Tryz.prog 26 #[.string x] W fun e w' => e = .returned (.string ⟨#[99, 111, 110, 116, 101, 110, 116, 45, 108, 97, 110, 103, 117, 97, 103, 101]⟩) ∧ Below W.heap.size W w') :
    Calls Tryz.prog 38 #[.agg #[.string x, .string y]] w fun e w' => e = .returned (.bool (langAll y)) ∧ Below w.heap.size w w' := by
  have hL := Lib.hid hlow
  have hbx := Lib.hid (box_value w x y)
  have hC := Lib.hid (fun W => consists_lang y (tiny (Nat.le_trans hy (by decide))) W)
  change Hid (∀ W, Calls _ _ _ _ (fun e w' => e = .returned (.bool (langAll y)) ∧ w' = W)) at hC
  generalize langAll y = b at hC ⊢
  clear hlow
  go_enter Tryz.func38, Tryz.ntmps38
  go_wp2_with (first
    | (go_at_call 26; refine (hL.out _).mono ?_; rintro e w' ⟨rfl, hb⟩; have hc := cell_later hb hbx.out)
    | (go_at_call 57; refine (hC.out _).mono ?_; rintro e w2 ⟨rfl, hw⟩; subst hw))
  go_ret
  exact ⟨rfl, below_then (below_box _ _) hb⟩

set_option maxHeartbeats 4000000 in
set_option maxRecDepth 100000 in
theorem head_type_true (x y : ByteArray) (hy : y.size ≤ 128) (w : World) (hlow : ∀ W, Calls Tryz.prog 26 #[.string x] W fun e w' => e = .returned (.string ⟨#[99, 111, 110, 116, 101, 110, 116, 45, 116, 121, 112, 101]⟩) ∧ Below W.heap.size W w')
    (ha : accAll y = true) :
    Calls Tryz.prog 38 #[.agg #[.string x, .string y]] w fun e w' => e = .returned (.bool (typeOk y)) ∧ Below w.heap.size w w' := by
  have hL := Lib.hid hlow
  have hbx := Lib.hid (box_value w x y)
  have hC := Lib.hid (fun W => consists_acc y (tiny (Nat.le_trans hy (by decide))) W)
  change Hid (∀ W, Calls _ _ _ _ (fun e w' => e = .returned (.bool (accAll y)) ∧ w' = W)) at hC
  rw [ha] at hC
  clear ha
  have hT := Lib.hid (fun W => safeType_any y (tiny (Nat.le_trans hy (by decide))) W)
  generalize typeOk y = b at hT ⊢
  clear hlow
  go_enter Tryz.func38, Tryz.ntmps38
  go_wp2_with (first
    | (go_at_call 26; refine (hL.out _).mono ?_; rintro e w' ⟨rfl, hb⟩; have hc := cell_later hb hbx.out)
    | (go_at_call 57; refine (hC.out _).mono ?_; rintro e w2 ⟨rfl, hw⟩; subst hw)
    | (go_at_call 60; refine (hT.out _).mono ?_; rintro e w3 ⟨rfl, hb3⟩))
  go_ret
  exact ⟨rfl, below_then (below_then (below_box _ _) hb) hb3⟩

set_option maxHeartbeats 4000000 in
set_option maxRecDepth 100000 in
theorem head_type_false (x y : ByteArray) (hy : y.size ≤ 128) (w : World) (hlow : ∀ W, Calls Tryz.prog 26 #[.string x] W fun e w' => e = .returned (.string ⟨#[99, 111, 110, 116, 101, 110, 116, 45, 116, 121, 112, 101]⟩) ∧ Below W.heap.size W w')
    (ha : accAll y = false) :
    Calls Tryz.prog 38 #[.agg #[.string x, .string y]] w fun e w' => e = .returned (.bool false) ∧ Below w.heap.size w w' := by
  have hL := Lib.hid hlow
  have hbx := Lib.hid (box_value w x y)
  have hC := Lib.hid (fun W => consists_acc y (tiny (Nat.le_trans hy (by decide))) W)
  change Hid (∀ W, Calls _ _ _ _ (fun e w' => e = .returned (.bool (accAll y)) ∧ w' = W)) at hC
  rw [ha] at hC
  clear ha
  clear hlow
  go_enter Tryz.func38, Tryz.ntmps38
  go_wp2_with (first
    | (go_at_call 26; refine (hL.out _).mono ?_; rintro e w' ⟨rfl, hb⟩; have hc := cell_later hb hbx.out)
    | (go_at_call 57; refine (hC.out _).mono ?_; rintro e w2 ⟨rfl, hw⟩; subst hw))
  go_ret
  exact ⟨rfl, below_then (below_box _ _) hb⟩

set_option maxHeartbeats 4000000 in
set_option maxRecDepth 100000 in
theorem head_other (x y u : ByteArray) (hy : y.size ≤ 128) (w : World) (hlow : ∀ W, Calls Tryz.prog 26 #[.string x] W fun e w' => e = .returned (.string u) ∧ Below W.heap.size W w')
    (q0 : (u.toList == [97, 99, 99, 101, 112, 116]) = false) (q1 : (u.toList == [97, 99, 99, 101, 112, 116, 45, 108, 97, 110, 103, 117, 97, 103, 101]) = false) (q2 : (u.toList == [99, 111, 110, 116, 101, 110, 116, 45, 108, 97, 110, 103, 117, 97, 103, 101]) = false) (q3 : (u.toList == [99, 111, 110, 116, 101, 110, 116, 45, 116, 121, 112, 101]) = false) :
    Calls Tryz.prog 38 #[.agg #[.string x, .string y]] w fun e w' => e = .returned (.bool false) ∧ Below w.heap.size w w' := by
  have hL := Lib.hid hlow
  have hbx := Lib.hid (box_value w x y)
  clear hlow
  go_enter Tryz.func38, Tryz.ntmps38
  go_wp2_with (first
    | (go_at_call 26; refine (hL.out _).mono ?_; rintro e w' ⟨rfl, hb⟩; have hc := cell_later hb hbx.out))
  go_ret
  exact ⟨rfl, below_then (below_box _ _) hb⟩

theorem header_any (x y : ByteArray) (hx : x.size ≤ maxLen) (w : World) : Calls Tryz.prog 38 #[.agg #[.string x, .string y]] w fun e w' => e = .returned (.bool (headOk x y)) ∧ Below w.heap.size w w' := by
  by_cases hy : y.size ≤ 128
  · have hlow := fun W => lower_any x hx W
    rw [show (⟨(x.data.toList.map (turn 65 90 32)).toArray⟩ : ByteArray) = mk (lo x) from rfl] at hlow
    rw [show headOk x y = headKind (mk (lo x)) y by unfold headOk; rw [decide_eq_true hy, Bool.true_and]]
    generalize mk (lo x) = u at hlow ⊢
    unfold headKind
    cases q0 : (u.toList == [97, 99, 99, 101, 112, 116]) with
    | true =>
      rw [text_is q0] at hlow
      exact head_accept x y hy w hlow
    | false =>
    cases q1 : (u.toList == [97, 99, 99, 101, 112, 116, 45, 108, 97, 110, 103, 117, 97, 103, 101]) with
    | true =>
      rw [text_is q1] at hlow
      exact head_lang1 x y hy w hlow
    | false =>
    cases q2 : (u.toList == [99, 111, 110, 116, 101, 110, 116, 45, 108, 97, 110, 103, 117, 97, 103, 101]) with
    | true =>
      rw [text_is q2] at hlow
      exact head_lang2 x y hy w hlow
    | false =>
    cases q3 : (u.toList == [99, 111, 110, 116, 101, 110, 116, 45, 116, 121, 112, 101]) with
    | true =>
      rw [text_is q3] at hlow
      cases ha : accAll y with
      | true => exact head_type_true x y hy w hlow ha
      | false => exact head_type_false x y hy w hlow ha
    | false => exact head_other x y u hy w hlow q0 q1 q2 q3
  · rw [show headOk x y = false by unfold headOk; rw [decide_eq_false hy, Bool.false_and]]
    exact head_long x y (by omega) w
end Go.Proofs.YtalnjlodldhfbaaGreatDoor
