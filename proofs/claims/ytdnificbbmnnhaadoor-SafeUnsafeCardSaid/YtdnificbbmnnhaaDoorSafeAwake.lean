/-
  The fixed fact of layer 10. No condition.
-/
import Derived.Test.YtdnificbbmnnhaaDoorSafeRefUns
import Derived.Test.YtdnificbbmnnhaaDoorSafeRefForb
import Derived.Test.YtdnificbbmnnhaaDoorAscSame
namespace Go.Proofs.YtdnificbbmnnhaaDoor
open Go.RowKit Go.Lib Go.Shelf

def L5 : List Hd := [(⟨#[88, 45, 66]⟩, ⟨#[]⟩), (⟨#[65, 99, 99, 101, 112, 116]⟩, ⟨#[97]⟩), (⟨#[120, 45, 97]⟩, ⟨#[]⟩), (⟨#[120, 45, 98]⟩, ⟨#[]⟩), (⟨#[67, 111, 110, 116, 101, 110, 116, 45, 84, 121, 112, 101]⟩, ⟨#[97, 112, 112, 108, 105, 99, 97, 116, 105, 111, 110, 47, 106, 115, 111, 110]⟩)]
def O3 : List (List UInt8) := [[99, 111, 110, 116, 101, 110, 116, 45, 116, 121, 112, 101], [120, 45, 97], [120, 45, 98]]
theorem short5 : Short maxLen L5 := short_of (by decide) (by simp [maxLen])
theorem headKind_data (u y : ByteArray) : headKind u y =
  if u.data.toList == [97, 99, 99, 101, 112, 116] then accAll y
  else if u.data.toList == [97, 99, 99, 101, 112, 116, 45, 108, 97, 110, 103, 117, 97, 103, 101] || u.data.toList == [99, 111, 110, 116, 101, 110, 116, 45, 108, 97, 110, 103, 117, 97, 103, 101] then langAll y
  else if u.data.toList == [99, 111, 110, 116, 101, 110, 116, 45, 116, 121, 112, 101] then accAll y && typeOk y
  else false := by unfold headKind; rw [ByteArray.toList_eq]
theorem ok5_0 : headOk ⟨#[88, 45, 66]⟩ ⟨#[]⟩ = false := by unfold headOk; rw [headKind_data]; decide +kernel
theorem ok5_1 : headOk ⟨#[65, 99, 99, 101, 112, 116]⟩ ⟨#[97]⟩ = true := by unfold headOk; rw [headKind_data]; decide +kernel
theorem ok5_2 : headOk ⟨#[120, 45, 97]⟩ ⟨#[]⟩ = false := by unfold headOk; rw [headKind_data]; decide +kernel
theorem ok5_3 : headOk ⟨#[120, 45, 98]⟩ ⟨#[]⟩ = false := by unfold headOk; rw [headKind_data]; decide +kernel
theorem ok5_4 : headOk ⟨#[67, 111, 110, 116, 101, 110, 116, 45, 84, 121, 112, 101]⟩ ⟨#[97, 112, 112, 108, 105, 99, 97, 116, 105, 111, 110, 47, 106, 115, 111, 110]⟩ = false := by unfold headOk; rw [headKind_data]; decide +kernel
theorem names5 : namesOf L5 = [[120, 45, 98], [120, 45, 97], [120, 45, 98], [99, 111, 110, 116, 101, 110, 116, 45, 116, 121, 112, 101]] := by
  unfold namesOf L5
  simp only [List.filter_cons, List.filter_nil, ok5_0, ok5_1, ok5_2, ok5_3, ok5_4]
  decide +kernel
theorem mem5 (x : List UInt8) : x ∈ O3 ↔ x ∈ ([[120, 45, 98], [120, 45, 97], [120, 45, 98], [99, 111, 110, 116, 101, 110, 116, 45, 116, 121, 112, 101]] : List (List UInt8)) := by
  have h1 : ∀ x ∈ O3, x ∈ ([[120, 45, 98], [120, 45, 97], [120, 45, 98], [99, 111, 110, 116, 101, 110, 116, 45, 116, 121, 112, 101]] : List (List UInt8)) := by decide +kernel
  have h2 : ∀ x ∈ ([[120, 45, 98], [120, 45, 97], [120, 45, 98], [99, 111, 110, 116, 101, 110, 116, 45, 116, 121, 112, 101]] : List (List UInt8)), x ∈ O3 := by decide +kernel
  exact ⟨h1 x, h2 x⟩
theorem uns5 : uns L5 = O3 := (uns_is (l := L5) (out := O3) (show O3.Pairwise (· < ·) by decide +kernel) (fun x => by rw [names5]; exact mem5 x)).symm
theorem fact10_get (w : World) : Calls Tryd.prog 7 #[.string ⟨#[103, 101, 116]⟩] w fun e w' => e = .returned (.string ⟨#[71, 69, 84]⟩) ∧ Below w.heap.size w w' := by
  have h := method_any ⟨#[103, 101, 116]⟩ (tiny (by decide)) w
  rw [show methodOf ⟨#[103, 101, 116]⟩ = ⟨#[71, 69, 84]⟩ by decide +kernel] at h
  exact h
theorem fact10_patch (w : World) : Calls Tryd.prog 7 #[.string ⟨#[112, 97, 116, 99, 104]⟩] w fun e w' => e = .returned (.string ⟨#[112, 97, 116, 99, 104]⟩) ∧ Below w.heap.size w w' := by
  have h := method_any ⟨#[112, 97, 116, 99, 104]⟩ (tiny (by decide)) w
  rw [show methodOf ⟨#[112, 97, 116, 99, 104]⟩ = ⟨#[112, 97, 116, 99, 104]⟩ by decide +kernel] at h
  exact h
theorem fact10_trace (w : World) : Calls Tryd.prog 9 #[.string ⟨#[116, 114, 97, 99, 101]⟩] w fun e w' => e = .returned (.bool true) ∧ Below w.heap.size w w' := by
  have h := bad_any ⟨#[116, 114, 97, 99, 101]⟩ (tiny (by decide)) w
  rw [show isIn (mk (hi ⟨#[116, 114, 97, 99, 101]⟩)) banned = true by decide +kernel] at h
  exact h
theorem fact10_head (w : World) : Calls Tryd.prog 11 #[.string ⟨#[72, 69, 65, 68]⟩] w fun e w' => e = .returned (.bool true) ∧ w' = w := by
  have h := simple_any ⟨#[72, 69, 65, 68]⟩ w
  rw [show isIn ⟨#[72, 69, 65, 68]⟩ simple = true by decide +kernel] at h
  exact h
theorem fact10_put (w : World) : Calls Tryd.prog 11 #[.string ⟨#[80, 85, 84]⟩] w fun e w' => e = .returned (.bool false) ∧ w' = w := by
  have h := simple_any ⟨#[80, 85, 84]⟩ w
  rw [show isIn ⟨#[80, 85, 84]⟩ simple = false by decide +kernel] at h
  exact h
theorem fact10_sec (w : World) : Calls Tryd.prog 15 #[.string ⟨#[83, 101, 99, 45, 88]⟩] w fun e w' => e = .returned (.bool true) ∧ Below w.heap.size w w' := by
  have h := forbidden_any ⟨#[83, 101, 99, 45, 88]⟩ (tiny (by decide)) w
  rw [show forbOk ⟨#[83, 101, 99, 45, 88]⟩ = true by decide +kernel] at h
  exact h
theorem fact10_xsec (w : World) : Calls Tryd.prog 15 #[.string ⟨#[88, 45, 83, 101, 99, 45]⟩] w fun e w' => e = .returned (.bool false) ∧ Below w.heap.size w w' := by
  have h := forbidden_any ⟨#[88, 45, 83, 101, 99, 45]⟩ (tiny (by decide)) w
  rw [show forbOk ⟨#[88, 45, 83, 101, 99, 45]⟩ = false by decide +kernel] at h
  exact h
theorem fact10_type (w : World) : Calls Tryd.prog 13 #[.agg #[.string ⟨#[99, 111, 110, 116, 101, 110, 116, 45, 116, 121, 112, 101]⟩, .string ⟨#[116, 101, 120, 116, 47, 112, 108, 97, 105, 110, 59, 99, 104, 97, 114, 115, 101, 116, 61, 117, 116, 102, 45, 56]⟩]] w fun e w' => e = .returned (.bool true) ∧ Below w.heap.size w w' := by
  have h := header_any ⟨#[99, 111, 110, 116, 101, 110, 116, 45, 116, 121, 112, 101]⟩ ⟨#[116, 101, 120, 116, 47, 112, 108, 97, 105, 110, 59, 99, 104, 97, 114, 115, 101, 116, 61, 117, 116, 102, 45, 56]⟩ (tiny (by decide)) w
  rw [show headOk ⟨#[99, 111, 110, 116, 101, 110, 116, 45, 116, 121, 112, 101]⟩ ⟨#[116, 101, 120, 116, 47, 112, 108, 97, 105, 110, 59, 99, 104, 97, 114, 115, 101, 116, 61, 117, 116, 102, 45, 56]⟩ = true by unfold headOk; rw [headKind_data]; decide +kernel] at h
  exact h

theorem fact10_uns (A : Option Addr) (c : Nat) (w : World) (h : Hds w A 5 c L5) : Calls Tryd.prog 17 #[.slice A 5 c] w fun e w' => ∃ B d, e = .returned (.slice B 3 d) ∧ Texts w' B 3 O3 ∧ Below w.heap.size w w' := by
  refine (unsafe_any A 5 c L5 w h (by omega) short5).mono ?_
  rintro e w' ⟨v, rfl, ho, hb⟩
  rw [uns5] at ho
  obtain ⟨B, d, rfl, hT⟩ := ho.texts
  exact ⟨B, d, rfl, hT, hb⟩
theorem fact10_same (B : Option Addr) (d : Nat) (w : World) (h : Texts w B 3 O3) (cs : Array Value) (hcs : cs = (O3.map fun p => Value.string (mk p)).toArray) (g : Nat) (hg : g = w.heap.size) :
    Calls Tryd.prog 18 #[.slice B 3 d, .slice (some ⟨g, 0, Option.none⟩) 3 3] (w.alloc (.cells cs 9)) fun e w' => e = .returned (.bool true) ∧ Below w.heap.size w w' := by
  subst hg
  have h2 := same_any B _ 3 3 d 3 O3 O3 (w.alloc (.cells cs 9)) (h.later (below_box w _)) (texts_new w cs O3 hcs) (by omega) (by omega)
  rw [decide_eq_true rfl] at h2
  exact h2.mono fun e w' ⟨he, hb⟩ => ⟨he, below_then (below_box w _) hb⟩

set_option maxHeartbeats 4000000 in
set_option maxRecDepth 100000 in
theorem awake10_any (w : World) : Calls Tryd.prog 6 #[] w (Yes w) := by
  have hH0 := Lib.hid (hds_new w _ L5 rfl (tiny (by decide)))
  obtain ⟨w0, hw0⟩ : ∃ w0, w0 = w.alloc (.cells (hcells L5).toArray 26) := ⟨_, rfl⟩
  have hb0 := Lib.hid (show Below w.heap.size w w0 by rw [hw0]; exact below_box w _)
  rw [← hw0] at hH0
  have hw0' : Hid (w.alloc (.cells #[.string ⟨#[88, 45, 66]⟩, .string ⟨#[]⟩, .string ⟨#[65, 99, 99, 101, 112, 116]⟩, .string ⟨#[97]⟩, .string ⟨#[120, 45, 97]⟩, .string ⟨#[]⟩, .string ⟨#[120, 45, 98]⟩, .string ⟨#[]⟩, .string ⟨#[67, 111, 110, 116, 101, 110, 116, 45, 84, 121, 112, 101]⟩, .string ⟨#[97, 112, 112, 108, 105, 99, 97, 116, 105, 111, 110, 47, 106, 115, 111, 110]⟩] 26) = w0) := Lib.hid hw0.symm
  clear hw0
  go_enter Tryd.func6, Tryd.ntmps6
  go_wp2_with fail
  rw [hw0'.out]
  go_wp2_with (first
    | (go_at_call 7; with_reducible refine (fact10_get _).mono ?_; rintro e w1 ⟨rfl, hb1⟩; have B1 := Lib.hid hb1)
    | (go_at_call 7; with_reducible refine (fact10_patch _).mono ?_; rintro e w2 ⟨rfl, hb2⟩; have B2 := Lib.hid (below_then B1.out hb2))
    | (go_at_call 9; with_reducible refine (fact10_trace _).mono ?_; rintro e w3 ⟨rfl, hb3⟩; have B3 := Lib.hid (below_then B2.out hb3))
    | (go_at_call 11; with_reducible refine (fact10_head _).mono ?_; rintro e w' ⟨rfl, hw⟩; subst hw)
    | (go_at_call 11; with_reducible refine (fact10_put _).mono ?_; rintro e w' ⟨rfl, hw⟩; subst hw)
    | (go_at_call 15; with_reducible refine (fact10_sec _).mono ?_; rintro e w4 ⟨rfl, hb4⟩; have B4 := Lib.hid (below_then B3.out hb4))
    | (go_at_call 15; with_reducible refine (fact10_xsec _).mono ?_; rintro e w5 ⟨rfl, hb5⟩; have B5 := Lib.hid (below_then B4.out hb5))
    | (go_at_call 13; with_reducible refine (fact10_type _).mono ?_; rintro e w6 ⟨rfl, hb6⟩; have B6 := Lib.hid (below_then B5.out hb6); have H6 := Lib.hid (hH0.out.later B6.out))
    | (go_at_call 17; refine (fact10_uns _ _ _ H6.out).mono ?_; rintro e w7 ⟨sB, sd, rfl, hT, hb7⟩; have B7 := Lib.hid (below_then B6.out hb7); have hT7 := Lib.hid hT; clear hT)
    | (go_at_call 18; refine (fact10_same _ _ w7 hT7.out _ rfl _ rfl).mono ?_; rintro e w8 ⟨rfl, hb8⟩; have B8 := Lib.hid (below_then B7.out hb8)))
  go_ret
  exact ⟨rfl, below_then hb0.out B8.out⟩
end Go.Proofs.YtdnificbbmnnhaaDoor
