/-
  The fixed fact of layer 9. No condition.
-/
import Derived.Test.YtklbikafkdjgpaaDoorHeadRefSet
import Derived.Test.YtklbikafkdjgpaaDoorHeadRefDrop
namespace Go.Proofs.YtklbikafkdjgpaaDoor
open Go.RowKit Go.Lib Go.Shelf

def L3 : List Hd := [(⟨#[97]⟩, ⟨#[49]⟩), (⟨#[98]⟩, ⟨#[50]⟩), (⟨#[65]⟩, ⟨#[51]⟩)]
theorem short_of {B : Nat} {l : List Hd} (h : (l.all fun x => decide (x.1.size ≤ 1000) && decide (x.2.size ≤ 1000)) = true) (hB : 1000 ≤ B) : Short B l := fun x hx => by
  rw [List.all_eq_true] at h
  have := h x hx
  simp only [Bool.and_eq_true, decide_eq_true_eq] at this
  omega
theorem short3 : Short maxLen L3 := short_of (by decide) (by simp [maxLen])
theorem tiny {n : Nat} (h : n ≤ 1000) : n ≤ maxLen := by simp only [maxLen]; omega

theorem fact9_get (A : Option Addr) (c : Nat) (w : World) (h : Hds w A 3 c L3) : Calls Tryd.prog 14 #[.slice A 3 c, .string ⟨#[97]⟩] w fun e w' => e = .returned (.tuple #[.string ⟨#[49, 44, 32, 51]⟩, .bool true]) ∧ Below w.heap.size w w' := by
  have h1 := get_any A 3 c L3 ⟨#[97]⟩ w h (by omega) short3 (tiny (by decide)) (by decide)
  rw [show mk (joined (vals ⟨#[97]⟩ L3)) = ⟨#[49, 44, 32, 51]⟩ by decide, show decide (0 < (vals ⟨#[97]⟩ L3).length) = true by decide] at h1
  exact h1
theorem fact9_set (A : Option Addr) (c : Nat) (w : World) (h : Hds w A 3 c L3) : Calls Tryd.prog 17 #[.slice A 3 c, .agg #[.string ⟨#[65]⟩, .string ⟨#[52]⟩]] w fun e w' =>
    ∃ b off d, e = .returned (.slice (some ⟨b, off, Option.none⟩) 2 d) ∧ w'.cell? ⟨b, off + 1, Option.none⟩ = some (.string ⟨#[52]⟩) ∧ Below w.heap.size w w' := by
  refine (set_any A 3 c L3 ⟨#[65]⟩ ⟨#[52]⟩ w h (by omega) short3 (tiny (by decide))).mono ?_
  rintro e w' ⟨v, rfl, ⟨B, n, d, rfl, hT⟩, hb⟩
  have el : n = 2 := by rw [← hT.len]; decide
  subst el
  obtain ⟨b, off, rfl, _, h2⟩ := hT.at (k := 0) (by omega)
  refine ⟨b, off, d, rfl, ?_, hb⟩
  rw [Nat.zero_mul, Nat.add_zero] at h2
  rw [h2]
  have : (setOf L3 (⟨#[65]⟩, ⟨#[52]⟩))[0]? = some (⟨#[65]⟩, ⟨#[52]⟩) := by decide
  rw [List.getElem?_eq_getElem (by decide), Option.some.injEq] at this
  rw [this]
theorem fact9_drop (A : Option Addr) (c : Nat) (w : World) (h : Hds w A 3 c L3) (g : Nat) (hg : g = w.heap.size) : Calls Tryd.prog 19 #[.slice A 3 c, .slice (some ⟨g, 0, Option.none⟩) 2 2] (w.alloc (.cells #[.string ⟨#[66]⟩, .string ⟨#[97]⟩] 9)) fun e w' =>
    ∃ B d, e = .returned (.slice B 0 d) ∧ Below w.heap.size w w' := by
  subst hg
  refine (drop_any A _ 3 c 2 2 L3 [⟨#[66]⟩, ⟨#[97]⟩] _ (h.later (below_box w _)) (strs_new w _ [⟨#[66]⟩, ⟨#[97]⟩] rfl (tiny (by decide))) (by omega) (by omega) short3 (fun x hx => by simp at hx; rcases hx with rfl | rfl <;> exact tiny (by decide))).mono ?_
  rintro e w' ⟨v, rfl, ho, hb⟩
  obtain ⟨B, n, d, rfl, hT⟩ := ho.hh
  have el : n = 0 := by rw [← hT.len]; decide
  subst el
  exact ⟨B, d, rfl, below_then (below_box w _) hb⟩
theorem fact9_name (w : World) : Calls Tryd.prog 10 #[.string ⟨#[88, 45, 121]⟩] w fun e w' => e = .returned (.bool true) ∧ w' = w := by
  have h := name_any ⟨#[88, 45, 121]⟩ (tiny (by decide)) w
  rw [show nameOk ⟨#[88, 45, 121]⟩ = true by decide] at h
  exact h
theorem fact9_none (w : World) : Calls Tryd.prog 10 #[.string ⟨#[]⟩] w fun e w' => e = .returned (.bool false) ∧ w' = w := by
  have h := name_any ⟨#[]⟩ (tiny (by decide)) w
  rw [show nameOk ⟨#[]⟩ = false by decide] at h
  exact h
theorem fact9_value (w : World) : Calls Tryd.prog 12 #[.string ⟨#[97, 32, 98]⟩] w fun e w' => e = .returned (.bool true) ∧ Below w.heap.size w w' := by
  have h := value_any ⟨#[97, 32, 98]⟩ (tiny (by decide)) w
  rw [show valueOk ⟨#[97, 32, 98]⟩ = true by decide] at h
  exact h
theorem fact9_white (w : World) : Calls Tryd.prog 12 #[.string ⟨#[32, 97]⟩] w fun e w' => e = .returned (.bool false) ∧ Below w.heap.size w w' := by
  have h := value_any ⟨#[32, 97]⟩ (tiny (by decide)) w
  rw [show valueOk ⟨#[32, 97]⟩ = false by decide] at h
  exact h
theorem fact9_good (A : Option Addr) (c : Nat) (w : World) (h : Hds w A 3 c L3) : Calls Tryd.prog 7 #[.slice A 3 c] w fun e w' => e = .returned (.bool true) ∧ Below w.heap.size w w' := by
  have h1 := goodList_any A 3 c L3 w h short3
  rw [show goodOk L3 = true by decide] at h1
  exact h1

set_option maxHeartbeats 4000000 in
set_option maxRecDepth 100000 in
theorem awake9_any (w : World) : Calls Tryd.prog 6 #[] w (Yes w) := by
  have hH0 := Lib.hid (hds_new w _ L3 rfl (tiny (by decide)))
  obtain ⟨w0, hw0⟩ : ∃ w0, w0 = w.alloc (.cells (hcells L3).toArray 29) := ⟨_, rfl⟩
  have hb0 := Lib.hid (show Below w.heap.size w w0 by rw [hw0]; exact below_box w _)
  rw [← hw0] at hH0
  have hw0' : Hid (w.alloc (.cells #[.string ⟨#[97]⟩, .string ⟨#[49]⟩, .string ⟨#[98]⟩, .string ⟨#[50]⟩, .string ⟨#[65]⟩, .string ⟨#[51]⟩] 29) = w0) := Lib.hid hw0.symm
  clear hw0
  go_enter Tryd.func6, Tryd.ntmps6
  go_wp2_with fail
  rw [hw0'.out]
  go_wp2_with (first
    | (go_at_call 14; refine (fact9_get _ _ _ hH0.out).mono ?_; rintro e w1 ⟨rfl, hb1⟩; have H1 := Lib.hid (hH0.out.later hb1))
    | (go_at_call 17; refine (fact9_set _ _ _ H1.out).mono ?_; rintro e w2 ⟨sb, so, sd, rfl, hs2, hb2⟩; have H2 := Lib.hid (H1.out.later hb2))
    | (go_at_call 19; refine (fact9_drop _ _ w2 H2.out _ rfl).mono ?_; rintro e w3 ⟨dB, dd, rfl, hb3⟩; have H3 := Lib.hid (H2.out.later hb3))
    | (go_at_call 10; with_reducible refine (fact9_name _).mono ?_; rintro e w' ⟨rfl, hw⟩; subst hw)
    | (go_at_call 10; with_reducible refine (fact9_none _).mono ?_; rintro e w' ⟨rfl, hw⟩; subst hw)
    | (go_at_call 12; with_reducible refine (fact9_value _).mono ?_; rintro e w4 ⟨rfl, hb4⟩)
    | (go_at_call 12; with_reducible refine (fact9_white _).mono ?_; rintro e w5 ⟨rfl, hb5⟩)
    | (go_at_call 7; refine (fact9_good _ _ _ ((H3.out.later hb4).later hb5)).mono ?_; rintro e w6 ⟨rfl, hb6⟩))
  go_ret
  exact ⟨rfl, below_then (below_then (below_then (below_then (below_then (below_then hb0.out hb1) hb2) hb3) hb4) hb5) hb6⟩
end Go.Proofs.YtklbikafkdjgpaaDoor
