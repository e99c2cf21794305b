/-
  Forbidden names, as the reference has them. Conditions: those that each theorem states.
-/
import Derived.Test.YtdnificbbmnnhaaDoorSafeForb
namespace Go.Proofs.YtdnificbbmnnhaaDoor
open Go.RowKit Go.Lib Go.Shelf

def forbR : List ByteArray := [⟨#[97, 99, 99, 101, 112, 116, 45, 99, 104, 97, 114, 115, 101, 116]⟩, ⟨#[97, 99, 99, 101, 112, 116, 45, 101, 110, 99, 111, 100, 105, 110, 103]⟩, ⟨#[97, 99, 99, 101, 115, 115, 45, 99, 111, 110, 116, 114, 111, 108, 45, 114, 101, 113, 117, 101, 115, 116, 45, 104, 101, 97, 100, 101, 114, 115]⟩, ⟨#[97, 99, 99, 101, 115, 115, 45, 99, 111, 110, 116, 114, 111, 108, 45, 114, 101, 113, 117, 101, 115, 116, 45, 109, 101, 116, 104, 111, 100]⟩, ⟨#[99, 111, 110, 110, 101, 99, 116, 105, 111, 110]⟩, ⟨#[99, 111, 110, 116, 101, 110, 116, 45, 108, 101, 110, 103, 116, 104]⟩, ⟨#[99, 111, 111, 107, 105, 101]⟩, ⟨#[99, 111, 111, 107, 105, 101, 50]⟩, ⟨#[100, 97, 116, 101]⟩, ⟨#[100, 110, 116]⟩, ⟨#[101, 120, 112, 101, 99, 116]⟩, ⟨#[104, 111, 115, 116]⟩, ⟨#[107, 101, 101, 112, 45, 97, 108, 105, 118, 101]⟩, ⟨#[111, 114, 105, 103, 105, 110]⟩, ⟨#[114, 101, 102, 101, 114, 101, 114]⟩, ⟨#[115, 101, 116, 45, 99, 111, 111, 107, 105, 101]⟩, ⟨#[116, 101]⟩, ⟨#[116, 114, 97, 105, 108, 101, 114]⟩, ⟨#[116, 114, 97, 110, 115, 102, 101, 114, 45, 101, 110, 99, 111, 100, 105, 110, 103]⟩, ⟨#[117, 112, 103, 114, 97, 100, 101]⟩, ⟨#[118, 105, 97]⟩]
theorem forb_same (x : ByteArray) : isIn x forbR = isIn x forb := isIn_same x (by simp [forb, forbR]) (by simp [forb, forbR])
theorem pre_iff (u : ByteArray) (l : List UInt8) (k : Nat) (hk : l.length = k) : Lib.hasPrefix u.data.toList l = (decide (k ≤ u.size) && ((u.extract 0 k).toList == l)) := by
  subst hk
  rw [← Lib.hasPrefix_of_take, ← size_len, Lib.extract_toList]
  simp

set_option maxHeartbeats 4000000 in
set_option maxRecDepth 100000 in
theorem refForbidden_any (x : ByteArray) (hs : x.size ≤ 140737488351232) (w : World) : Calls Tryd.prog 16 #[.string x] w fun e w' => e = .returned (.bool (forbOk x)) ∧ Below w.heap.size w w' := by
  have hlow := refLower_any x hs w
  have hz : (mk (lo x)).size ≤ 9223372036854775807 := by rw [mk_size, lo, List.length_map, ← size_len]; omega
  rw [show (⟨(x.data.toList.map (turn 65 90 32)).toArray⟩ : ByteArray) = mk (lo x) from rfl] at hlow
  rw [show forbOk x = (isIn (mk (lo x)) forb || begun (mk (lo x))) from rfl]
  generalize mk (lo x) = u at hlow hz ⊢
  have hin := Lib.hid (fun W cs hcs g hg => forb_same u ▸ among_new forbR 21 rfl (by decide) u W cs hcs g hg)
  have hbg : begun u = ((decide (6 ≤ u.size) && ((u.extract 0 6).toList == [112, 114, 111, 120, 121, 45])) || (decide (4 ≤ u.size) && ((u.extract 0 4).toList == [115, 101, 99, 45]))) := by
    unfold begun
    rw [pre_iff u _ 6 rfl, pre_iff u _ 4 rfl]
  generalize begun u = bg at hbg ⊢
  generalize isIn u forb = bi at hin ⊢
  cases e6 : ((u.extract 0 6).toList == [112, 114, 111, 120, 121, 45]) <;> cases e4 : ((u.extract 0 4).toList == [115, 101, 99, 45]) <;> rcases (show u.size < 4 ∨ (4 ≤ u.size ∧ u.size < 6) ∨ 6 ≤ u.size by omega) with h | ⟨h, h'⟩ | h
  · have g6 : u.size < 6 := by omega
    have k4 : decide (4 ≤ u.size) = false := decide_eq_false (by omega)
    have k6 : decide (6 ≤ u.size) = false := decide_eq_false (by omega)
    replace hbg := Lib.hid (And.intro (show bg = false by rw [hbg, e6, e4, k4, k6]; rfl) trivial)
    clear k4 k6
    go_enter Tryd.func16, Tryd.ntmps16
    go_wp2_with (first
      | (go_at_call 28; refine hlow.mono ?_; rintro e w' ⟨rfl, hb⟩)
      | (go_at_call 22; refine (hin.out _ _ rfl _ rfl).mono ?_; rintro e w2 ⟨rfl, hw⟩; subst hw))
    go_ret
    exact ⟨ret_bool (by rw [hbg.out.1, Bool.or_false]), below_then hb (below_box _ _)⟩
  · have k4 : decide (4 ≤ u.size) = true := decide_eq_true (by omega)
    have k6 : decide (6 ≤ u.size) = false := decide_eq_false (by omega)
    replace hbg := Lib.hid (And.intro (show bg = false by rw [hbg, e6, e4, k4, k6]; rfl) trivial)
    clear k4 k6
    go_enter Tryd.func16, Tryd.ntmps16
    go_wp2_with (first
      | (go_at_call 28; refine hlow.mono ?_; rintro e w' ⟨rfl, hb⟩)
      | (go_at_call 22; refine (hin.out _ _ rfl _ rfl).mono ?_; rintro e w2 ⟨rfl, hw⟩; subst hw))
    go_ret
    exact ⟨ret_bool (by rw [hbg.out.1, Bool.or_false]), below_then hb (below_box _ _)⟩
  · have g4 : 4 ≤ u.size := by omega
    have k4 : decide (4 ≤ u.size) = true := decide_eq_true (by omega)
    have k6 : decide (6 ≤ u.size) = true := decide_eq_true (by omega)
    replace hbg := Lib.hid (And.intro (show bg = false by rw [hbg, e6, e4, k4, k6]; rfl) trivial)
    clear k4 k6
    go_enter Tryd.func16, Tryd.ntmps16
    go_wp2_with (first
      | (go_at_call 28; refine hlow.mono ?_; rintro e w' ⟨rfl, hb⟩)
      | (go_at_call 22; refine (hin.out _ _ rfl _ rfl).mono ?_; rintro e w2 ⟨rfl, hw⟩; subst hw))
    go_ret
    exact ⟨ret_bool (by rw [hbg.out.1, Bool.or_false]), below_then hb (below_box _ _)⟩
  · have g6 : u.size < 6 := by omega
    have k4 : decide (4 ≤ u.size) = false := decide_eq_false (by omega)
    have k6 : decide (6 ≤ u.size) = false := decide_eq_false (by omega)
    replace hbg := Lib.hid (And.intro (show bg = false by rw [hbg, e6, e4, k4, k6]; rfl) trivial)
    clear k4 k6
    go_enter Tryd.func16, Tryd.ntmps16
    go_wp2_with (first
      | (go_at_call 28; refine hlow.mono ?_; rintro e w' ⟨rfl, hb⟩)
      | (go_at_call 22; refine (hin.out _ _ rfl _ rfl).mono ?_; rintro e w2 ⟨rfl, hw⟩; subst hw))
    go_ret
    exact ⟨ret_bool (by rw [hbg.out.1, Bool.or_false]), below_then hb (below_box _ _)⟩
  · have k4 : decide (4 ≤ u.size) = true := decide_eq_true (by omega)
    have k6 : decide (6 ≤ u.size) = false := decide_eq_false (by omega)
    replace hbg := Lib.hid (And.intro (show bg = true by rw [hbg, e6, e4, k4, k6]; rfl) trivial)
    clear k4 k6
    go_enter Tryd.func16, Tryd.ntmps16
    go_wp2_with (first
      | (go_at_call 28; refine hlow.mono ?_; rintro e w' ⟨rfl, hb⟩)
      | (go_at_call 22; refine (hin.out _ _ rfl _ rfl).mono ?_; rintro e w2 ⟨rfl, hw⟩; subst hw))
    go_ret
    exact ⟨ret_bool (by rw [hbg.out.1, Bool.or_true]), hb⟩
  · have g4 : 4 ≤ u.size := by omega
    have k4 : decide (4 ≤ u.size) = true := decide_eq_true (by omega)
    have k6 : decide (6 ≤ u.size) = true := decide_eq_true (by omega)
    replace hbg := Lib.hid (And.intro (show bg = true by rw [hbg, e6, e4, k4, k6]; rfl) trivial)
    clear k4 k6
    go_enter Tryd.func16, Tryd.ntmps16
    go_wp2_with (first
      | (go_at_call 28; refine hlow.mono ?_; rintro e w' ⟨rfl, hb⟩)
      | (go_at_call 22; refine (hin.out _ _ rfl _ rfl).mono ?_; rintro e w2 ⟨rfl, hw⟩; subst hw))
    go_ret
    exact ⟨ret_bool (by rw [hbg.out.1, Bool.or_true]), hb⟩
  · have g6 : u.size < 6 := by omega
    have k4 : decide (4 ≤ u.size) = false := decide_eq_false (by omega)
    have k6 : decide (6 ≤ u.size) = false := decide_eq_false (by omega)
    replace hbg := Lib.hid (And.intro (show bg = false by rw [hbg, e6, e4, k4, k6]; rfl) trivial)
    clear k4 k6
    go_enter Tryd.func16, Tryd.ntmps16
    go_wp2_with (first
      | (go_at_call 28; refine hlow.mono ?_; rintro e w' ⟨rfl, hb⟩)
      | (go_at_call 22; refine (hin.out _ _ rfl _ rfl).mono ?_; rintro e w2 ⟨rfl, hw⟩; subst hw))
    go_ret
    exact ⟨ret_bool (by rw [hbg.out.1, Bool.or_false]), below_then hb (below_box _ _)⟩
  · have k4 : decide (4 ≤ u.size) = true := decide_eq_true (by omega)
    have k6 : decide (6 ≤ u.size) = false := decide_eq_false (by omega)
    replace hbg := Lib.hid (And.intro (show bg = false by rw [hbg, e6, e4, k4, k6]; rfl) trivial)
    clear k4 k6
    go_enter Tryd.func16, Tryd.ntmps16
    go_wp2_with (first
      | (go_at_call 28; refine hlow.mono ?_; rintro e w' ⟨rfl, hb⟩)
      | (go_at_call 22; refine (hin.out _ _ rfl _ rfl).mono ?_; rintro e w2 ⟨rfl, hw⟩; subst hw))
    go_ret
    exact ⟨ret_bool (by rw [hbg.out.1, Bool.or_false]), below_then hb (below_box _ _)⟩
  · have g4 : 4 ≤ u.size := by omega
    have k4 : decide (4 ≤ u.size) = true := decide_eq_true (by omega)
    have k6 : decide (6 ≤ u.size) = true := decide_eq_true (by omega)
    replace hbg := Lib.hid (And.intro (show bg = true by rw [hbg, e6, e4, k4, k6]; rfl) trivial)
    clear k4 k6
    go_enter Tryd.func16, Tryd.ntmps16
    go_wp2_with (first
      | (go_at_call 28; refine hlow.mono ?_; rintro e w' ⟨rfl, hb⟩)
      | (go_at_call 22; refine (hin.out _ _ rfl _ rfl).mono ?_; rintro e w2 ⟨rfl, hw⟩; subst hw))
    go_ret
    exact ⟨ret_bool (by rw [hbg.out.1, Bool.or_true]), hb⟩
  · have g6 : u.size < 6 := by omega
    have k4 : decide (4 ≤ u.size) = false := decide_eq_false (by omega)
    have k6 : decide (6 ≤ u.size) = false := decide_eq_false (by omega)
    replace hbg := Lib.hid (And.intro (show bg = false by rw [hbg, e6, e4, k4, k6]; rfl) trivial)
    clear k4 k6
    go_enter Tryd.func16, Tryd.ntmps16
    go_wp2_with (first
      | (go_at_call 28; refine hlow.mono ?_; rintro e w' ⟨rfl, hb⟩)
      | (go_at_call 22; refine (hin.out _ _ rfl _ rfl).mono ?_; rintro e w2 ⟨rfl, hw⟩; subst hw))
    go_ret
    exact ⟨ret_bool (by rw [hbg.out.1, Bool.or_false]), below_then hb (below_box _ _)⟩
  · have k4 : decide (4 ≤ u.size) = true := decide_eq_true (by omega)
    have k6 : decide (6 ≤ u.size) = false := decide_eq_false (by omega)
    replace hbg := Lib.hid (And.intro (show bg = true by rw [hbg, e6, e4, k4, k6]; rfl) trivial)
    clear k4 k6
    go_enter Tryd.func16, Tryd.ntmps16
    go_wp2_with (first
      | (go_at_call 28; refine hlow.mono ?_; rintro e w' ⟨rfl, hb⟩)
      | (go_at_call 22; refine (hin.out _ _ rfl _ rfl).mono ?_; rintro e w2 ⟨rfl, hw⟩; subst hw))
    go_ret
    exact ⟨ret_bool (by rw [hbg.out.1, Bool.or_true]), hb⟩
  · have g4 : 4 ≤ u.size := by omega
    have k4 : decide (4 ≤ u.size) = true := decide_eq_true (by omega)
    have k6 : decide (6 ≤ u.size) = true := decide_eq_true (by omega)
    replace hbg := Lib.hid (And.intro (show bg = true by rw [hbg, e6, e4, k4, k6]; rfl) trivial)
    clear k4 k6
    go_enter Tryd.func16, Tryd.ntmps16
    go_wp2_with (first
      | (go_at_call 28; refine hlow.mono ?_; rintro e w' ⟨rfl, hb⟩)
      | (go_at_call 22; refine (hin.out _ _ rfl _ rfl).mono ?_; rintro e w2 ⟨rfl, hw⟩; subst hw))
    go_ret
    exact ⟨ret_bool (by rw [hbg.out.1, Bool.or_true]), hb⟩
end Go.Proofs.YtdnificbbmnnhaaDoor
