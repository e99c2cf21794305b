/-
  The walk of the statement HeadChanges: for any list of headers, header and names it returns true, and nothing that was there is changed. Condition: the names' and values' bytes, together with the numbers of headers, are at most 1048576, and so are the names'.
-/
import Derived.Test.YtklbikafkdjgpaaDoorHeadAwake
namespace Go.Proofs.YtklbikafkdjgpaaDoor
open Go.RowKit Go.Lib Go.Shelf

theorem enters_awake9 (vs : Array Value) (w : World) : (callFunc 6 vs).run Tryd.prog w = .ok (.enter 6 vs) w := by kernel_rfl
theorem enters_set (vs : Array Value) (w : World) : (callFunc 17 vs).run Tryd.prog w = .ok (.enter 17 vs) w := by kernel_rfl
theorem enters_rset (vs : Array Value) (w : World) : (callFunc 18 vs).run Tryd.prog w = .ok (.enter 18 vs) w := by kernel_rfl
theorem enters_rdrop (vs : Array Value) (w : World) : (callFunc 20 vs).run Tryd.prog w = .ok (.enter 20 vs) w := by kernel_rfl
theorem enters_same9 (vs : Array Value) (w : World) : (callFunc 16 vs).run Tryd.prog w = .ok (.enter 16 vs) w := by kernel_rfl
theorem run_eqS (x y : Operand) (s : ByteArray) (w : World) : (do eqGuard .eql 9 x y (.string s) (.string s); binOp .eql 9 (.string s) (.string s) : Sem Value).run Tryd.prog w = .ok (.bool true) w := by go_simp
theorem run_eqB (x y : Operand) (b : Bool) (w : World) : (do eqGuard .eql 4 x y (.bool b) (.bool b); binOp .eql 4 (.bool b) (.bool b) : Sem Value).run Tryd.prog w = .ok (.bool true) w := by go_simp

theorem fits_of {l : List Hd} {B B' : Nat} (h : bytesIn l ≤ B) (hB : B ≤ B') : Short B' l := fun x hx => by
  have := bytesIn_mem hx
  omega

/-- What the slots of the last statement hold. -/
def hcF (A : Option Addr) (n c : Nat) (A2 : Option Addr) (n6 c2 : Nat) (x y : ByteArray) (l : List Hd) (ns : List ByteArray) (t : ByteArray) (b : Bool) (j : Nat) (v : Value) (w : World) : Prop :=
  match j with
  | 0 => v = .bool true
  | 1 => v = .bool true
  | 2 => v = .string t
  | 3 => v = .string t
  | 4 => v = .bool true
  | 5 => v = .bool true
  | 6 => v = .bool true
  | 7 => v = .bool b
  | 8 => v = .bool b
  | 9 => v = .bool true
  | 10 => v = .bool true
  | 11 => v = .bool true
  | 12 => v = .slice A n c
  | 13 => v = .agg #[.string x, .string y]
  | 14 => HH (setOf l (x, y)) v w
  | 15 => v = .slice A n c
  | 16 => v = .agg #[.string x, .string y]
  | 17 => HH (setOf l (x, y)) v w
  | 18 => v = .bool true
  | 19 => v = .bool true
  | 20 => v = .bool true
  | 21 => v = .slice A n c
  | 22 => v = .slice A2 n6 c2
  | 23 => HH (without ns l) v w
  | 24 => v = .slice A n c
  | 25 => v = .slice A2 n6 c2
  | 26 => HH (without ns l) v w
  | 27 => v = .bool true
  | 28 => v = .bool true
  | 29 => v = .bool true
  | _ => True
theorem hcF_later {A : Option Addr} {n c : Nat} {A2 : Option Addr} {n6 c2 : Nat} {x y : ByteArray} {l : List Hd} {ns : List ByteArray} {t : ByteArray} {b : Bool} : Outlives (hcF A n c A2 n6 c2 x y l ns t b) := by
  intro j v w w' h hk
  unfold hcF at h ⊢
  split at h
  all_goals first | exact h.keeps hk | exact h

set_option maxHeartbeats 4000000 in
set_option maxRecDepth 100000 in
theorem headChanges_law (A : Option Addr) (n0 c : Nat) (l0 : List Hd) (x y : ByteArray) (A2 : Option Addr) (n2 c2 : Nat) (ns0 : List ByteArray) (w : World) (h : Hds w A n0 c l0) (hb0 : bytesIn l0 ≤ 1048576) (hxy : x.size + y.size + 1 ≤ 1048576)
    (hS : Strs w A2 n2 c2 ns0) (hn0 : ∀ z ∈ ns0, z.size ≤ 1048576) :
    Calls Tryd.prog 4 #[.slice A n0 c, .agg #[.string x, .string y], .slice A2 n2 c2] w (Yes w) := by
  have h30 := Lib.hid h.few
  have hbl : bytesIn (l0.take 30) ≤ 1048576 := Nat.le_trans (bytesIn_take _ _) hb0
  have hfew := Lib.hid (fun W (hb : Below w.heap.size w W) => few_any A n0 c l0 W (h.later hb))
  have hn30 : min n0 30 ≤ 30 := Nat.min_le_right _ _
  clear h hb0
  generalize l0.take 30 = l at h30 hbl
  generalize min n0 30 = n at h30 hfew hn30
  have hBm := Lib.hid (show Short maxLen l from fits_of hbl (by simp only [maxLen]; omega))
  have hBf := Lib.hid (show Fits l from fits_of hbl (by omega))
  have hxm := Lib.hid (show x.size ≤ maxLen by simp only [maxLen]; omega)
  have hxf := Lib.hid (show x.size ≤ 140737488351232 by omega)
  have hjl := joined_len x l
  have hget := Lib.hid (fun W (hb : Below w.heap.size w W) => get_any A n c l x W (h30.out.later hb) (by omega) hBm.out hxm.out (by omega))
  have hrget := Lib.hid (fun W (hb : Below w.heap.size w W) => refGet_any A n c l x W (h30.out.later hb) hBf.out hxf.out (by omega))
  clear hjl hbl
  generalize mk (joined (vals x l)) = t at hget hrget
  generalize decide (0 < (vals x l).length) = b at hget hrget
  have hbx : Hid ((w.alloc (.cells #[.string x, .string y] 29)).cell? ⟨w.heap.size, 0, Option.none⟩ = some (.string x)) := Lib.hid (by simp)
  have hby : Hid ((w.alloc (.cells #[.string x, .string y] 29)).cell? ⟨w.heap.size, 0 + 1, Option.none⟩ = some (.string y)) := Lib.hid (by simp)
  have hc2 : c2 ≤ 9223372036854775807 := by have := hS.room; unfold maxLen at this; exact this
  have hcap := hS.cap
  by_cases h6 : 6 < n2
  · have hS6 := Lib.hid (hS.front (k := 6) (by omega))
    have hnm := Lib.hid (show ∀ z ∈ ns0.take 6, z.size ≤ maxLen from fun z hz => by have := hn0 z (List.mem_of_mem_take hz); simp only [maxLen]; omega)
    have hnf := Lib.hid (show ∀ z ∈ ns0.take 6, z.size ≤ 140737488351232 from fun z hz => by have := hn0 z (List.mem_of_mem_take hz); omega)
    have hA2 : ∃ b2 off2, A2 = some ⟨b2, off2, Option.none⟩ := by obtain ⟨b2, off2, e, _⟩ := hS.cell (by omega); exact ⟨b2, off2, e⟩
    obtain ⟨b2, off2, rfl⟩ := hA2
    clear hS hn0
    generalize ns0.take 6 = ns at hS6 hnm hnf
    obtain ⟨n6, hn6⟩ : ∃ n6 : Nat, n6 = 6 := ⟨_, rfl⟩
    rw [← hn6] at hS6
    have h66 : n6 ≤ 6 := by omega
    have hn6' := Lib.hid hn6
    clear hn6
    go_enter Tryd.func4, Tryd.ntmps4
    go_wp2_with (first
      | (go_at_call 8; refine (hfew.out _ (below_box w _)).mono ?_; rintro e w' ⟨rfl, hw⟩; subst hw)
      | (go_at_call 14; refine (hget.out _ (below_box w _)).mono ?_; rintro e w3 ⟨rfl, hb3⟩; have hcx := cell_later hb3 (hbx.out); have hb13 := below_then (below_box w _) hb3)
      | (go_at_call 15; refine (hrget.out w3 hb13).mono ?_; rintro e w4 ⟨rfl, hb34⟩))
    have hx4 : w4.cell? ⟨w.heap.size, 0, Option.none⟩ = some (.string x) := cell_later hb34 hcx
    have hy4 : w4.cell? ⟨w.heap.size, 0 + 1, Option.none⟩ = some (.string y) := cell_later hb34 (cell_later hb3 hby.out)
    have hb4 := Lib.hid (below_then hb13 hb34)
    have H4 := Lib.hid (h30.out.later hb4.out)
    have S4 := Lib.hid (hS6.out.later hb4.out)
    clear hb3 hb13 hb34 hcx hget hrget hfew
    have h8 : Hid (Value.slice (some ⟨b2, off2, Option.none⟩) 6 c2 = .slice (some ⟨b2, off2, Option.none⟩) n6 c2) := Lib.hid (by rw [hn6'.out])
    refine wp_region_each (RInv 64 [35, 36, 37, 38, 39, 40, 41, 42, 43, 44, 45, 46, 47, 48, 49, 50, 51, 52, 53, 54, 55, 56, 57, 58, 59, 60, 61, 62, 63, 6] _ (hcF A n c (some ⟨b2, off2, Option.none⟩) n6 c2 x y l ns t b) w4 NoMore) (by kernel_rfl) (by kernel_rfl) (RInv.start rfl trivial (Below.refl _ _).drew) ?_ ?_
    · intro i hi D a w1 hI hcl hnd hpre
      have hi' : i < 30 := hi
      have hcase : i = 0 ∨ i = 1 ∨ i = 2 ∨ i = 3 ∨ i = 4 ∨ i = 5 ∨ i = 6 ∨ i = 7 ∨ i = 8 ∨ i = 9 ∨ i = 10 ∨ i = 11 ∨ i = 12 ∨ i = 13 ∨ i = 14 ∨ i = 15 ∨ i = 16 ∨ i = 17 ∨ i = 18 ∨ i = 19 ∨ i = 20 ∨ i = 21 ∨ i = 22 ∨ i = 23 ∨ i = 24 ∨ i = 25 ∨ i = 26 ∨ i = 27 ∨ i = 28 ∨ i = 29 := by omega
      have hF := hI.fact
      rcases hcase with rfl | rfl | rfl | rfl | rfl | rfl | rfl | rfl | rfl | rfl | rfl | rfl | rfl | rfl | rfl | rfl | rfl | rfl | rfl | rfl | rfl | rfl | rfl | rfl | rfl | rfl | rfl | rfl | rfl | rfl
      · exact wpOp_call0 rfl (wanted_free rfl) 6 _ rfl (enters_awake9 _ _) (awake9_any w1) (fun e w' h => ⟨_, h.1, hI.add (by decide) hcF_later (by decide) h.2 rfl⟩)
      · exact wpOp_move rfl (wanted_free rfl) _ rfl _ (hF 0 (hpre 0 (by kernel_rfl))) (hI.add (by decide) hcF_later (by decide) (Below.refl _ _) rfl)
      · have g1 := hF 1 (hpre 1 (by kernel_rfl))
        exact wpOp_move rfl (wanted_by (d := 36) rfl _ rfl rfl g1) _ rfl _ (hI.same 9 (by decide)) (hI.add (by decide) hcF_later (by decide) (Below.refl _ _) rfl)
      · have g1 := hF 1 (hpre 1 (by kernel_rfl))
        exact wpOp_move rfl (wanted_by (d := 36) rfl _ rfl rfl g1) _ rfl _ (hI.same 11 (by decide)) (hI.add (by decide) hcF_later (by decide) (Below.refl _ _) rfl)
      · have g1 := hF 1 (hpre 1 (by kernel_rfl))
        exact wpOp_bin rfl (wanted_by (d := 36) rfl _ rfl rfl g1) _ _ _ _ _ rfl _ _ _ (hF 2 (hpre 2 (by kernel_rfl))) (hF 3 (hpre 3 (by kernel_rfl))) (run_eqS _ _ _ w1) (hI.add (by decide) hcF_later (by decide) (Below.refl _ _) rfl)
      · exact wpOp_pick rfl (wanted_free rfl) _ _ _ rfl true (hF 1 (hpre 1 (by kernel_rfl))) _ (hF 4 (hpre 4 (by kernel_rfl))) (hI.add (by decide) hcF_later (by decide) (Below.refl _ _) rfl)
      · exact wpOp_move rfl (wanted_free rfl) _ rfl _ (hF 5 (hpre 5 (by kernel_rfl))) (hI.add (by decide) hcF_later (by decide) (Below.refl _ _) rfl)
      · have g6 := hF 6 (hpre 6 (by kernel_rfl))
        exact wpOp_move rfl (wanted_by (d := 41) rfl _ rfl rfl g6) _ rfl _ (hI.same 10 (by decide)) (hI.add (by decide) hcF_later (by decide) (Below.refl _ _) rfl)
      · have g6 := hF 6 (hpre 6 (by kernel_rfl))
        exact wpOp_move rfl (wanted_by (d := 41) rfl _ rfl rfl g6) _ rfl _ (hI.same 12 (by decide)) (hI.add (by decide) hcF_later (by decide) (Below.refl _ _) rfl)
      · have g6 := hF 6 (hpre 6 (by kernel_rfl))
        exact wpOp_bin rfl (wanted_by (d := 41) rfl _ rfl rfl g6) _ _ _ _ _ rfl _ _ _ (hF 7 (hpre 7 (by kernel_rfl))) (hF 8 (hpre 8 (by kernel_rfl))) (run_eqB _ _ _ w1) (hI.add (by decide) hcF_later (by decide) (Below.refl _ _) rfl)
      · exact wpOp_pick rfl (wanted_free rfl) _ _ _ rfl true (hF 6 (hpre 6 (by kernel_rfl))) _ (hF 9 (hpre 9 (by kernel_rfl))) (hI.add (by decide) hcF_later (by decide) (Below.refl _ _) rfl)
      · exact wpOp_move rfl (wanted_free rfl) _ rfl _ (hF 10 (hpre 10 (by kernel_rfl))) (hI.add (by decide) hcF_later (by decide) (Below.refl _ _) rfl)
      · have g11 := hF 11 (hpre 11 (by kernel_rfl))
        exact wpOp_move rfl (wanted_by (d := 46) rfl _ rfl rfl g11) _ rfl _ (hI.same 7 (by decide)) (hI.add (by decide) hcF_later (by decide) (Below.refl _ _) rfl)
      · have g11 := hF 11 (hpre 11 (by kernel_rfl))
        exact wpOp_load rfl (wanted_by (d := 46) rfl _ rfl rfl g11) _ _ rfl _ _ (hI.same 4 (by decide)) (run_loadH w1 w.heap.size 0 x y (cell_later hI.below hx4) (cell_later hI.below hy4)) (hI.add (by decide) hcF_later (by decide) (Below.refl _ _) rfl)
      · have g11 := hF 11 (hpre 11 (by kernel_rfl))
        refine wpOp_call2 rfl (wanted_by (d := 46) rfl _ rfl rfl g11) 17 _ _ _ rfl _ _ (hF 12 (hpre 12 (by kernel_rfl))) (hF 13 (hpre 13 (by kernel_rfl))) (enters_set _ _) (set_any A n c l x y w1 (H4.out.later hI.below) (by omega) hBm.out hxm.out) (fun e w' h => ?_)
        obtain ⟨v, rfl, ho, hb⟩ := h
        exact ⟨_, rfl, hI.add (by decide) hcF_later (by decide) hb ho⟩
      · have g11 := hF 11 (hpre 11 (by kernel_rfl))
        exact wpOp_move rfl (wanted_by (d := 46) rfl _ rfl rfl g11) _ rfl _ (hI.same 7 (by decide)) (hI.add (by decide) hcF_later (by decide) (Below.refl _ _) rfl)
      · have g11 := hF 11 (hpre 11 (by kernel_rfl))
        exact wpOp_load rfl (wanted_by (d := 46) rfl _ rfl rfl g11) _ _ rfl _ _ (hI.same 4 (by decide)) (run_loadH w1 w.heap.size 0 x y (cell_later hI.below hx4) (cell_later hI.below hy4)) (hI.add (by decide) hcF_later (by decide) (Below.refl _ _) rfl)
      · have g11 := hF 11 (hpre 11 (by kernel_rfl))
        refine wpOp_call2 rfl (wanted_by (d := 46) rfl _ rfl rfl g11) 18 _ _ _ rfl _ _ (hF 15 (hpre 15 (by kernel_rfl))) (hF 16 (hpre 16 (by kernel_rfl))) (enters_rset _ _) (refSet_any A n c l x y w1 (H4.out.later hI.below) (by omega) hBf.out hxf.out) (fun e w' h => ?_)
        obtain ⟨v, rfl, ho, hb⟩ := h
        exact ⟨_, rfl, hI.add (by decide) hcF_later (by decide) hb ho⟩
      · have g11 := hF 11 (hpre 11 (by kernel_rfl))
        obtain ⟨B1, m1, d1, h1, T1⟩ := (hF 14 (hpre 14 (by kernel_rfl)))
        obtain ⟨B2, m2, d2, h2, T2⟩ := (hF 17 (hpre 17 (by kernel_rfl)))
        exact wpOp_call2 rfl (wanted_by (d := 46) rfl _ rfl rfl g11) 16 _ _ _ rfl _ _ h1 h2 (enters_same9 _ _) (same9_any B1 B2 m1 m2 d1 d2 _ w1 T1 T2) (fun e w' h => ⟨_, h.1, hI.add (by decide) hcF_later (by decide) h.2 rfl⟩)
      · exact wpOp_pick rfl (wanted_free rfl) _ _ _ rfl true (hF 11 (hpre 11 (by kernel_rfl))) _ (hF 18 (hpre 18 (by kernel_rfl))) (hI.add (by decide) hcF_later (by decide) (Below.refl _ _) rfl)
      · exact wpOp_move rfl (wanted_free rfl) _ rfl _ (hF 19 (hpre 19 (by kernel_rfl))) (hI.add (by decide) hcF_later (by decide) (Below.refl _ _) rfl)
      · have g20 := hF 20 (hpre 20 (by kernel_rfl))
        exact wpOp_move rfl (wanted_by (d := 55) rfl _ rfl rfl g20) _ rfl _ (hI.same 7 (by decide)) (hI.add (by decide) hcF_later (by decide) (Below.refl _ _) rfl)
      · have g20 := hF 20 (hpre 20 (by kernel_rfl))
        exact wpOp_move rfl (wanted_by (d := 55) rfl _ rfl rfl g20) _ rfl _ ((hI.same 8 (by decide)).trans h8.out) (hI.add (by decide) hcF_later (by decide) (Below.refl _ _) rfl)
      · have g20 := hF 20 (hpre 20 (by kernel_rfl))
        refine wpOp_call2 rfl (wanted_by (d := 55) rfl _ rfl rfl g20) 19 _ _ _ rfl _ _ (hF 21 (hpre 21 (by kernel_rfl))) (hF 22 (hpre 22 (by kernel_rfl))) (enters_drop _ _) (drop_any A _ n c n6 c2 l ns w1 (H4.out.later hI.below) (S4.out.later hI.below) (by omega) (by omega) hBm.out hnm.out) (fun e w' h => ?_)
        obtain ⟨v, rfl, ho, hb⟩ := h
        exact ⟨_, rfl, hI.add (by decide) hcF_later (by decide) hb ho.hh⟩
      · have g20 := hF 20 (hpre 20 (by kernel_rfl))
        exact wpOp_move rfl (wanted_by (d := 55) rfl _ rfl rfl g20) _ rfl _ (hI.same 7 (by decide)) (hI.add (by decide) hcF_later (by decide) (Below.refl _ _) rfl)
      · have g20 := hF 20 (hpre 20 (by kernel_rfl))
        exact wpOp_move rfl (wanted_by (d := 55) rfl _ rfl rfl g20) _ rfl _ ((hI.same 8 (by decide)).trans h8.out) (hI.add (by decide) hcF_later (by decide) (Below.refl _ _) rfl)
      · have g20 := hF 20 (hpre 20 (by kernel_rfl))
        refine wpOp_call2 rfl (wanted_by (d := 55) rfl _ rfl rfl g20) 20 _ _ _ rfl _ _ (hF 24 (hpre 24 (by kernel_rfl))) (hF 25 (hpre 25 (by kernel_rfl))) (enters_rdrop _ _) (refDrop_any A _ n c n6 c2 l ns w1 (H4.out.later hI.below) (S4.out.later hI.below) (by omega) (by omega) hBf.out hnf.out) (fun e w' h => ?_)
        obtain ⟨v, rfl, ho, hb⟩ := h
        exact ⟨_, rfl, hI.add (by decide) hcF_later (by decide) hb ho.hh⟩
      · have g20 := hF 20 (hpre 20 (by kernel_rfl))
        obtain ⟨B1, m1, d1, h1, T1⟩ := (hF 23 (hpre 23 (by kernel_rfl)))
        obtain ⟨B2, m2, d2, h2, T2⟩ := (hF 26 (hpre 26 (by kernel_rfl)))
        exact wpOp_call2 rfl (wanted_by (d := 55) rfl _ rfl rfl g20) 16 _ _ _ rfl _ _ h1 h2 (enters_same9 _ _) (same9_any B1 B2 m1 m2 d1 d2 _ w1 T1 T2) (fun e w' h => ⟨_, h.1, hI.add (by decide) hcF_later (by decide) h.2 rfl⟩)
      · exact wpOp_pick rfl (wanted_free rfl) _ _ _ rfl true (hF 20 (hpre 20 (by kernel_rfl))) _ (hF 27 (hpre 27 (by kernel_rfl))) (hI.add (by decide) hcF_later (by decide) (Below.refl _ _) rfl)
      · exact wpOp_assign rfl (wanted_free rfl) _ rfl _ (hF 28 (hpre 28 (by kernel_rfl))) (hI.add (by decide) hcF_later (by decide) (Below.refl _ _) rfl)
    · intro D a w1 hI hall
      have fz : a.eval (.tmp 6) = .bool true := hI.fact 29 (hall 29 (by decide))
      have hd := hI.defs
      have hB := hI.below
      clear hall
      go_wp2
      refine bodyPost_ret (results_tmp rfl a.tmps _ _) hd ⟨?_, below_then hb4.out hB⟩
      show Ending.returned (a.eval (.tmp 6)) = _
      rw [fz]
  · have hS6 := Lib.hid hS
    have hnm := Lib.hid (show ∀ z ∈ ns0, z.size ≤ maxLen from fun z hz => by have := hn0 z hz; simp only [maxLen]; omega)
    have hnf := Lib.hid (show ∀ z ∈ ns0, z.size ≤ 140737488351232 from fun z hz => by have := hn0 z hz; omega)
    clear hS hn0
    go_enter Tryd.func4, Tryd.ntmps4
    go_wp2_with (first
      | (go_at_call 8; refine (hfew.out _ (below_box w _)).mono ?_; rintro e w' ⟨rfl, hw⟩; subst hw)
      | (go_at_call 14; refine (hget.out _ (below_box w _)).mono ?_; rintro e w3 ⟨rfl, hb3⟩; have hcx := cell_later hb3 (hbx.out); have hb13 := below_then (below_box w _) hb3)
      | (go_at_call 15; refine (hrget.out w3 hb13).mono ?_; rintro e w4 ⟨rfl, hb34⟩))
    have hx4 : w4.cell? ⟨w.heap.size, 0, Option.none⟩ = some (.string x) := cell_later hb34 hcx
    have hy4 : w4.cell? ⟨w.heap.size, 0 + 1, Option.none⟩ = some (.string y) := cell_later hb34 (cell_later hb3 hby.out)
    have hb4 := Lib.hid (below_then hb13 hb34)
    have H4 := Lib.hid (h30.out.later hb4.out)
    have S4 := Lib.hid (hS6.out.later hb4.out)
    clear hb3 hb13 hb34 hcx hget hrget hfew
    have h8 : Hid (Value.slice A2 n2 c2 = .slice A2 n2 c2) := Lib.hid rfl
    refine wp_region_each (RInv 64 [35, 36, 37, 38, 39, 40, 41, 42, 43, 44, 45, 46, 47, 48, 49, 50, 51, 52, 53, 54, 55, 56, 57, 58, 59, 60, 61, 62, 63, 6] _ (hcF A n c A2 n2 c2 x y l ns0 t b) w4 NoMore) (by kernel_rfl) (by kernel_rfl) (RInv.start rfl trivial (Below.refl _ _).drew) ?_ ?_
    · intro i hi D a w1 hI hcl hnd hpre
      have hi' : i < 30 := hi
      have hcase : i = 0 ∨ i = 1 ∨ i = 2 ∨ i = 3 ∨ i = 4 ∨ i = 5 ∨ i = 6 ∨ i = 7 ∨ i = 8 ∨ i = 9 ∨ i = 10 ∨ i = 11 ∨ i = 12 ∨ i = 13 ∨ i = 14 ∨ i = 15 ∨ i = 16 ∨ i = 17 ∨ i = 18 ∨ i = 19 ∨ i = 20 ∨ i = 21 ∨ i = 22 ∨ i = 23 ∨ i = 24 ∨ i = 25 ∨ i = 26 ∨ i = 27 ∨ i = 28 ∨ i = 29 := by omega
      have hF := hI.fact
      rcases hcase with rfl | rfl | rfl | rfl | rfl | rfl | rfl | rfl | rfl | rfl | rfl | rfl | rfl | rfl | rfl | rfl | rfl | rfl | rfl | rfl | rfl | rfl | rfl | rfl | rfl | rfl | rfl | rfl | rfl | rfl
      · exact wpOp_call0 rfl (wanted_free rfl) 6 _ rfl (enters_awake9 _ _) (awake9_any w1) (fun e w' h => ⟨_, h.1, hI.add (by decide) hcF_later (by decide) h.2 rfl⟩)
      · exact wpOp_move rfl (wanted_free rfl) _ rfl _ (hF 0 (hpre 0 (by kernel_rfl))) (hI.add (by decide) hcF_later (by decide) (Below.refl _ _) rfl)
      · have g1 := hF 1 (hpre 1 (by kernel_rfl))
        exact wpOp_move rfl (wanted_by (d := 36) rfl _ rfl rfl g1) _ rfl _ (hI.same 9 (by decide)) (hI.add (by decide) hcF_later (by decide) (Below.refl _ _) rfl)
      · have g1 := hF 1 (hpre 1 (by kernel_rfl))
        exact wpOp_move rfl (wanted_by (d := 36) rfl _ rfl rfl g1) _ rfl _ (hI.same 11 (by decide)) (hI.add (by decide) hcF_later (by decide) (Below.refl _ _) rfl)
      · have g1 := hF 1 (hpre 1 (by kernel_rfl))
        exact wpOp_bin rfl (wanted_by (d := 36) rfl _ rfl rfl g1) _ _ _ _ _ rfl _ _ _ (hF 2 (hpre 2 (by kernel_rfl))) (hF 3 (hpre 3 (by kernel_rfl))) (run_eqS _ _ _ w1) (hI.add (by decide) hcF_later (by decide) (Below.refl _ _) rfl)
      · exact wpOp_pick rfl (wanted_free rfl) _ _ _ rfl true (hF 1 (hpre 1 (by kernel_rfl))) _ (hF 4 (hpre 4 (by kernel_rfl))) (hI.add (by decide) hcF_later (by decide) (Below.refl _ _) rfl)
      · exact wpOp_move rfl (wanted_free rfl) _ rfl _ (hF 5 (hpre 5 (by kernel_rfl))) (hI.add (by decide) hcF_later (by decide) (Below.refl _ _) rfl)
      · have g6 := hF 6 (hpre 6 (by kernel_rfl))
        exact wpOp_move rfl (wanted_by (d := 41) rfl _ rfl rfl g6) _ rfl _ (hI.same 10 (by decide)) (hI.add (by decide) hcF_later (by decide) (Below.refl _ _) rfl)
      · have g6 := hF 6 (hpre 6 (by kernel_rfl))
        exact wpOp_move rfl (wanted_by (d := 41) rfl _ rfl rfl g6) _ rfl _ (hI.same 12 (by decide)) (hI.add (by decide) hcF_later (by decide) (Below.refl _ _) rfl)
      · have g6 := hF 6 (hpre 6 (by kernel_rfl))
        exact wpOp_bin rfl (wanted_by (d := 41) rfl _ rfl rfl g6) _ _ _ _ _ rfl _ _ _ (hF 7 (hpre 7 (by kernel_rfl))) (hF 8 (hpre 8 (by kernel_rfl))) (run_eqB _ _ _ w1) (hI.add (by decide) hcF_later (by decide) (Below.refl _ _) rfl)
      · exact wpOp_pick rfl (wanted_free rfl) _ _ _ rfl true (hF 6 (hpre 6 (by kernel_rfl))) _ (hF 9 (hpre 9 (by kernel_rfl))) (hI.add (by decide) hcF_later (by decide) (Below.refl _ _) rfl)
      · exact wpOp_move rfl (wanted_free rfl) _ rfl _ (hF 10 (hpre 10 (by kernel_rfl))) (hI.add (by decide) hcF_later (by decide) (Below.refl _ _) rfl)
      · have g11 := hF 11 (hpre 11 (by kernel_rfl))
        exact wpOp_move rfl (wanted_by (d := 46) rfl _ rfl rfl g11) _ rfl _ (hI.same 7 (by decide)) (hI.add (by decide) hcF_later (by decide) (Below.refl _ _) rfl)
      · have g11 := hF 11 (hpre 11 (by kernel_rfl))
        exact wpOp_load rfl (wanted_by (d := 46) rfl _ rfl rfl g11) _ _ rfl _ _ (hI.same 4 (by decide)) (run_loadH w1 w.heap.size 0 x y (cell_later hI.below hx4) (cell_later hI.below hy4)) (hI.add (by decide) hcF_later (by decide) (Below.refl _ _) rfl)
      · have g11 := hF 11 (hpre 11 (by kernel_rfl))
        refine wpOp_call2 rfl (wanted_by (d := 46) rfl _ rfl rfl g11) 17 _ _ _ rfl _ _ (hF 12 (hpre 12 (by kernel_rfl))) (hF 13 (hpre 13 (by kernel_rfl))) (enters_set _ _) (set_any A n c l x y w1 (H4.out.later hI.below) (by omega) hBm.out hxm.out) (fun e w' h => ?_)
        obtain ⟨v, rfl, ho, hb⟩ := h
        exact ⟨_, rfl, hI.add (by decide) hcF_later (by decide) hb ho⟩
      · have g11 := hF 11 (hpre 11 (by kernel_rfl))
        exact wpOp_move rfl (wanted_by (d := 46) rfl _ rfl rfl g11) _ rfl _ (hI.same 7 (by decide)) (hI.add (by decide) hcF_later (by decide) (Below.refl _ _) rfl)
      · have g11 := hF 11 (hpre 11 (by kernel_rfl))
        exact wpOp_load rfl (wanted_by (d := 46) rfl _ rfl rfl g11) _ _ rfl _ _ (hI.same 4 (by decide)) (run_loadH w1 w.heap.size 0 x y (cell_later hI.below hx4) (cell_later hI.below hy4)) (hI.add (by decide) hcF_later (by decide) (Below.refl _ _) rfl)
      · have g11 := hF 11 (hpre 11 (by kernel_rfl))
        refine wpOp_call2 rfl (wanted_by (d := 46) rfl _ rfl rfl g11) 18 _ _ _ rfl _ _ (hF 15 (hpre 15 (by kernel_rfl))) (hF 16 (hpre 16 (by kernel_rfl))) (enters_rset _ _) (refSet_any A n c l x y w1 (H4.out.later hI.below) (by omega) hBf.out hxf.out) (fun e w' h => ?_)
        obtain ⟨v, rfl, ho, hb⟩ := h
        exact ⟨_, rfl, hI.add (by decide) hcF_later (by decide) hb ho⟩
      · have g11 := hF 11 (hpre 11 (by kernel_rfl))
        obtain ⟨B1, m1, d1, h1, T1⟩ := (hF 14 (hpre 14 (by kernel_rfl)))
        obtain ⟨B2, m2, d2, h2, T2⟩ := (hF 17 (hpre 17 (by kernel_rfl)))
        exact wpOp_call2 rfl (wanted_by (d := 46) rfl _ rfl rfl g11) 16 _ _ _ rfl _ _ h1 h2 (enters_same9 _ _) (same9_any B1 B2 m1 m2 d1 d2 _ w1 T1 T2) (fun e w' h => ⟨_, h.1, hI.add (by decide) hcF_later (by decide) h.2 rfl⟩)
      · exact wpOp_pick rfl (wanted_free rfl) _ _ _ rfl true (hF 11 (hpre 11 (by kernel_rfl))) _ (hF 18 (hpre 18 (by kernel_rfl))) (hI.add (by decide) hcF_later (by decide) (Below.refl _ _) rfl)
      · exact wpOp_move rfl (wanted_free rfl) _ rfl _ (hF 19 (hpre 19 (by kernel_rfl))) (hI.add (by decide) hcF_later (by decide) (Below.refl _ _) rfl)
      · have g20 := hF 20 (hpre 20 (by kernel_rfl))
        exact wpOp_move rfl (wanted_by (d := 55) rfl _ rfl rfl g20) _ rfl _ (hI.same 7 (by decide)) (hI.add (by decide) hcF_later (by decide) (Below.refl _ _) rfl)
      · have g20 := hF 20 (hpre 20 (by kernel_rfl))
        exact wpOp_move rfl (wanted_by (d := 55) rfl _ rfl rfl g20) _ rfl _ ((hI.same 8 (by decide)).trans h8.out) (hI.add (by decide) hcF_later (by decide) (Below.refl _ _) rfl)
      · have g20 := hF 20 (hpre 20 (by kernel_rfl))
        refine wpOp_call2 rfl (wanted_by (d := 55) rfl _ rfl rfl g20) 19 _ _ _ rfl _ _ (hF 21 (hpre 21 (by kernel_rfl))) (hF 22 (hpre 22 (by kernel_rfl))) (enters_drop _ _) (drop_any A A2 n c n2 c2 l ns0 w1 (H4.out.later hI.below) (S4.out.later hI.below) (by omega) (by omega) hBm.out hnm.out) (fun e w' h => ?_)
        obtain ⟨v, rfl, ho, hb⟩ := h
        exact ⟨_, rfl, hI.add (by decide) hcF_later (by decide) hb ho.hh⟩
      · have g20 := hF 20 (hpre 20 (by kernel_rfl))
        exact wpOp_move rfl (wanted_by (d := 55) rfl _ rfl rfl g20) _ rfl _ (hI.same 7 (by decide)) (hI.add (by decide) hcF_later (by decide) (Below.refl _ _) rfl)
      · have g20 := hF 20 (hpre 20 (by kernel_rfl))
        exact wpOp_move rfl (wanted_by (d := 55) rfl _ rfl rfl g20) _ rfl _ ((hI.same 8 (by decide)).trans h8.out) (hI.add (by decide) hcF_later (by decide) (Below.refl _ _) rfl)
      · have g20 := hF 20 (hpre 20 (by kernel_rfl))
        refine wpOp_call2 rfl (wanted_by (d := 55) rfl _ rfl rfl g20) 20 _ _ _ rfl _ _ (hF 24 (hpre 24 (by kernel_rfl))) (hF 25 (hpre 25 (by kernel_rfl))) (enters_rdrop _ _) (refDrop_any A A2 n c n2 c2 l ns0 w1 (H4.out.later hI.below) (S4.out.later hI.below) (by omega) (by omega) hBf.out hnf.out) (fun e w' h => ?_)
        obtain ⟨v, rfl, ho, hb⟩ := h
        exact ⟨_, rfl, hI.add (by decide) hcF_later (by decide) hb ho.hh⟩
      · have g20 := hF 20 (hpre 20 (by kernel_rfl))
        obtain ⟨B1, m1, d1, h1, T1⟩ := (hF 23 (hpre 23 (by kernel_rfl)))
        obtain ⟨B2, m2, d2, h2, T2⟩ := (hF 26 (hpre 26 (by kernel_rfl)))
        exact wpOp_call2 rfl (wanted_by (d := 55) rfl _ rfl rfl g20) 16 _ _ _ rfl _ _ h1 h2 (enters_same9 _ _) (same9_any B1 B2 m1 m2 d1 d2 _ w1 T1 T2) (fun e w' h => ⟨_, h.1, hI.add (by decide) hcF_later (by decide) h.2 rfl⟩)
      · exact wpOp_pick rfl (wanted_free rfl) _ _ _ rfl true (hF 20 (hpre 20 (by kernel_rfl))) _ (hF 27 (hpre 27 (by kernel_rfl))) (hI.add (by decide) hcF_later (by decide) (Below.refl _ _) rfl)
      · exact wpOp_assign rfl (wanted_free rfl) _ rfl _ (hF 28 (hpre 28 (by kernel_rfl))) (hI.add (by decide) hcF_later (by decide) (Below.refl _ _) rfl)
    · intro D a w1 hI hall
      have fz : a.eval (.tmp 6) = .bool true := hI.fact 29 (hall 29 (by decide))
      have hd := hI.defs
      have hB := hI.below
      clear hall
      go_wp2
      refine bodyPost_ret (results_tmp rfl a.tmps _ _) hd ⟨?_, below_then hb4.out hB⟩
      show Ending.returned (a.eval (.tmp 6)) = _
      rw [fz]
end Go.Proofs.YtklbikafkdjgpaaDoor
