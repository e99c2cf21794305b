/-
  The walk of the statement HeadSets: for any list of headers, header and name it returns true, and nothing that was there is changed. Condition: the names' and values' bytes, together with the number of headers, are at most 1048576, and so are the header's and the name's.
-/
import Derived.Test.YtklbikafkdjgpaaDoorHeadAwake
namespace Go.Proofs.YtklbikafkdjgpaaDoor
open Go.RowKit Go.Lib Go.Shelf

theorem enters_set9 (vs : Array Value) (w : World) : (callFunc 17 vs).run Tryd.prog w = .ok (.enter 17 vs) w := by kernel_rfl
theorem enters_sameH (vs : Array Value) (w : World) : (callFunc 16 vs).run Tryd.prog w = .ok (.enter 16 vs) w := by kernel_rfl
theorem run_neS (x y : Operand) (s : ByteArray) (w : World) : (do eqGuard .neq 9 x y (.string s) (.string s); binOp .neq 9 (.string s) (.string s) : Sem Value).run Tryd.prog w = .ok (.bool false) w := by go_simp
theorem run_notT (w : World) : (Op.unary .not (.bool true)).run Tryd.prog w = .ok (.bool false) w := by go_simp
theorem short_in {l : List Hd} {B B' : Nat} (h : bytesIn l ≤ B) (hB : B ≤ B') : Short B' l := fun x hx => by
  have := bytesIn_mem hx
  omega

/-- What the slots of the test hold. -/
def hzF (A : Option Addr) (n c : Nat) (B : Option Addr) (m d : Nat) (x y : ByteArray) (lT lD : List Hd) (g : Nat) (j : Nat) (v : Value) (w : World) : Prop :=
  match j with
  | 0 => v = .string y
  | 1 => v = .pointer (some ⟨g, 0 + 1, Option.none⟩)
  | 2 => v = .string y
  | 3 => v = .bool false
  | 4 => v = .bool false
  | 5 => v = .bool true
  | 6 => v = .bool false
  | 7 => v = .bool false
  | 8 => v = .bool false
  | 9 => v = .slice B m d
  | 10 => v = .agg #[.string x, .string y]
  | 11 => HH lT v w
  | 12 => v = .slice B m d
  | 13 => v = .bool true
  | 14 => v = .bool false
  | 15 => v = .bool false
  | 16 => v = .bool false
  | 17 => v = .slice B m d
  | 18 => v = .pointer (some ⟨g, 0, Option.none⟩)
  | 19 => v = .string x
  | 20 => SS [x] v w
  | 21 => HH lD v w
  | 22 => v = .slice A n c
  | 23 => v = .pointer (some ⟨g, 0, Option.none⟩)
  | 24 => v = .string x
  | 25 => SS [x] v w
  | 26 => HH lD v w
  | 27 => v = .bool true
  | 28 => v = .bool false
  | 29 => v = .bool false
  | _ => True
theorem hzF_later {A : Option Addr} {n c : Nat} {B : Option Addr} {m d : Nat} {x y : ByteArray} {lT lD : List Hd} {g : Nat} : Outlives (hzF A n c B m d x y lT lD g) := by
  intro j v w w' h hk
  unfold hzF at h ⊢
  split at h
  all_goals first | exact h.keeps hk | exact h

set_option maxHeartbeats 8000000 in
set_option maxRecDepth 100000 in
theorem headSets_law (A : Option Addr) (n0 c : Nat) (l0 : List Hd) (x y nm : ByteArray) (w : World) (h : Hds w A n0 c l0) (hb0 : bytesIn l0 ≤ 1048576) (hxy : x.size + y.size + 1 ≤ 1048576) (hnm : nm.size < 4294967281) :
    Calls Tryd.prog 5 #[.slice A n0 c, .agg #[.string x, .string y], .string nm] w (Yes w) := by
  have h30 := Lib.hid h.few
  have hbl : bytesIn (l0.take 30) ≤ 1048576 := Nat.le_trans (bytesIn_take _ _) hb0
  have hfew := Lib.hid (fun W (hb : Below w.heap.size w W) => few_any A n0 c l0 W (h.later hb))
  have hn30 : min n0 30 ≤ 30 := Nat.min_le_right _ _
  clear h hb0
  generalize l0.take 30 = l at h30 hbl
  generalize min n0 30 = n at h30 hfew hn30
  have hlen := h30.out.len
  have hBm : Short maxLen l := short_in hbl (by simp only [maxLen]; omega)
  have hbT : bytesIn (setOf l (x, y)) ≤ 2097152 := by have := bytesIn_set l (x, y); simp [bytesIn] at this ⊢ hbl; omega
  have hBT : Short maxLen (setOf l (x, y)) := short_in hbT (by simp only [maxLen]; omega)
  have hlT : (setOf l (x, y)).length ≤ 31 := by have := set_len l (x, y); omega
  have hxm : x.size ≤ maxLen := by simp only [maxLen]; omega
  have hnmm : nm.size ≤ maxLen := by simp only [maxLen]; omega
  have hx1 : ∀ z ∈ [x], z.size ≤ maxLen := fun z hz => by simp at hz; subst hz; exact hxm
  have hn1 : ∀ z ∈ [nm], z.size ≤ maxLen := fun z hz => by simp at hz; subst hz; exact hnmm
  have hlD : (without [nm] l).length ≤ 30 := by have := without_len [nm] l; omega
  have hBD : Short maxLen (without [nm] l) := fun z hz => hBm z (List.mem_filter.1 hz).1
  have hset1 := Lib.hid (fun W (hb : Below w.heap.size w W) => set_any A n c l x y W (h30.out.later hb) (by omega) hBm hxm)
  have hset2' : ∀ (B : Option Addr) (m d : Nat) (W : World), Hds W B m d (setOf l (x, y)) → Calls Tryd.prog 17 #[.slice B m d, .agg #[.string x, .string y]] W (ReadsH W (setOf l (x, y))) := fun B m d W hW => by
    have := set_any B m d (setOf l (x, y)) x y W hW (by rw [← hW.len]; omega) hBT hxm
    rw [set_twice] at this
    exact this
  have hget1 : Hid (∀ (B : Option Addr) (m d : Nat) (W : World), Hds W B m d (setOf l (x, y)) → Calls Tryd.prog 14 #[.slice B m d, .string x] W fun e w' => e = .returned (.tuple #[.string y, .bool true]) ∧ Below W.heap.size W w') := Lib.hid (fun B m d W hW => by
    have hv : vals x (setOf l (x, y)) = [y] := set_got l (x, y)
    have hj := joined_len x (setOf l (x, y))
    have := get_any B m d (setOf l (x, y)) x W hW (by rw [← hW.len]; omega) hBT hxm (by omega)
    rw [hv, joined_one, mk_of] at this
    exact this)
  have hget2' : ∃ t1 : ByteArray, ∀ (W : World) (B : Option Addr) (m d : Nat), Hds W B m d (without [nm] l) → Calls Tryd.prog 14 #[.slice B m d, .string nm] W fun e w' => e = .returned (.tuple #[.string t1, .bool false]) ∧ Below W.heap.size W w' := by
    refine ⟨mk (joined []), fun W B m d hW => ?_⟩
    have hv : vals nm (without [nm] l) = [] := vals_without nm l
    have := get_any B m d (without [nm] l) nm W hW (by rw [← hW.len]; omega) hBD hnmm (by rw [hv]; simp [joined_nil])
    rw [hv] at this
    exact this
  obtain ⟨t1, hget2'⟩ := hget2'
  have hget2 := Lib.hid hget2'
  have hjl := joined_len nm l
  have hget3 := Lib.hid (fun W (hb : Below w.heap.size w W) => get_any A n c l nm W (h30.out.later hb) (by omega) hBm hnmm (by omega))
  have hjT := joined_len nm (setOf l (x, y))
  have hget4' := fun (B : Option Addr) (m d : Nat) (W : World) (hW : Hds W B m d (setOf l (x, y))) => get_any B m d (setOf l (x, y)) nm W hW (by rw [← hW.len]; omega) hBT hnmm (by omega)
  have halike := Lib.hid (fun W => alike_any nm x (by omega) (by omega) W)
  have heq : Hid (alike nm x = false → mk (joined (vals nm (setOf l (x, y)))) = mk (joined (vals nm l)) ∧ decide (0 < (vals nm (setOf l (x, y))).length) = decide (0 < (vals nm l).length)) := Lib.hid (fun hq => by rw [set_other hq]; exact ⟨rfl, rfl⟩)
  have hdropT' : ∀ (B : Option Addr) (m d : Nat) (W : World) (B2 : Option Addr) (m2 d2 : Nat), Hds W B m d (setOf l (x, y)) → Strs W B2 m2 d2 [x] → Calls Tryd.prog 19 #[.slice B m d, .slice B2 m2 d2] W (ReadsH W (without [x] l)) := fun B m d W B2 m2 d2 hW hS => by
    have := drop_any B B2 m d m2 d2 (setOf l (x, y)) [x] W hW hS (by rw [← hW.len]; omega) (by rw [← hS.len]; simp) hBT hx1
    rw [set_dropped l (x, y)] at this
    exact this.mono fun _ _ h => h.reads
  have hdropL := Lib.hid (fun (W : World) (B2 : Option Addr) (m2 d2 : Nat) (hW : Hds W A n c l) (hS : Strs W B2 m2 d2 [x]) => (drop_any A B2 n c m2 d2 l [x] W hW hS (by omega) (by rw [← hS.len]; simp) hBm hx1).mono fun _ _ h => h.reads)
  have hdropN := Lib.hid (fun (W : World) (g : Nat) (hg : g = W.heap.size) (hb : Below w.heap.size w W) => (drop_any A (some ⟨g, 0, Option.none⟩) n c 1 1 l [nm] (W.alloc (.cells #[.string nm] 9)) ((h30.out.later hb).later (below_box W _)) (strs_one W nm g hg) (by omega) (by omega) hBm hn1).mono fun e w' h => show ∃ v, e = .returned v ∧ HH (without [nm] l) v w' ∧ Below W.heap.size W w' from by
    obtain ⟨v, he, ho, hb'⟩ := h.reads
    exact ⟨v, he, ho, below_then (below_box W _) hb'⟩)
  generalize alike nm x = q at halike heq
  generalize mk (joined (vals nm l)) = t2 at hget3 heq
  generalize decide (0 < (vals nm l).length) = b2 at hget3 heq
  generalize mk (joined (vals nm (setOf l (x, y)))) = t3 at hget4' heq
  generalize decide (0 < (vals nm (setOf l (x, y))).length) = b3 at hget4' heq
  have hset2h := Lib.hid hset2'
  have hget4h := Lib.hid hget4'
  have hdropTh := Lib.hid hdropT'
  clear hset2' hget4' hdropT' hget2' hjl hjT hbl hbT hlen hBm hBT hlT hxm hnmm hx1 hn1 hlD hBD
  generalize setOf l (x, y) = lT at hset1 hset2h hget1 hget4h hdropTh
  obtain ⟨lD, hlD⟩ : ∃ lD, lD = without [x] l := ⟨_, rfl⟩
  rw [← hlD] at hdropTh hdropL
  clear hlD
  have hbx : Hid ((w.alloc (.cells #[.string x, .string y] 29)).cell? ⟨w.heap.size, 0, Option.none⟩ = some (.string x)) := Lib.hid (by simp)
  have hby : Hid ((w.alloc (.cells #[.string x, .string y] 29)).cell? ⟨w.heap.size, 0 + 1, Option.none⟩ = some (.string y)) := Lib.hid (by simp)
  go_enter Tryd.func5, Tryd.ntmps5
  go_wp2_with (first
    | (go_at_call 8; refine (hfew.out _ (below_box w _)).mono ?_; rintro e w' ⟨rfl, hw⟩; subst hw)
    | (go_at_call 17; refine (hset1.out _ (below_box w _)).mono ?_; rintro e w2 ⟨v2, rfl, ⟨B, m, d, rfl, HT⟩, hb2⟩; have hcx := cell_later hb2 hbx.out)
    | (go_at_call 14; refine (hget1.out B m d w2 HT).mono ?_; rintro e w3 ⟨rfl, hb23⟩))
  have hx3 : w3.cell? ⟨w.heap.size, 0, Option.none⟩ = some (.string x) := cell_later hb23 hcx
  have hy3 : w3.cell? ⟨w.heap.size, 0 + 1, Option.none⟩ = some (.string y) := cell_later hb23 (cell_later hb2 hby.out)
  have hb3 := Lib.hid (below_then (below_then (below_box w _) hb2) hb23)
  have H3 := Lib.hid (h30.out.later hb3.out)
  have HT3 := Lib.hid (HT.later hb23)
  have hset2 := Lib.hid (hset2h.out B m d)
  have hget4 := Lib.hid (hget4h.out B m d)
  have hdropT := Lib.hid (hdropTh.out B m d)
  clear hset2h hget4h hdropTh hget1 hset1 hfew hcx hb2 hb23 HT hbx hby
  refine wp_region_each (RInv 101 [29, 30, 31, 32, 33, 34, 35, 36, 37, 38, 39, 40, 41, 42, 43, 44, 45, 46, 47, 48, 49, 50, 51, 52, 53, 54, 55, 56, 57, 58] _ (hzF A n c B m d x y lT lD w.heap.size) w3 NoMore) (by kernel_rfl) (by kernel_rfl) (RInv.start rfl trivial (Below.refl _ _).drew) ?_ ?_
  · intro i hi D a w1 hI hcl hnd hpre
    have hi' : i < 30 := hi
    have hcase : i = 0 ∨ i = 1 ∨ i = 2 ∨ i = 3 ∨ i = 4 ∨ i = 5 ∨ i = 6 ∨ i = 7 ∨ i = 8 ∨ i = 9 ∨ i = 10 ∨ i = 11 ∨ i = 12 ∨ i = 13 ∨ i = 14 ∨ i = 15 ∨ i = 16 ∨ i = 17 ∨ i = 18 ∨ i = 19 ∨ i = 20 ∨ i = 21 ∨ i = 22 ∨ i = 23 ∨ i = 24 ∨ i = 25 ∨ i = 26 ∨ i = 27 ∨ i = 28 ∨ i = 29 := by omega
    have hF := hI.fact
    rcases hcase with rfl | rfl | rfl | rfl | rfl | rfl | rfl | rfl | rfl | rfl | rfl | rfl | rfl | rfl | rfl | rfl | rfl | rfl | rfl | rfl | rfl | rfl | rfl | rfl | rfl | rfl | rfl | rfl | rfl | rfl
    · exact wpOp_move rfl (wanted_free rfl) _ rfl _ (hI.same 9 (by decide)) (hI.add (by decide) hzF_later (by decide) (Below.refl _ _) rfl)
    · exact wpOp_field rfl (wanted_free rfl) _ _ _ rfl _ _ (hI.same 4 (by decide)) (run_field1 w1 w.heap.size 0) (hI.add (by decide) hzF_later (by decide) (Below.refl _ _) rfl)
    · exact wpOp_load rfl (wanted_free rfl) _ _ rfl _ _ (hF 1 (hpre 1 (by kernel_rfl))) (run_load9 w1 w.heap.size (0 + 1) y (cell_later hI.below hy3)) (hI.add (by decide) hzF_later (by decide) (Below.refl _ _) rfl)
    · exact wpOp_bin rfl (wanted_free rfl) _ _ _ _ _ rfl _ _ _ (hF 0 (hpre 0 (by kernel_rfl))) (hF 2 (hpre 2 (by kernel_rfl))) (run_neS _ _ _ w1) (hI.add (by decide) hzF_later (by decide) (Below.refl _ _) rfl)
    · exact wpOp_move rfl (wanted_free rfl) _ rfl _ (hF 3 (hpre 3 (by kernel_rfl))) (hI.add (by decide) hzF_later (by decide) (Below.refl _ _) rfl)
    · have g4 := hF 4 (hpre 4 (by kernel_rfl))
      exact wpOp_move rfl (wanted_by (d := 33) rfl _ rfl rfl g4) _ rfl _ (hI.same 10 (by decide)) (hI.add (by decide) hzF_later (by decide) (Below.refl _ _) rfl)
    · have g4 := hF 4 (hpre 4 (by kernel_rfl))
      exact wpOp_unary rfl (wanted_by (d := 33) rfl _ rfl rfl g4) _ _ _ rfl _ _ (hF 5 (hpre 5 (by kernel_rfl))) (run_notT w1) (hI.add (by decide) hzF_later (by decide) (Below.refl _ _) rfl)
    · exact wpOp_pick rfl (wanted_free rfl) _ _ _ rfl false (hF 4 (hpre 4 (by kernel_rfl))) _ (hF 6 (hpre 6 (by kernel_rfl))) (hI.add (by decide) hzF_later (by decide) (Below.refl _ _) rfl)
    · exact wpOp_move rfl (wanted_free rfl) _ rfl _ (hF 7 (hpre 7 (by kernel_rfl))) (hI.add (by decide) hzF_later (by decide) (Below.refl _ _) rfl)
    · have g8 := hF 8 (hpre 8 (by kernel_rfl))
      exact wpOp_move rfl (wanted_by (d := 37) rfl _ rfl rfl g8) _ rfl _ (hI.same 8 (by decide)) (hI.add (by decide) hzF_later (by decide) (Below.refl _ _) rfl)
    · have g8 := hF 8 (hpre 8 (by kernel_rfl))
      exact wpOp_load rfl (wanted_by (d := 37) rfl _ rfl rfl g8) _ _ rfl _ _ (hI.same 4 (by decide)) (run_loadH w1 w.heap.size 0 x y (cell_later hI.below hx3) (cell_later hI.below hy3)) (hI.add (by decide) hzF_later (by decide) (Below.refl _ _) rfl)
    · have g8 := hF 8 (hpre 8 (by kernel_rfl))
      refine wpOp_call2 rfl (wanted_by (d := 37) rfl _ rfl rfl g8) 17 _ _ _ rfl _ _ (hF 9 (hpre 9 (by kernel_rfl))) (hF 10 (hpre 10 (by kernel_rfl))) (enters_set9 _ _) (hset2.out w1 (HT3.out.later hI.below)) (fun e w' h => ?_)
      obtain ⟨v, rfl, ho, hb⟩ := h
      exact ⟨_, rfl, hI.add (by decide) hzF_later (by decide) hb ho⟩
    · have g8 := hF 8 (hpre 8 (by kernel_rfl))
      exact wpOp_move rfl (wanted_by (d := 37) rfl _ rfl rfl g8) _ rfl _ (hI.same 8 (by decide)) (hI.add (by decide) hzF_later (by decide) (Below.refl _ _) rfl)
    · have g8 := hF 8 (hpre 8 (by kernel_rfl))
      obtain ⟨B1, m1, d1, h1, T1⟩ := (hF 11 (hpre 11 (by kernel_rfl)))
      exact wpOp_call2 rfl (wanted_by (d := 37) rfl _ rfl rfl g8) 16 _ _ _ rfl _ _ h1 (hF 12 (hpre 12 (by kernel_rfl))) (enters_sameH _ _) (same9_any B1 B m1 m d1 d _ w1 T1 (HT3.out.later hI.below)) (fun e w' h => ⟨_, h.1, hI.add (by decide) hzF_later (by decide) h.2 rfl⟩)
    · have g8 := hF 8 (hpre 8 (by kernel_rfl))
      exact wpOp_unary rfl (wanted_by (d := 37) rfl _ rfl rfl g8) _ _ _ rfl _ _ (hF 13 (hpre 13 (by kernel_rfl))) (run_notT w1) (hI.add (by decide) hzF_later (by decide) (Below.refl _ _) rfl)
    · exact wpOp_pick rfl (wanted_free rfl) _ _ _ rfl false (hF 8 (hpre 8 (by kernel_rfl))) _ (hF 14 (hpre 14 (by kernel_rfl))) (hI.add (by decide) hzF_later (by decide) (Below.refl _ _) rfl)
    · exact wpOp_move rfl (wanted_free rfl) _ rfl _ (hF 15 (hpre 15 (by kernel_rfl))) (hI.add (by decide) hzF_later (by decide) (Below.refl _ _) rfl)
    · have g16 := hF 16 (hpre 16 (by kernel_rfl))
      exact wpOp_move rfl (wanted_by (d := 45) rfl _ rfl rfl g16) _ rfl _ (hI.same 8 (by decide)) (hI.add (by decide) hzF_later (by decide) (Below.refl _ _) rfl)
    · have g16 := hF 16 (hpre 16 (by kernel_rfl))
      exact wpOp_field rfl (wanted_by (d := 45) rfl _ rfl rfl g16) _ _ _ rfl _ _ (hI.same 4 (by decide)) (run_field0 w1 w.heap.size 0) (hI.add (by decide) hzF_later (by decide) (Below.refl _ _) rfl)
    · have g16 := hF 16 (hpre 16 (by kernel_rfl))
      exact wpOp_load rfl (wanted_by (d := 45) rfl _ rfl rfl g16) _ _ rfl _ _ (hF 18 (hpre 18 (by kernel_rfl))) (run_load9 w1 w.heap.size 0 x (cell_later hI.below hx3)) (hI.add (by decide) hzF_later (by decide) (Below.refl _ _) rfl)
    · have g16 := hF 16 (hpre 16 (by kernel_rfl))
      have h1 : a.eval (.tmp 48) = _ := (hF 19 (hpre 19 (by kernel_rfl)))
      exact wpOp_build rfl (wanted_by (d := 45) rfl _ rfl rfl g16) _ _ _ rfl #[(0, .string x)] (by simp [h1]) _ (run_build9 w1 x) (hI.add (by decide) hzF_later (by decide) ((Below.refl _ _).alloc (Nat.le_refl _) _) ⟨_, _, _, rfl, strs_new w1 _ [x] rfl (by simp [maxLen])⟩)
    · have g16 := hF 16 (hpre 16 (by kernel_rfl))
      obtain ⟨B2, m2, d2, h2, T2⟩ := (hF 20 (hpre 20 (by kernel_rfl)))
      refine wpOp_call2 rfl (wanted_by (d := 45) rfl _ rfl rfl g16) 19 _ _ _ rfl _ _ (hF 17 (hpre 17 (by kernel_rfl))) h2 (enters_drop _ _) (hdropT.out w1 B2 m2 d2 (HT3.out.later hI.below) T2) (fun e w' h => ?_)
      obtain ⟨v, rfl, ho, hb⟩ := h
      exact ⟨_, rfl, hI.add (by decide) hzF_later (by decide) hb ho⟩
    · have g16 := hF 16 (hpre 16 (by kernel_rfl))
      exact wpOp_move rfl (wanted_by (d := 45) rfl _ rfl rfl g16) _ rfl _ (hI.same 7 (by decide)) (hI.add (by decide) hzF_later (by decide) (Below.refl _ _) rfl)
    · have g16 := hF 16 (hpre 16 (by kernel_rfl))
      exact wpOp_field rfl (wanted_by (d := 45) rfl _ rfl rfl g16) _ _ _ rfl _ _ (hI.same 4 (by decide)) (run_field0 w1 w.heap.size 0) (hI.add (by decide) hzF_later (by decide) (Below.refl _ _) rfl)
    · have g16 := hF 16 (hpre 16 (by kernel_rfl))
      exact wpOp_load rfl (wanted_by (d := 45) rfl _ rfl rfl g16) _ _ rfl _ _ (hF 23 (hpre 23 (by kernel_rfl))) (run_load9 w1 w.heap.size 0 x (cell_later hI.below hx3)) (hI.add (by decide) hzF_later (by decide) (Below.refl _ _) rfl)
    · have g16 := hF 16 (hpre 16 (by kernel_rfl))
      have h1 : a.eval (.tmp 53) = _ := (hF 24 (hpre 24 (by kernel_rfl)))
      exact wpOp_build rfl (wanted_by (d := 45) rfl _ rfl rfl g16) _ _ _ rfl #[(0, .string x)] (by simp [h1]) _ (run_build9 w1 x) (hI.add (by decide) hzF_later (by decide) ((Below.refl _ _).alloc (Nat.le_refl _) _) ⟨_, _, _, rfl, strs_new w1 _ [x] rfl (by simp [maxLen])⟩)
    · have g16 := hF 16 (hpre 16 (by kernel_rfl))
      obtain ⟨B2, m2, d2, h2, T2⟩ := (hF 25 (hpre 25 (by kernel_rfl)))
      refine wpOp_call2 rfl (wanted_by (d := 45) rfl _ rfl rfl g16) 19 _ _ _ rfl _ _ (hF 22 (hpre 22 (by kernel_rfl))) h2 (enters_drop _ _) (hdropL.out w1 B2 m2 d2 (H3.out.later hI.below) T2) (fun e w' h => ?_)
      obtain ⟨v, rfl, ho, hb⟩ := h
      exact ⟨_, rfl, hI.add (by decide) hzF_later (by decide) hb ho⟩
    · have g16 := hF 16 (hpre 16 (by kernel_rfl))
      obtain ⟨B1, m1, d1, h1, T1⟩ := (hF 21 (hpre 21 (by kernel_rfl)))
      obtain ⟨B2, m2, d2, h2, T2⟩ := (hF 26 (hpre 26 (by kernel_rfl)))
      exact wpOp_call2 rfl (wanted_by (d := 45) rfl _ rfl rfl g16) 16 _ _ _ rfl _ _ h1 h2 (enters_sameH _ _) (same9_any B1 B2 m1 m2 d1 d2 _ w1 T1 T2) (fun e w' h => ⟨_, h.1, hI.add (by decide) hzF_later (by decide) h.2 rfl⟩)
    · have g16 := hF 16 (hpre 16 (by kernel_rfl))
      exact wpOp_unary rfl (wanted_by (d := 45) rfl _ rfl rfl g16) _ _ _ rfl _ _ (hF 27 (hpre 27 (by kernel_rfl))) (run_notT w1) (hI.add (by decide) hzF_later (by decide) (Below.refl _ _) rfl)
    · exact wpOp_pick rfl (wanted_free rfl) _ _ _ rfl false (hF 16 (hpre 16 (by kernel_rfl))) _ (hF 28 (hpre 28 (by kernel_rfl))) (hI.add (by decide) hzF_later (by decide) (Below.refl _ _) rfl)
  · intro D a w4 hI hall
    obtain ⟨fs, rfl, hf⟩ := hI.done (by decide) rfl hall
    have hB := hI.below
    have h58 : fs 58 = .bool false := hf 29 (by decide)
    have hx4 : w4.cell? ⟨w.heap.size, 0, Option.none⟩ = some (.string x) := cell_later hB hx3
    have hbw4 := below_then hb3.out hB
    clear hI hall hf
    simp only [putAll, List.map_cons, List.map_nil, Act.put, List.setIfInBounds_toArray, List.set_cons_zero, List.set_cons_succ, h58]
    clear h58
    generalize fs 29 = z29
    generalize fs 30 = z30
    generalize fs 31 = z31
    generalize fs 32 = z32
    generalize fs 33 = z33
    generalize fs 34 = z34
    generalize fs 35 = z35
    generalize fs 36 = z36
    generalize fs 37 = z37
    generalize fs 38 = z38
    generalize fs 39 = z39
    generalize fs 40 = z40
    generalize fs 41 = z41
    generalize fs 42 = z42
    generalize fs 43 = z43
    generalize fs 44 = z44
    generalize fs 45 = z45
    generalize fs 46 = z46
    generalize fs 47 = z47
    generalize fs 48 = z48
    generalize fs 49 = z49
    generalize fs 50 = z50
    generalize fs 51 = z51
    generalize fs 52 = z52
    generalize fs 53 = z53
    generalize fs 54 = z54
    generalize fs 55 = z55
    generalize fs 56 = z56
    generalize fs 57 = z57
    cases q with
    | true =>
      go_wp2_with (first
        | (go_at_call 19; refine (hdropN.out _ _ rfl hbw4).mono ?_; rintro e w5 ⟨v5, rfl, ⟨B5, m5, d5, rfl, HD5⟩, hb5⟩)
        | (go_at_call 14; with_reducible refine (hget2.out w5 B5 m5 d5 HD5).mono ?_; rintro e w6 ⟨rfl, hb6⟩; have hbw6 := below_then (below_then hbw4 hb5) hb6)
        | (go_at_call 14; with_reducible refine (hget3.out w6 hbw6).mono ?_; rintro e w7 ⟨rfl, hb7⟩; have HT7 := HT3.out.later (below_then (below_then (below_then hB hb5) hb6) hb7))
        | (go_at_call 14; with_reducible refine (hget4.out w7 HT7).mono ?_; rintro e w8 ⟨rfl, hb8⟩)
        | (go_at_call 6; refine (awake9_any _).mono ?_; rintro e w9 ⟨rfl, hb9⟩; have hx9 : w9.cell? ⟨w.heap.size, 0, Option.none⟩ = some (.string x) := cell_later hb9 (cell_later hb8 (cell_later hb7 (cell_later hb6 (cell_later hb5 hx4)))))
        | (go_at_call 21; refine (halike.out _).mono ?_; rintro e w10 ⟨rfl, hb10⟩))
      go_ret
      exact ⟨rfl, below_then (below_then (below_then (below_then hbw6 hb7) hb8) hb9) hb10⟩
    | false =>
      obtain ⟨rfl, rfl⟩ := heq.out rfl
      go_wp2_with (first
        | (go_at_call 19; refine (hdropN.out _ _ rfl hbw4).mono ?_; rintro e w5 ⟨v5, rfl, ⟨B5, m5, d5, rfl, HD5⟩, hb5⟩)
        | (go_at_call 14; with_reducible refine (hget2.out w5 B5 m5 d5 HD5).mono ?_; rintro e w6 ⟨rfl, hb6⟩; have hbw6 := below_then (below_then hbw4 hb5) hb6)
        | (go_at_call 14; with_reducible refine (hget3.out w6 hbw6).mono ?_; rintro e w7 ⟨rfl, hb7⟩; have HT7 := HT3.out.later (below_then (below_then (below_then hB hb5) hb6) hb7))
        | (go_at_call 14; with_reducible refine (hget4.out w7 HT7).mono ?_; rintro e w8 ⟨rfl, hb8⟩)
        | (go_at_call 6; refine (awake9_any _).mono ?_; rintro e w9 ⟨rfl, hb9⟩; have hx9 : w9.cell? ⟨w.heap.size, 0, Option.none⟩ = some (.string x) := cell_later hb9 (cell_later hb8 (cell_later hb7 (cell_later hb6 (cell_later hb5 hx4)))))
        | (go_at_call 21; refine (halike.out _).mono ?_; rintro e w10 ⟨rfl, hb10⟩))
      go_ret
      exact ⟨rfl, below_then (below_then (below_then (below_then hbw6 hb7) hb8) hb9) hb10⟩
end Go.Proofs.YtklbikafkdjgpaaDoor
