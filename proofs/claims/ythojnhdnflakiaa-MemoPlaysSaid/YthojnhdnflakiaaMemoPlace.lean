/-
  Where the entry of a key stands in memo's list, and slices.IndexFunc and ContainsFunc over entries. Conditions: those that each theorem states.
-/
import Derived.Test.YthojnhdnflakiaaMemoOps
import Derived.Test.YthojnhdnflakiaaMemoSmall
import Derived.Shelf.Abstract
namespace Go.Proofs.Ythojnhdnflakiaa
open Go.RowKit Go.Lib Go.Shelf

set_option maxHeartbeats 4000000 in
set_option maxRecDepth 100000 in
theorem run_eqK (x y : Operand) (a b : Ent) (w : World) : (do eqGuard .eql 32 x y (evalue { a with til := 0 }) (evalue { b with til := 0 }); binOp .eql 32 (evalue { a with til := 0 }) (evalue { b with til := 0 }) : Sem Value).run Try.prog w = .ok (.bool (sameKey a b)) w := by
  obtain ⟨a1, a2, a3, a4, a5, a6⟩ := a
  obtain ⟨b1, b2, b3, b4, b5, b6⟩ := b
  unfold evalue sameKey
  simp only
  rcases Bool.eq_false_or_eq_true (a1.toList == b1.toList) with q1 | q1 <;>
  rcases Bool.eq_false_or_eq_true (a2.toList == b2.toList) with q2 | q2 <;>
  rcases Bool.eq_false_or_eq_true (a3 == b3) with q3 | q3 <;>
  rcases Bool.eq_false_or_eq_true (a4.toList == b4.toList) with q4 | q4 <;>
  rcases Bool.eq_false_or_eq_true (a5.toList == b5.toList) with q5 | q5 <;>
  · go_simp

/-- What the slots of the statement hold that compares two keys. -/
def keF (y x : Ent) (j : Nat) (v : Value) (_ : World) : Prop :=
  match j with
  | 0 => v = evalue y
  | 1 => v = evalue { y with til := 0 }
  | 2 => v = evalue x
  | 3 => v = evalue { x with til := 0 }
  | 4 => v = .bool (sameKey y x)
  | 5 => v = .bool (sameKey y x)
  | _ => True
theorem keF_later {y x : Ent} : Outlives (keF y x) := by
  intro j v w w' h _
  unfold keF at h ⊢
  split at h
  all_goals exact h
theorem enters_key (vs : Array Value) (w : World) : (callFunc 34 vs).run Try.prog w = .ok (.enter 34 vs) w := by kernel_rfl
set_option maxRecDepth 100000 in
theorem run_loadS (w : World) (g : Nat) (x : Ent) (h : Six w g x) : (Instr.loadAt 32 (.pointer (some ⟨g, 0, Option.none⟩))).run Try.prog w = .ok (evalue x) w := by
  obtain ⟨h1, h2, h3, h4, h5, h6⟩ := h
  exact run_loadE w g 0 x h1 h2 h3 h4 h5 h6

set_option maxHeartbeats 4000000 in
set_option maxRecDepth 100000 in
theorem place1_any (y x : Ent) (g : Nat) (w : World) (h : Six w g x) :
    Calls Try.prog 33 #[evalue y, .pointer (some ⟨g, 0, Option.none⟩)] w fun e w' => e = .returned (.bool (sameKey y x)) ∧ Below w.heap.size w w' := by
  have hs := Lib.hid (six_new w y 32)
  have hb0 := Lib.hid (below_box w (.cells (ecell y).toArray 32))
  have h' := Lib.hid (h.later hb0.out)
  obtain ⟨w0, hw0⟩ : ∃ w0, w0 = w.alloc (.cells (ecell y).toArray 32) := ⟨_, rfl⟩
  rw [← hw0] at hs hb0 h'
  have hw0' : Hid (w.alloc (.cells #[.string y.fr, .string y.at_, .bool y.cred, .string y.me, .string y.he, .int .i64 y.til] 32) = w0) := Lib.hid hw0.symm
  have hev : evalue y = .agg #[.string y.fr, .string y.at_, .bool y.cred, .string y.me, .string y.he, .int .i64 y.til] := rfl
  rw [hev]
  clear hev hw0 h
  go_enter Try.func33, Try.ntmps33
  go_wp2
  rw [hw0'.out]
  refine wp_region_each (RInv 9 [4, 5, 6, 7, 8, 3] _ (keF y x) w0 NoMore) (by kernel_rfl) (by kernel_rfl) (RInv.start rfl trivial (Below.refl _ _).drew) ?_ ?_
  · intro i hi D a wx hI hcl hnd hpre
    have hi' : i < 6 := hi
    have hcase : i = 0 ∨ i = 1 ∨ i = 2 ∨ i = 3 ∨ i = 4 ∨ i = 5 := by omega
    have hF := hI.fact
    rcases hcase with rfl | rfl | rfl | rfl | rfl | rfl
    · exact wpOp_load rfl (wanted_free rfl) _ _ rfl _ _ (hI.same 2 (by decide)) (run_loadS wx w.heap.size y (hs.out.later hI.below)) (hI.add (by decide) keF_later (by decide) (Below.refl _ _) rfl)
    · exact wpOp_call1 rfl (wanted_free rfl) 34 _ _ rfl _ (hF 0 (hpre 0 (by kernel_rfl))) (enters_key _ _) (key_any y wx) (fun e w' h => ⟨_, h.1, hI.add (by decide) keF_later (by decide) h.2 rfl⟩)
    · exact wpOp_load rfl (wanted_free rfl) _ _ rfl _ _ (hI.same 1 (by decide)) (run_loadS wx g x (h'.out.later hI.below)) (hI.add (by decide) keF_later (by decide) (Below.refl _ _) rfl)
    · exact wpOp_call1 rfl (wanted_free rfl) 34 _ _ rfl _ (hF 2 (hpre 2 (by kernel_rfl))) (enters_key _ _) (key_any x wx) (fun e w' h => ⟨_, h.1, hI.add (by decide) keF_later (by decide) h.2 rfl⟩)
    · exact wpOp_bin rfl (wanted_free rfl) _ _ _ _ _ rfl _ _ _ (hF 1 (hpre 1 (by kernel_rfl))) (hF 3 (hpre 3 (by kernel_rfl))) (run_eqK _ _ y x wx) (hI.add (by decide) keF_later (by decide) (Below.refl _ _) rfl)
    · exact wpOp_assign rfl (wanted_free rfl) _ rfl _ (hF 4 (hpre 4 (by kernel_rfl))) (hI.add (by decide) keF_later (by decide) (Below.refl _ _) rfl)
  · intro D a wx hI hall
    have hB := Lib.hid hI.below
    have e3 : a.eval (.tmp 3) = .bool (sameKey y x) := hI.fact 5 (hall 5 (by decide))
    have hd := hI.defs
    clear hI hall
    go_wp2
    refine bodyPost_ret (results_tmp rfl _ _ _) hd ⟨?_, below_then hb0.out hB.out⟩
    exact congrArg Ending.returned e3

section
variable (p : Ent → Bool) (g : Nat) (lb : Array Value)
/-- What is asked of a predicate on the entries of l, from the world w on. -/
def Preds (l : List Ent) (p : Ent → Bool) (g : Nat) (lb : Array Value) (w : World) : Prop :=
  ∀ W y, y ∈ l → Below w.heap.size w W → Calls Try.prog g (#[evalue y] ++ lb) W fun e w' => e = .returned (.bool (p y)) ∧ Below W.heap.size W w'
/-- The first place, or -1. -/
def firstOf (p : Ent → Bool) (l : List Ent) : Int := if l.findIdx p < l.length then (l.findIdx p : Int) else -1
theorem first_hit {l : List Ent} {k : Nat} (hk : k < l.length) (h : p l[k] = true) (hb : ∀ j (hj : j < k), p (l[j]'(by omega)) = false) : firstOf p l = (k : Int) := by
  have e : l.findIdx p = k := by
    rw [List.findIdx_eq hk]
    exact ⟨h, fun j hj => hb j hj⟩
  unfold firstOf
  rw [e, if_pos hk]
theorem first_none {l : List Ent} (hb : ∀ j (hj : j < l.length), p l[j] = false) : firstOf p l = -1 := by
  have : ¬ l.findIdx p < l.length := fun h => by
    have := List.findIdx_getElem (w := h)
    rw [hb _ h] at this
    cases this
  unfold firstOf
  rw [if_neg this]

set_option maxHeartbeats 4000000 in
set_option maxRecDepth 100000 in
theorem indexFunc15_any (eg : ∀ args w, (callFunc g args).run Try.prog w = .ok (.enter g args) w) (A : Option Addr) (n c : Nat) (l : List Ent) (w : World) (h : Eds w A n c l) (hp : Preds l p g lb w) :
    Calls Try.prog 30 #[.slice A n c, .func (.func g) #[] lb] w fun e w' => e = .returned (.int .i64 (firstOf p l)) ∧ Below w.heap.size w w' := by
  have hn : n ≤ 9223372036854775807 := by have h1 := h.cap; have h2 := h.room; unfold maxLen at h2; omega
  have hl := Lib.hid h.len
  have hH := Lib.hid h
  have hp' := Lib.hid hp
  clear h hp
  go_enter Try.func30, Try.ntmps30
  go_wp2
  go_loopw [8] (fun i wr => ∃ k : Nat, k ≤ n ∧ i = .int .i64 k ∧ Below w.heap.size w wr ∧ ∀ j (hj : j < l.length), j < k → p l[j] = false) (fun i _ => n - (RowKit.intOf i).toNat)
  case atStart => exact ⟨0, Nat.zero_le _, rfl, Below.refl _ _, fun j _ h => absurd h (by omega)⟩
  case round =>
    obtain ⟨k, hk, rfl, hb, hall0⟩ := hrel
    have hall := Lib.hid hall0
    clear hall0
    by_cases hlt : k < n
    · have hkl : k < l.length := by rw [hl.out]; exact hlt
      obtain ⟨y, hy⟩ : ∃ y, y = l[k] := ⟨_, rfl⟩
      obtain ⟨b, off, rfl, h1, h2, h3, h4, h5, h6⟩ := (hH.out.later hb).six hlt hy
      have hcall := hp'.out wr y (by rw [hy]; exact List.getElem_mem hkl) hb
      have hgo := Lib.hid (show p y = false → ∀ j (hj : j < l.length), j < k + 1 → p l[j] = false from fun h j hj hjk => by
        by_cases e : j = k
        · subst e; rw [← hy]; exact h
        · exact hall.out j hj (by omega))
      have hplace := Lib.hid (show p y = true → firstOf p l = k from fun h => first_hit p hkl (by rw [← hy]; exact h) (fun j hj => hall.out j (by omega) hj))
      clear hy
      generalize p y = r at hcall hgo hplace
      obtain ⟨y1, y2, y3, y4, y5, y6⟩ := y
      unfold evalue at hcall
      simp only at h1 h2 h3 h4 h5 h6 hcall
      cases r with
      | true =>
        have hf := Lib.hid (hplace.out rfl)
        clear hplace hgo
        go_wp2_with (go_at_fn g; refine hcall.mono ?_; rintro e w2 ⟨rfl, hb2⟩)
        go_ret
        exact ⟨ret_int hf.out.symm, below_then hb hb2⟩
      | false =>
        have hf := Lib.hid (hgo.out rfl)
        clear hplace hgo
        go_wp2_with (go_at_fn g; refine hcall.mono ?_; rintro e w2 ⟨rfl, hb2⟩)
        go_roundw
        case rel => exact ⟨k + 1, by omega, by go_num, below_then hb hb2, hf.out⟩
        case measure => simp [RowKit.intOf]; omega
    · have e : k = n := by omega
      have hf := Lib.hid (first_none p (l := l) (fun j hj => hall.out j hj (by rw [← hl.out] at e; omega)))
      go_wp2
      go_ret
      exact ⟨ret_int hf.out.symm, hb⟩
end
theorem firstOf_any (p : Ent → Bool) (l : List Ent) : decide (0 ≤ firstOf p l) = l.any p := by
  unfold firstOf
  rw [Bool.eq_iff_iff, decide_eq_true_iff, List.any_eq_true]
  constructor
  · intro h
    split at h
    · rename_i hlt
      exact ⟨_, List.getElem_mem hlt, List.findIdx_getElem (w := hlt)⟩
    · omega
  · rintro ⟨y, hy, h⟩
    rw [if_pos (List.findIdx_lt_length_of_exists ⟨y, hy, h⟩)]
    omega
end Go.Proofs.Ythojnhdnflakiaa
