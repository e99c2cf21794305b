/-
  The fixed fact of law15. No condition.
-/
import Derived.Test.YthojnhdnflakiaaMemoPutNew
namespace Go.Proofs.Ythojnhdnflakiaa
open Go.RowKit Go.Lib Go.Shelf

theorem PM.fresh {w : World} {b most : Nat} {v : Value} {l : List Ent} (h : PM w b most v l) {B : Nat} (hB : B ≤ b) : Fresh B v := fun k hk => by
  have := (World.ownsRow.lt h.own k hk).1
  omega
theorem Turned2.below {w W W' : World} {b : Nat} {v : Value} (h : Turned2 W W' b v) (hb : Below w.heap.size w W) (hB : w.heap.size ≤ b) (hv : Fresh w.heap.size v) : Below w.heap.size w W' :=
  ⟨h.os.trans hb.os, h.tape.trans hb.tape, h.output.trans hb.output, Nat.le_trans hb.size h.size, fun k hk => (h.block k (Nat.lt_of_lt_of_le hk hb.size) (by omega) (fun e => by have := hv k e; omega)).trans (hb.block k hk)⟩
section
variable {P : Program} {ops : Array Oper} {Q : Exit → Act → World → Prop} {i : Nat} {o : Oper} {a : Act} {w : World} {K : Act → World → Prop}
theorem wpOp_call3' (ho : ops[i]? = some o) (hw : Region.wanted o (yielded ops a.tmps) = true) (f : FuncId) (x y z : Operand) (ts : Array TypeId) (hop : o.op = .call { callee := .value (.func f), args := #[x, y, z], argTypes := ts }) (u u' u'' : Value) (hx : a.eval x = u) (hy : a.eval y = u') (hz : a.eval z = u'')
    {R : Ending → World → Prop} (hcf : (callFunc f #[u, u', u'']).run P w = .ok (.enter f #[u, u', u'']) w) (hc : Calls P f #[u, u', u''] w R) (hK : ∀ e w', R e w' → ∃ v, e = .returned v ∧ K (a.put o.dst v) w') : wpOp P ops Q i K a w :=
  wpOp_call ho hw f #[u, u', u''] (by
    subst hx
    subst hy
    subst hz
    unfold execOp
    simp only [hop, resolve, Act.eval, Deferred.ofValue, invoke, Sem.run_bind, Sem.run_pure, Result.andThen_ok, List.map_toArray, List.map_cons, List.map_nil, Array.append_empty]
    exact hcf) hc hK
end

def eA : Ent := ⟨⟨#[97]⟩, ⟨#[117]⟩, false, ⟨#[80, 85, 84]⟩, ⟨#[]⟩, 9⟩
def eB : Ent := ⟨⟨#[98]⟩, ⟨#[117]⟩, false, ⟨#[]⟩, ⟨#[42]⟩, 9⟩
def eC : Ent := ⟨⟨#[98]⟩, ⟨#[117]⟩, false, ⟨#[]⟩, ⟨#[120]⟩, 0⟩
theorem put_A : put 1 [] eA 0 = [eA] := by simp [put, spot, room]
theorem put_B : put 1 [eA] eB 0 = [eB] := by
  have h : sameKey eA eB = false := by simp [sameKey, eA, eB, ByteArray.toList_eq]
  have h2 : live [eA] 0 = [eA] := by simp [live, eA]
  simp [put, spot, room, h, h2]
theorem has_A8 : has [eA] eA 8 = true := by simp [has, letsE, fits, eA]
theorem has_A9 : has [eA] eA 9 = false := by simp [has, letsE, eA]
theorem has_B8 : has [eB] eA 8 = false := by simp [has, letsE, eA, eB, ByteArray.toList_eq]
theorem has_BC : has [eB] eC 0 = true := by simp [has, letsE, fits, eB, eC, ByteArray.toList_eq]
theorem enters_has (vs : Array Value) (w : World) : (callFunc 11 vs).run Try.prog w = .ok (.enter 11 vs) w := by kernel_rfl
/-- What the slots of the statement hold that asks twice. -/
def awF (b : Nat) (j : Nat) (v : Value) (_ : World) : Prop :=
  match j with
  | 0 => v = .pointer (some ⟨b, 0, Option.none⟩)
  | 1 => v = evalue eA
  | 2 => v = .bool true
  | 3 => v = .pointer (some ⟨b, 0, Option.none⟩)
  | 4 => v = evalue eA
  | 5 => v = .bool false
  | 6 => v = .bool true
  | 7 => v = .bool false
  | _ => True
theorem awF_later {b : Nat} : Outlives (awF b) := by
  intro j v w w' h _
  unfold awF at h ⊢
  split at h
  all_goals exact h

set_option maxHeartbeats 8000000 in
set_option maxRecDepth 100000 in
theorem awake15_any (w : World) : Calls Try.prog 8 #[] w fun e w' => e = .returned (.bool true) ∧ Below w.heap.size w w' := by
  have hN1 : Hid (Calls Try.prog 6 #[.int .i64 1] w fun e w' => e = .returned (.tuple #[.pointer (some ⟨w.heap.size, 0, Option.none⟩), .int .i64 0]) ∧ PM w' w.heap.size 1 (.slice Option.none 0 0) [] ∧ Below w.heap.size w w') := Lib.hid (new_yes 1 (by decide) (by decide) w)
  have hN2 := Lib.hid (fun W => new_no 65 (.inr (by decide)) W)
  have hpA := Lib.hid (fun W v (h : PM W w.heap.size 1 v []) => (show Calls Try.prog 13 #[.pointer (some ⟨w.heap.size, 0, Option.none⟩), evalue eA, .int .i64 0] W fun e w' => e = .returned (.tuple #[]) ∧ ∃ v', PM w' w.heap.size 1 v' [eA] ∧ Moved W v v' ∧ Turned2 W w' w.heap.size v by
    have := put_any15 w.heap.size 1 v [] eA 0 W h (by decide) (by decide) (by decide)
    rwa [put_A] at this))
  have hpB := Lib.hid (fun W v (h : PM W w.heap.size 1 v [eA]) => (show Calls Try.prog 13 #[.pointer (some ⟨w.heap.size, 0, Option.none⟩), evalue eB, .int .i64 0] W fun e w' => e = .returned (.tuple #[]) ∧ ∃ v', PM w' w.heap.size 1 v' [eB] ∧ Moved W v v' ∧ Turned2 W w' w.heap.size v by
    have := put_any15 w.heap.size 1 v [eA] eB 0 W h (by decide) (by decide) (by decide)
    rwa [put_B] at this))
  have hh8 := Lib.hid (fun W v (h : PM W w.heap.size 1 v [eB]) => (show Calls Try.prog 11 #[.pointer (some ⟨w.heap.size, 0, Option.none⟩), evalue eA, .int .i64 8] W fun e w' => e = .returned (.bool false) ∧ Below W.heap.size W w' by
    have := has_any w.heap.size 1 v [eB] eA 8 W h
    rwa [has_B8] at this))
  have hhC := Lib.hid (fun W v (h : PM W w.heap.size 1 v [eB]) => (show Calls Try.prog 11 #[.pointer (some ⟨w.heap.size, 0, Option.none⟩), evalue eC, .int .i64 0] W fun e w' => e = .returned (.bool true) ∧ Below W.heap.size W w' by
    have := has_any w.heap.size 1 v [eB] eC 0 W h
    rwa [has_BC] at this))
  have hli := Lib.hid (fun W v (h : PM W w.heap.size 1 v [eB]) => list15_any w.heap.size 1 v [eB] W h (by decide))
  unfold evalue eA at hpA hh8
  unfold evalue eB at hpB
  unfold evalue eC at hhC
  simp only at hpA hpB hh8 hhC
  go_enter Try.func8, Try.ntmps8
  go_wp2_with (first
    | (go_at_call 6; (with_reducible refine hN1.out.mono ?_); rintro e w1 ⟨rfl, hP1, hb1⟩; have hP1' := Lib.hid hP1; have hs1 := Lib.hid (six_new w1 eA 32); clear hP1)
    | (go_at_call 13; refine (hpA.out _ _ (hP1'.out.later (below_box _ _))).mono ?_; rintro e w2 ⟨rfl, v2, hP2, hV2, hT2⟩; have hP2' := Lib.hid hP2; have hV2' := Lib.hid hV2; have hT2' := Lib.hid hT2; clear hP2 hV2 hT2))
  have hz2 := Lib.hid (hs1.out.block (hT2'.out.block w1.heap.size (by simp) (by have := hP1'.out.lt; omega) (fun e => by cases e)))
  refine wp_region_each (RInv 57 [18, 19, 20, 21, 22, 23, 4, 5] _ (awF w.heap.size) w2 NoMore) (by kernel_rfl) (by kernel_rfl) (RInv.start rfl trivial (Below.refl _ _).drew) ?_ ?_
  · intro i hi D a wy hI hcl hnd hpre
    have hi' : i < 8 := hi
    have hcase : i = 0 ∨ i = 1 ∨ i = 2 ∨ i = 3 ∨ i = 4 ∨ i = 5 ∨ i = 6 ∨ i = 7 := by omega
    have hF := hI.fact
    rcases hcase with rfl | rfl | rfl | rfl | rfl | rfl | rfl | rfl
    · exact wpOp_move rfl (wanted_free rfl) _ rfl _ (hI.same 1 (by decide)) (hI.add (by decide) awF_later (by decide) (Below.refl _ _) rfl)
    · exact wpOp_load rfl (wanted_free rfl) _ _ rfl _ _ (hI.same 3 (by decide)) (run_loadS wy w1.heap.size eA (hz2.out.later hI.below)) (hI.add (by decide) awF_later (by decide) (Below.refl _ _) rfl)
    · exact wpOp_call3' rfl (wanted_free rfl) 11 _ _ _ _ rfl _ _ _ (hF 0 (hpre 0 (by kernel_rfl))) (hF 1 (hpre 1 (by kernel_rfl))) rfl (enters_has _ _) (has_any w.heap.size 1 v2 [eA] eA 8 wy (hP2'.out.later hI.below)) (fun e w' h => ⟨_, h.1, hI.add (by decide) awF_later (by decide) h.2 (congrArg Value.bool has_A8)⟩)
    · exact wpOp_move rfl (wanted_free rfl) _ rfl _ (hI.same 1 (by decide)) (hI.add (by decide) awF_later (by decide) (Below.refl _ _) rfl)
    · exact wpOp_load rfl (wanted_free rfl) _ _ rfl _ _ (hI.same 3 (by decide)) (run_loadS wy w1.heap.size eA (hz2.out.later hI.below)) (hI.add (by decide) awF_later (by decide) (Below.refl _ _) rfl)
    · exact wpOp_call3' rfl (wanted_free rfl) 11 _ _ _ _ rfl _ _ _ (hF 3 (hpre 3 (by kernel_rfl))) (hF 4 (hpre 4 (by kernel_rfl))) rfl (enters_has _ _) (has_any w.heap.size 1 v2 [eA] eA 9 wy (hP2'.out.later hI.below)) (fun e w' h => ⟨_, h.1, hI.add (by decide) awF_later (by decide) h.2 (congrArg Value.bool has_A9)⟩)
    · exact wpOp_assign rfl (wanted_free rfl) _ rfl _ (hF 2 (hpre 2 (by kernel_rfl))) (hI.add (by decide) awF_later (by decide) (Below.refl _ _) rfl)
    · exact wpOp_assign rfl (wanted_free rfl) _ rfl _ (hF 5 (hpre 5 (by kernel_rfl))) (hI.add (by decide) awF_later (by decide) (Below.refl _ _) rfl)
  · intro D a w3 hI hall
    have hB3 := Lib.hid hI.below
    obtain ⟨fs, rfl, hfs⟩ := hI.done (by decide) rfl (fun i hi => hall i hi)
    have e4 : fs 4 = .bool true := hfs 6 (by decide)
    have e5 : fs 5 = .bool false := hfs 7 (by decide)
    clear hI hall hfs
    simp only [putAll, List.map_cons, List.map_nil, Act.put, List.setIfInBounds_toArray, List.set_cons_zero, List.set_cons_succ]
    rw [e4, e5]
    clear e4 e5
    generalize fs 18 = u18
    generalize fs 19 = u19
    generalize fs 20 = u20
    generalize fs 21 = u21
    generalize fs 22 = u22
    generalize fs 23 = u23
    have hP3 := Lib.hid (hP2'.out.later hB3.out)
    have hz3 := Lib.hid (hz2.out.later hB3.out)
    have hown2 := Lib.hid (show v2.ownBlock ≠ some w1.heap.size from fun e => by
      rcases hV2'.out with h | h
      · rw [h] at e; cases e
      · have := h _ e
        simp at this
        omega)
    go_wp2_with (first
      | (go_at_call 13; refine (hpB.out _ _ hP3.out).mono ?_; rintro e w4 ⟨rfl, v4, hP4, hV4, hT4⟩; have hP4' := Lib.hid hP4; have hT4' := Lib.hid hT4; have hz4 := Lib.hid (hz3.out.block (hT4.block w1.heap.size (Nat.lt_of_lt_of_le (show w1.heap.size < (w1.alloc (.cells (ecell eA).toArray 32)).heap.size by simp) (Nat.le_trans hT2'.out.size hB3.out.size)) (by have := hP1'.out.lt; omega) hown2.out)); clear hP4 hV4 hT4; obtain ⟨z1, z2, z3, z4, z5, z6⟩ := hz4.out; unfold eA at z1 z2 z3 z4 z5 z6; simp only at z1 z2 z3 z4 z5 z6)
      | (go_at_call 6; (with_reducible refine (hN2.out _).mono ?_); rintro e w' ⟨rfl, hw⟩; subst hw)
      | (go_at_call 11; (with_reducible refine (hh8.out _ _ hP4'.out).mono ?_); rintro e w5 ⟨rfl, hb5⟩; have hP5 := Lib.hid (hP4'.out.later hb5))
      | (go_at_call 11; (with_reducible refine (hhC.out _ _ hP5.out).mono ?_); rintro e w6 ⟨rfl, hb6⟩; have hP6 := Lib.hid (hP5.out.later hb6))
      | (go_at_call 16; refine (hli.out _ _ hP6.out).mono ?_; rintro e w7 ⟨v7, rfl, hO7, hb7⟩; obtain ⟨A7, c7, rfl, _⟩ := hO7.eds; have hl1 : [eB].length = 1 := rfl; rw [hl1]; clear hO7))
    go_ret
    have hW1 : Below w.heap.size w (w1.alloc (.cells (ecell eA).toArray 32)) := below_then hb1 (below_box w1 _)
    have hW2 := hT2'.out.below hW1 (Nat.le_refl _) (fun k e => by cases e)
    have hW3 := below_then hW2 hB3.out
    have hW4 := hT4'.out.below hW3 (Nat.le_refl _) (hP3.out.fresh (Nat.le_refl _))
    exact ⟨ret_bool (by simp), below_then (below_then (below_then hW4 hb5) hb6) hb7⟩
end Go.Proofs.Ythojnhdnflakiaa
