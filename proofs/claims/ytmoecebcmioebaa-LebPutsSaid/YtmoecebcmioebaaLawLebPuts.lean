/-
  The walk of the statement LebPuts: for any bytes and any number of 64 bits it returns true, and nothing that was there is changed.
-/
import Derived.Test.YtmoecebcmioebaaAwake
import Derived.Test.YtmoecebcmioebaaRegion
namespace Go.Proofs.Ytmoecebcmioebaa
open Go.RowKit Leb

/-- A slot holds a slice that reads as l. -/
def BB (l : List Int) (v : Value) (w : World) : Prop := ∃ A c, v = .slice A l.length c ∧ Holds w A l.length c l
theorem BB.later {l : List Int} {v : Value} {w w' : World} (h : BB l v w) (hb : Below w.heap.size w w') : BB l v w' := by
  obtain ⟨A, c, rfl, hA⟩ := h
  exact ⟨A, c, rfl, hA.later hb⟩

/-- The block of the own slice v is not the one in which u's bytes lie. -/
def Apart (v u : Value) : Prop := ∀ g b off n c, v.ownBlock = some g → u = .slice (some ⟨b, off, Option.none⟩) n c → 0 < n → b ≠ g

theorem Holds.grown {w w' : World} {A : Option Addr} {n c : Nat} {l : List Int} {v : Value} (h : Holds w A n c l) (hg : w.grownBy w' v.ownBlock) (ha : Apart v (.slice A n c)) : Holds w' A n c l :=
  ⟨h.len, h.byt, h.cap, h.room, h.bare, fun hn => by
    obtain ⟨b, off, rfl, hc⟩ := h.cell hn
    refine ⟨b, off, rfl, fun j hj => ?_⟩
    have hlt := World.block_lt_of_cell? w _ (hc 0 hn)
    rw [← hc j hj]
    exact World.cell?_of_block (hg.block b hlt (fun e => ha b b off n c e.symm rfl hn rfl))⟩

theorem BB.grown {l : List Int} {v u : Value} {w w' : World} (h : BB l u w) (hg : w.grownBy w' v.ownBlock) (ha : Apart v u) : BB l u w' := by
  obtain ⟨A, c, rfl, hA⟩ := h
  exact ⟨A, c, rfl, hA.grown hg ha⟩

theorem Holds.block {w : World} {b off n c : Nat} {l : List Int} (h : Holds w (some ⟨b, off, Option.none⟩) n c l) (hn : 0 < n) : b < w.heap.size := by
  obtain ⟨b', off', e, hc⟩ := h.cell hn
  injection e with e
  injection e with e1 e2
  subst e1
  exact World.block_lt_of_cell? w _ (hc 0 hn)

theorem BB.block {w : World} {l : List Int} {u : Value} (h : BB l u w) {b off n c : Nat} (hu : u = .slice (some ⟨b, off, Option.none⟩) n c) (hn : 0 < n) : b < w.heap.size := by
  obtain ⟨A, cc, rfl, hA⟩ := h
  injection hu with h1 h2 h3
  subst h1
  subst h2
  exact hA.block hn

theorem run_empty (w : World) : (Instr.buildSlice 22 0 #[]).run Try.prog w = .ok (.slice (some ⟨w.heap.size, 0, Option.none⟩) 0 0) (w.alloc (.cells #[] 5)) := by go_simp

/-- The slot that operation j writes. -/
def puD (j : Nat) : Nat := if j = 25 then 4 else j + 5
theorem puD_ne {i j : Nat} (h : j ≠ i) : puD j ≠ puD i := by unfold puD; split <;> split <;> omega

/-- What the slot of operation j holds once it is done. -/
def puF (A : Option Addr) (n c k : Nat) (l : List Int) (m : Nat) (j : Nat) (v : Value) (w : World) : Prop :=
  match j with
  | 0 | 1 | 15 | 16 | 17 | 23 | 24 | 25 => v = .bool true
  | 2 | 8 => v = .slice A n c
  | 3 | 9 => v = .slice A k c
  | 4 | 11 | 18 | 20 => v = .int .u64 m
  | 5 | 13 => BB (l ++ enc m) v w
  | 6 | 14 => v = .string (strOfNums (l ++ enc m))
  | 19 | 22 => v = .int .i64 (size m)
  | 21 => BB (enc m) v w
  | _ => True

section
variable {A : Option Addr} {n c k m : Nat} {l : List Int}

theorem puF_later {j : Nat} {v : Value} {w w' : World} (h : puF A n c k l m j v w) (hb : Below w.heap.size w w') : puF A n c k l m j v w' := by
  unfold puF at h ⊢
  split at h
  all_goals first | exact h.later hb | exact h

theorem puF_grown {j : Nat} {v u : Value} {w w' : World} (h : puF A n c k l m j u w) (h13 : j ≠ 13) (h21 : j ≠ 21) (hg : w.grownBy w' v.ownBlock) (ha : j = 5 → Apart v u) : puF A n c k l m j u w' := by
  by_cases h5 : j = 5
  · subst h5
    exact BB.grown h hg (ha rfl)
  · unfold puF at h ⊢
    split at h
    all_goals first | exact h | omega

/-- What is known of the slices that the statement itself makes, while they are of use. -/
def PuX (w0 : World) (l : List Int) (m : Nat) (D : Nat → Prop) (a : Act) (w : World) : Prop :=
  (D 7 → ¬ D 10 → Owns w w0.heap.size 5 (a.eval (.tmp 12)) [] ∧ (D 5 → Apart (a.eval (.tmp 12)) (a.eval (.tmp 10)))) ∧
  (D 10 → ¬ D 13 → Owns w w0.heap.size 5 (a.eval (.tmp 15)) l ∧ Apart (a.eval (.tmp 15)) (a.eval (.tmp 10))) ∧
  (D 12 → ¬ D 13 → BB (enc m) (a.eval (.tmp 17)) w)

def PuInv (w0 : World) (A : Option Addr) (n c k : Nat) (l : List Int) (m : Nat) (D : Nat → Prop) (a : Act) (w : World) : Prop :=
  a.tmps.size = 30 ∧ a.defers = [] ∧ a.eval (.tmp 0) = .slice A n c ∧ a.eval (.tmp 1) = .int .u64 m ∧
  (∀ j, D j → puF A n c k l m j (a.eval (.tmp (puD j))) w) ∧ PuX w0 l m D a w ∧ Below w0.heap.size w0 w

/-- An operation is done: the frame, and what the other slots hold. -/
theorem PuInv.put {w0 : World} {D : Nat → Prop} {a : Act} {w w' : World} {i : Nat} {v : Value} (hI : PuInv w0 A n c k l m D a w) (hi : i < 26)
    (hF : ∀ j, D j → j ≠ i → puF A n c k l m j (a.eval (.tmp (puD j))) w → puF A n c k l m j (a.eval (.tmp (puD j))) w') (hv : puF A n c k l m i v w')
    (hX : PuX w0 l m (fun j => D j ∨ j = i) (a.put (some (puD i)) v) w') (hb : Below w0.heap.size w0 w') : PuInv w0 A n c k l m (fun j => D j ∨ j = i) (a.put (some (puD i)) v) w' := by
  obtain ⟨h1, h2, h3, h4, h5, _, _⟩ := hI
  have hd : puD i < a.tmps.size := by rw [h1]; unfold puD; split <;> omega
  have hd0 : 2 ≤ puD i := by unfold puD; split <;> omega
  refine ⟨by rw [size_put, h1], by rw [defers_put, h2], by rw [eval_put_other _ _ (by omega), h3], by rw [eval_put_other _ _ (by omega), h4], fun j hj => ?_, hX, hb⟩
  by_cases hji : j = i
  · subst hji
    rw [eval_put_same _ _ _ hd]
    exact hv
  · have hj' : D j := hj.resolve_right hji
    rw [eval_put_other _ _ (puD_ne hji)]
    exact hF j hj' hji (h5 j hj')

/-- The plain operations: they leave memory as it was, or make some. -/
theorem PuInv.add {w0 : World} {D : Nat → Prop} {a : Act} {w w' : World} {i : Nat} {v : Value} (hI : PuInv w0 A n c k l m D a w) (hi : i < 26) (h5 : i ≠ 5) (h7 : i ≠ 7) (h10 : i ≠ 10) (h12 : i ≠ 12)
    (hb : Below w.heap.size w w') (hv : puF A n c k l m i v w') : PuInv w0 A n c k l m (fun j => D j ∨ j = i) (a.put (some (puD i)) v) w' := by
  have hX := hI.2.2.2.2.2.1
  have hB := hI.2.2.2.2.2.2
  refine hI.put hi (fun j _ _ h => puF_later h hb) hv ?_ (hB.trans (hb.mono hB.size))
  have e : ∀ t, puD t ≠ puD i → (a.put (some (puD i)) v).eval (.tmp (puD t)) = a.eval (.tmp (puD t)) := fun t ht => eval_put_other _ _ ht
  have e12 : (a.put (some (puD i)) v).eval (.tmp 12) = a.eval (.tmp 12) := e 7 (puD_ne (Ne.symm h7))
  have e10 : (a.put (some (puD i)) v).eval (.tmp 10) = a.eval (.tmp 10) := e 5 (puD_ne (Ne.symm h5))
  have e15 : (a.put (some (puD i)) v).eval (.tmp 15) = a.eval (.tmp 15) := e 10 (puD_ne (Ne.symm h10))
  have e17 : (a.put (some (puD i)) v).eval (.tmp 17) = a.eval (.tmp 17) := e 12 (puD_ne (Ne.symm h12))
  unfold PuX
  rw [e12, e10, e15, e17]
  refine ⟨fun d7 d10 => ?_, fun d10 d13 => ?_, fun d12 d13 => ?_⟩
  · obtain ⟨x1, x2⟩ := hX.1 (d7.resolve_right (Ne.symm h7)) (fun h => d10 (.inl h))
    exact ⟨x1.kept hb (Nat.le_refl _), fun d5 => x2 (d5.resolve_right (Ne.symm h5))⟩
  · obtain ⟨x1, x2⟩ := hX.2.1 (d10.resolve_right (Ne.symm h10)) (fun h => d13 (.inl h))
    exact ⟨x1.kept hb (Nat.le_refl _), x2⟩
  · exact (hX.2.2 (d12.resolve_right (Ne.symm h12)) (fun h => d13 (.inl h))).later hb
end

theorem enters_awake (vs : Array Value) (w : World) : (callFunc 7 vs).run Try.prog w = .ok (.enter 7 vs) w := by kernel_rfl
theorem enters_short (vs : Array Value) (w : World) : (callFunc 9 vs).run Try.prog w = .ok (.enter 9 vs) w := by kernel_rfl
theorem enters_size (vs : Array Value) (w : World) : (callFunc 11 vs).run Try.prog w = .ok (.enter 11 vs) w := by kernel_rfl
theorem enters_put (vs : Array Value) (w : World) : (callFunc 8 vs).run Try.prog w = .ok (.enter 8 vs) w := by kernel_rfl
theorem enters_bytes (vs : Array Value) (w : World) : (callFunc 10 vs).run Try.prog w = .ok (.enter 10 vs) w := by kernel_rfl

theorem run_same_text (x y : Operand) (s : ByteArray) (w : World) : (do eqGuard .eql 9 x y (.string s) (.string s); binOp .eql 9 (.string s) (.string s) : Sem Value).run Try.prog w = .ok (.bool true) w := by go_simp
theorem run_same_int (x y : Operand) (z : Int) (w : World) : (do eqGuard .eql 3 x y (.int .i64 z) (.int .i64 z); binOp .eql 3 (.int .i64 z) (.int .i64 z) : Sem Value).run Try.prog w = .ok (.bool true) w := by go_simp

set_option maxRecDepth 100000 in
set_option maxHeartbeats 1600000 in
theorem lebPuts_law (A : Option Addr) (n c : Nat) (l0 : List Int) (m : Nat) (w0 : World) (hA : Holds w0 A n c l0) (hm : U64 m) :
    Calls Try.prog 3 #[.slice A n c, .int .u64 m] w0 (Yes w0) := by
  obtain ⟨i0, hi0, hz0, hz1, hz2⟩ := info_parts Try.info8
  have hS := hA.front (k := min n 200) (Nat.min_le_left _ _)
  have hk : min n 200 ≤ 200 := Nat.min_le_right _ _
  have SA : ∀ W, Below w0.heap.size w0 W → Calls Try.prog 9 #[.slice A n c] W fun e w' => e = .returned (.slice A (min n 200) c) ∧ W = w' := fun W hb => short_any A n c l0 W (hA.later hb)
  generalize min n 200 = k at *
  generalize l0.take k = l at *
  have HSA := Lib.hid SA
  clear SA
  go_enter Try.func3, Try.ntmps3
  go_wp2
  refine wp_region_each (PuInv w0 A n c k l m) (by kernel_rfl) (by kernel_rfl) ?_ ?_ ?_
  · exact ⟨rfl, rfl, rfl, rfl, fun j h => h.elim, ⟨fun h => h.elim, fun h => h.elim, fun h => h.elim⟩, (Below.refl _ _).drew⟩
  · intro i hi D a w hI hcl hnd hpre
    have hi' : i < 26 := hi
    have hcase : i = 0 ∨ i = 1 ∨ i = 2 ∨ i = 3 ∨ i = 4 ∨ i = 5 ∨ i = 6 ∨ i = 7 ∨ i = 8 ∨ i = 9 ∨ i = 10 ∨ i = 11 ∨ i = 12 ∨ i = 13 ∨ i = 14 ∨ i = 15 ∨ i = 16 ∨ i = 17 ∨ i = 18 ∨ i = 19 ∨ i = 20 ∨ i = 21 ∨ i = 22 ∨ i = 23 ∨ i = 24 ∨ i = 25 := by omega
    have hF := hI.2.2.2.2.1
    have hX := hI.2.2.2.2.2.1
    have hB := hI.2.2.2.2.2.2
    rcases hcase with rfl | rfl | rfl | rfl | rfl | rfl | rfl | rfl | rfl | rfl | rfl | rfl | rfl | rfl | rfl | rfl | rfl | rfl | rfl | rfl | rfl | rfl | rfl | rfl | rfl | rfl
    · refine wpOp_call0 rfl (wanted_free rfl) 7 _ rfl (enters_awake _ _) (awake_any w) (fun e w' h => ⟨_, h.1, hI.add (by omega) (by omega) (by omega) (by omega) (by omega) h.2 rfl⟩)
    · have f0 : a.eval (.tmp 5) = (.bool true) := hF 0 (hpre 0 (by kernel_rfl))
      exact wpOp_move rfl (wanted_free rfl) _ rfl (.bool true) f0 (hI.add (by omega) (by omega) (by omega) (by omega) (by omega) (Below.refl _ _) rfl)
    · have g1 : a.eval (.tmp 6) = .bool true := hF 1 (hpre 1 (by kernel_rfl))
      exact wpOp_move rfl (wanted_by (d := 6) rfl _ rfl rfl g1) _ rfl (.slice A n c) hI.2.2.1 (hI.add (by omega) (by omega) (by omega) (by omega) (by omega) (Below.refl _ _) rfl)
    · have g1 : a.eval (.tmp 6) = .bool true := hF 1 (hpre 1 (by kernel_rfl))
      have f2 : a.eval (.tmp 7) = (.slice A n c) := hF 2 (hpre 2 (by kernel_rfl))
      refine wpOp_call1 rfl (wanted_by (d := 6) rfl _ rfl rfl g1) 9 _ _ rfl _ f2 (enters_short _ _) (HSA.out w hB) (fun e w' h => ?_)
      obtain ⟨rfl, rfl⟩ := h
      exact ⟨_, rfl, hI.add (by omega) (by omega) (by omega) (by omega) (by omega) (Below.refl _ _) rfl⟩
    · have g1 : a.eval (.tmp 6) = .bool true := hF 1 (hpre 1 (by kernel_rfl))
      exact wpOp_move rfl (wanted_by (d := 6) rfl _ rfl rfl g1) _ rfl (.int .u64 (m : Int)) hI.2.2.2.1 (hI.add (by omega) (by omega) (by omega) (by omega) (by omega) (Below.refl _ _) rfl)
    · have g1 : a.eval (.tmp 6) = .bool true := hF 1 (hpre 1 (by kernel_rfl))
      have f3 : a.eval (.tmp 8) = (.slice A k c) := hF 3 (hpre 3 (by kernel_rfl))
      have f4 : a.eval (.tmp 9) = (.int .u64 (m : Int)) := hF 4 (hpre 4 (by kernel_rfl))
      have n10 : ¬ D 10 := fun h => hnd (hcl 9 (hcl 10 h 9 (by kernel_rfl)) 5 (by kernel_rfl))
      have n12 : ¬ D 12 := fun h => n10 (hcl 12 h 10 (by kernel_rfl))
      refine wpOp_call2 rfl (wanted_by (d := 6) rfl _ rfl rfl g1) 8 _ _ _ rfl _ _ f3 f4 (enters_put _ _) (put_any A k c l m w hm (hS.later hB) (by omega)) (fun e w' h => ?_)
      obtain ⟨v, rfl, ho, hb⟩ := h
      refine ⟨_, rfl, hI.put (i := 5) (by omega) (fun j _ _ h => puF_later h hb) ho.holds ⟨fun d7 _ => ?_, fun d10 => absurd (d10.resolve_right (by omega)) n10, fun d12 => absurd (d12.resolve_right (by omega)) n12⟩ (hB.trans (hb.mono hB.size))⟩
      obtain ⟨x1, _⟩ := hX.1 (d7.resolve_right (by omega)) n10
      have e12 : (a.put (some (puD 5)) v).eval (.tmp 12) = a.eval (.tmp 12) := eval_put_other a v (by decide)
      have e10 : (a.put (some (puD 5)) v).eval (.tmp 10) = v := eval_put_same a 10 v (by rw [hI.1]; omega)
      rw [e12, e10]
      refine ⟨x1.kept hb (Nat.le_refl _), fun _ g b off nn cc hg hv _ hbg => ?_⟩
      have h1 := x1.2.lt g hg
      have h2 := ho.2.lt b (by rw [hv]; rfl)
      omega
    · have g1 : a.eval (.tmp 6) = .bool true := hF 1 (hpre 1 (by kernel_rfl))
      obtain ⟨Ax, cx, hx, hH⟩ : BB (l ++ enc m) (a.eval (.tmp 10)) w := hF 5 (hpre 5 (by kernel_rfl))
      exact wpOp_convert rfl (wanted_by (d := 6) rfl _ rfl rfl g1) _ _ _ rfl _ _ hx (run_text _ _ 5 Try.underlying22 Try.underlying5 Try.underlying9 hH) (hI.add (by omega) (by omega) (by omega) (by omega) (by omega) (Below.refl _ _) rfl)
    · have g1 : a.eval (.tmp 6) = .bool true := hF 1 (hpre 1 (by kernel_rfl))
      have n10 : ¬ D 10 := fun h => hnd (hcl 10 h 7 (by kernel_rfl))
      have n12 : ¬ D 12 := fun h => n10 (hcl 12 h 10 (by kernel_rfl))
      have hb : Below w.heap.size w (w.alloc (.cells #[] 5)) := (Below.refl _ _).alloc (Nat.le_refl _) _
      refine wpOp_build rfl (wanted_by (d := 6) rfl _ rfl rfl g1) _ _ _ rfl #[] (by simp) _ (run_empty w) (hI.put (i := 7) (by omega) (fun j _ _ h => puF_later h hb) trivial ⟨fun _ _ => ?_, fun d10 => absurd (d10.resolve_right (by omega)) n10, fun d12 => absurd (d12.resolve_right (by omega)) n12⟩ (hB.trans (hb.mono hB.size)))
      have e12 : (a.put (some (puD 7)) (.slice (some ⟨w.heap.size, 0, Option.none⟩) 0 0)).eval (.tmp 12) = .slice (some ⟨w.heap.size, 0, Option.none⟩) 0 0 := eval_put_same a 12 _ (by rw [hI.1]; omega)
      have e10 : (a.put (some (puD 7)) (.slice (some ⟨w.heap.size, 0, Option.none⟩) 0 0)).eval (.tmp 10) = a.eval (.tmp 10) := eval_put_other a _ (by decide)
      rw [e12, e10]
      refine ⟨owns_lit w w0.heap.size 5 #[] [] rfl Bytes.nil (by simp) hB.size, fun d5 g b off nn cc hg hv hn hbg => ?_⟩
      have hg' : w.heap.size = g := by simpa [Value.ownBlock] using hg
      exact absurd (BB.block (hF 5 (d5.resolve_right (by omega))) hv hn) (by omega)
    · have g1 : a.eval (.tmp 6) = .bool true := hF 1 (hpre 1 (by kernel_rfl))
      exact wpOp_move rfl (wanted_by (d := 6) rfl _ rfl rfl g1) _ rfl (.slice A n c) hI.2.2.1 (hI.add (by omega) (by omega) (by omega) (by omega) (by omega) (Below.refl _ _) rfl)
    · have g1 : a.eval (.tmp 6) = .bool true := hF 1 (hpre 1 (by kernel_rfl))
      have f8 : a.eval (.tmp 13) = (.slice A n c) := hF 8 (hpre 8 (by kernel_rfl))
      refine wpOp_call1 rfl (wanted_by (d := 6) rfl _ rfl rfl g1) 9 _ _ rfl _ f8 (enters_short _ _) (HSA.out w hB) (fun e w' h => ?_)
      obtain ⟨rfl, rfl⟩ := h
      exact ⟨_, rfl, hI.add (by omega) (by omega) (by omega) (by omega) (by omega) (Below.refl _ _) rfl⟩
    · have g1 : a.eval (.tmp 6) = .bool true := hF 1 (hpre 1 (by kernel_rfl))
      have f9 : a.eval (.tmp 14) = (.slice A k c) := hF 9 (hpre 9 (by kernel_rfl))
      have d7 := hpre 7 (by kernel_rfl)
      have d9 := hpre 9 (by kernel_rfl)
      have d5 := hcl 9 d9 5 (by kernel_rfl)
      have n12 : ¬ D 12 := fun h => hnd (hcl 12 h 10 (by kernel_rfl))
      have n13 : ¬ D 13 := fun h => hnd (hcl 13 h 10 (by kernel_rfl))
      have n21 : ¬ D 21 := fun h => n13 (hcl 17 (hcl 21 h 17 (by kernel_rfl)) 13 (by kernel_rfl))
      obtain ⟨x1, x2⟩ := hX.1 d7 hnd
      refine wpOp_append rfl (wanted_by (d := 6) rfl _ rfl rfl g1) _ _ 22 rfl w0.heap.size 5 i0 Try.underlying22 hi0 hz0 hz1 hz2 _ [] rfl x1 A k c l f9 (hS.later hB) (by simp; omega) hB.size (fun v w' ho hg hat => ?_)
      refine hI.put (i := 10) (by omega) (fun j dj _ h => puF_grown h (fun e => n13 (e ▸ dj)) (fun e => n21 (e ▸ dj)) hg (fun e => by subst e; exact x2 d5)) trivial ⟨fun _ h => absurd (.inr rfl) h, fun _ _ => ?_, fun d12 => absurd (d12.resolve_right (by omega)) n12⟩ (below_own hB x1 hg hB.size)
      have e15 : (a.put (some (puD 10)) v).eval (.tmp 15) = v := eval_put_same a 15 _ (by rw [hI.1]; omega)
      have e10 : (a.put (some (puD 10)) v).eval (.tmp 10) = a.eval (.tmp 10) := eval_put_other a _ (by decide)
      rw [e15, e10]
      refine ⟨ho, fun g b off nn cc hg' hv hn hbg => ?_⟩
      rcases hat with e | e
      · exact x2 d5 g b off nn cc (by rw [← e]; exact hg') hv hn hbg
      · have h1 := BB.block (hF 5 d5) hv hn
        rw [e] at hg'
        injection hg' with hg'
        omega
    · have g1 : a.eval (.tmp 6) = .bool true := hF 1 (hpre 1 (by kernel_rfl))
      exact wpOp_move rfl (wanted_by (d := 6) rfl _ rfl rfl g1) _ rfl (.int .u64 (m : Int)) hI.2.2.2.1 (hI.add (by omega) (by omega) (by omega) (by omega) (by omega) (Below.refl _ _) rfl)
    · have g1 : a.eval (.tmp 6) = .bool true := hF 1 (hpre 1 (by kernel_rfl))
      have f11 : a.eval (.tmp 16) = (.int .u64 (m : Int)) := hF 11 (hpre 11 (by kernel_rfl))
      have d10 := hpre 10 (by kernel_rfl)
      have n13 : ¬ D 13 := fun h => hnd (hcl 13 h 12 (by kernel_rfl))
      obtain ⟨x1, x2⟩ := hX.2.1 d10 n13
      refine wpOp_call1 rfl (wanted_by (d := 6) rfl _ rfl rfl g1) 10 _ _ rfl _ f11 (enters_bytes _ _) (bytes_any m w hm) (fun e w' h => ?_)
      obtain ⟨v, rfl, ho, hb⟩ := h
      refine ⟨_, rfl, hI.put (i := 12) (by omega) (fun j _ _ h => puF_later h hb) trivial ⟨fun _ h => absurd (.inl d10) h, fun _ _ => ?_, fun _ _ => ?_⟩ (hB.trans (hb.mono hB.size))⟩
      · have e15 : (a.put (some (puD 12)) v).eval (.tmp 15) = a.eval (.tmp 15) := eval_put_other a _ (by decide)
        have e10 : (a.put (some (puD 12)) v).eval (.tmp 10) = a.eval (.tmp 10) := eval_put_other a _ (by decide)
        rw [e15, e10]
        exact ⟨x1.kept hb (Nat.le_refl _), x2⟩
      · have e17 : (a.put (some (puD 12)) v).eval (.tmp 17) = v := eval_put_same a 17 _ (by rw [hI.1]; omega)
        rw [e17]
        exact ho.holds
    · have g1 : a.eval (.tmp 6) = .bool true := hF 1 (hpre 1 (by kernel_rfl))
      have d10 := hpre 10 (by kernel_rfl)
      have d12 := hpre 12 (by kernel_rfl)
      have n21 : ¬ D 21 := fun h => hnd (hcl 17 (hcl 21 h 17 (by kernel_rfl)) 13 (by kernel_rfl))
      obtain ⟨x1, x2⟩ := hX.2.1 d10 hnd
      obtain ⟨Ay, cy, hy, hY⟩ := hX.2.2 d12 hnd
      have hle : (enc m).length ≤ 10 := size_le10 hm
      refine wpOp_append rfl (wanted_by (d := 6) rfl _ rfl rfl g1) _ _ 22 rfl w0.heap.size 5 i0 Try.underlying22 hi0 hz0 hz1 hz2 _ l rfl x1 Ay _ cy (enc m) hy hY (by rw [hS.len]; omega) hB.size (fun v w' ho hg hat => ?_)
      exact hI.put (i := 13) (by omega) (fun j dj hj h => puF_grown h hj (fun e => n21 (e ▸ dj)) hg (fun e => by subst e; exact x2)) ho.holds ⟨fun _ h => absurd (.inl d10) h, fun _ h => absurd (.inr rfl) h, fun _ h => absurd (.inr rfl) h⟩ (below_own hB x1 hg hB.size)
    · have g1 : a.eval (.tmp 6) = .bool true := hF 1 (hpre 1 (by kernel_rfl))
      obtain ⟨Ax, cx, hx, hH⟩ : BB (l ++ enc m) (a.eval (.tmp 18)) w := hF 13 (hpre 13 (by kernel_rfl))
      exact wpOp_convert rfl (wanted_by (d := 6) rfl _ rfl rfl g1) _ _ _ rfl _ _ hx (run_text _ _ 5 Try.underlying22 Try.underlying5 Try.underlying9 hH) (hI.add (by omega) (by omega) (by omega) (by omega) (by omega) (Below.refl _ _) rfl)
    · have g1 : a.eval (.tmp 6) = .bool true := hF 1 (hpre 1 (by kernel_rfl))
      have f6 : a.eval (.tmp 11) = (.string (strOfNums (l ++ enc m))) := hF 6 (hpre 6 (by kernel_rfl))
      have f14 : a.eval (.tmp 19) = (.string (strOfNums (l ++ enc m))) := hF 14 (hpre 14 (by kernel_rfl))
      exact wpOp_bin rfl (wanted_by (d := 6) rfl _ rfl rfl g1) _ _ _ _ _ rfl _ _ (.bool true) f6 f14 (run_same_text _ _ _ _) (hI.add (by omega) (by omega) (by omega) (by omega) (by omega) (Below.refl _ _) rfl)
    · have f1 : a.eval (.tmp 6) = (.bool true) := hF 1 (hpre 1 (by kernel_rfl))
      have f15 : a.eval (.tmp 20) = (.bool true) := hF 15 (hpre 15 (by kernel_rfl))
      exact wpOp_pick rfl (wanted_free rfl) _ _ _ rfl true f1 (.bool true) f15 (hI.add (by omega) (by omega) (by omega) (by omega) (by omega) (Below.refl _ _) rfl)
    · have f16 : a.eval (.tmp 21) = (.bool true) := hF 16 (hpre 16 (by kernel_rfl))
      exact wpOp_move rfl (wanted_free rfl) _ rfl (.bool true) f16 (hI.add (by omega) (by omega) (by omega) (by omega) (by omega) (Below.refl _ _) rfl)
    · have g17 : a.eval (.tmp 22) = .bool true := hF 17 (hpre 17 (by kernel_rfl))
      exact wpOp_move rfl (wanted_by (d := 22) rfl _ rfl rfl g17) _ rfl (.int .u64 (m : Int)) hI.2.2.2.1 (hI.add (by omega) (by omega) (by omega) (by omega) (by omega) (Below.refl _ _) rfl)
    · have g17 : a.eval (.tmp 22) = .bool true := hF 17 (hpre 17 (by kernel_rfl))
      have f18 : a.eval (.tmp 23) = (.int .u64 (m : Int)) := hF 18 (hpre 18 (by kernel_rfl))
      refine wpOp_call1 rfl (wanted_by (d := 22) rfl _ rfl rfl g17) 11 _ _ rfl _ f18 (enters_size _ _) (size_any m w hm) (fun e w' h => ?_)
      obtain ⟨rfl, rfl⟩ := h
      exact ⟨_, rfl, hI.add (by omega) (by omega) (by omega) (by omega) (by omega) (Below.refl _ _) rfl⟩
    · have g17 : a.eval (.tmp 22) = .bool true := hF 17 (hpre 17 (by kernel_rfl))
      exact wpOp_move rfl (wanted_by (d := 22) rfl _ rfl rfl g17) _ rfl (.int .u64 (m : Int)) hI.2.2.2.1 (hI.add (by omega) (by omega) (by omega) (by omega) (by omega) (Below.refl _ _) rfl)
    · have g17 : a.eval (.tmp 22) = .bool true := hF 17 (hpre 17 (by kernel_rfl))
      have f20 : a.eval (.tmp 25) = (.int .u64 (m : Int)) := hF 20 (hpre 20 (by kernel_rfl))
      refine wpOp_call1 rfl (wanted_by (d := 22) rfl _ rfl rfl g17) 10 _ _ rfl _ f20 (enters_bytes _ _) (bytes_any m w hm) (fun e w' h => ?_)
      obtain ⟨v, rfl, ho, hb⟩ := h
      exact ⟨_, rfl, hI.add (by omega) (by omega) (by omega) (by omega) (by omega) hb ho.holds⟩
    · have g17 : a.eval (.tmp 22) = .bool true := hF 17 (hpre 17 (by kernel_rfl))
      obtain ⟨Ax, cx, hx, hH⟩ : BB (enc m) (a.eval (.tmp 26)) w := hF 21 (hpre 21 (by kernel_rfl))
      exact wpOp_len rfl (wanted_by (d := 22) rfl _ rfl rfl g17) _ _ rfl 5 Try.underlying22 _ _ _ hx (hI.add (by omega) (by omega) (by omega) (by omega) (by omega) (Below.refl _ _) rfl)
    · have g17 : a.eval (.tmp 22) = .bool true := hF 17 (hpre 17 (by kernel_rfl))
      have f19 : a.eval (.tmp 24) = (.int .i64 (size m : Int)) := hF 19 (hpre 19 (by kernel_rfl))
      have f22 : a.eval (.tmp 27) = (.int .i64 (size m : Int)) := hF 22 (hpre 22 (by kernel_rfl))
      exact wpOp_bin rfl (wanted_by (d := 22) rfl _ rfl rfl g17) _ _ _ _ _ rfl _ _ (.bool true) f19 f22 (run_same_int _ _ _ _) (hI.add (by omega) (by omega) (by omega) (by omega) (by omega) (Below.refl _ _) rfl)
    · have f17 : a.eval (.tmp 22) = (.bool true) := hF 17 (hpre 17 (by kernel_rfl))
      have f23 : a.eval (.tmp 28) = (.bool true) := hF 23 (hpre 23 (by kernel_rfl))
      exact wpOp_pick rfl (wanted_free rfl) _ _ _ rfl true f17 (.bool true) f23 (hI.add (by omega) (by omega) (by omega) (by omega) (by omega) (Below.refl _ _) rfl)
    · have f24 : a.eval (.tmp 29) = (.bool true) := hF 24 (hpre 24 (by kernel_rfl))
      exact wpOp_assign rfl (wanted_free rfl) _ rfl (.bool true) f24 (hI.add (by omega) (by omega) (by omega) (by omega) (by omega) (Below.refl _ _) rfl)
  · intro D a w hI hall
    have f25 : a.eval (.tmp 4) = .bool true := hI.2.2.2.2.1 25 (hall 25 (by decide))
    have hd := hI.2.1
    have hB := hI.2.2.2.2.2.2
    clear hall
    go_wp2
    refine bodyPost_ret (results_tmp rfl a.tmps _ _) hd ⟨?_, hB⟩
    show Ending.returned (a.eval (.tmp 4)) = _
    rw [f25]
end Go.Proofs.Ytmoecebcmioebaa
