/-
  The first drawn region of the statement CycSum: what its slots hold, and how each operation keeps it.
-/
import Derived.Test.YtjcbndnldmpmaaaCycParts
namespace Go.Proofs.Ytjcbndnldmpmaaa
open Go.RowKit

/-- What the slots of the test hold. -/
def suF (A B X : Option Addr) (na nb ca cb cx S n : Nat) (la lb l : List Int) (j : Nat) (v : Value) (w : World) : Prop :=
  match j with
  | 0 => v = .agg (cells32 tab0).toArray
  | 1 => v = .slice A na ca
  | 2 => v = .slice A la.length ca
  | 3 => v = .slice B nb cb
  | 4 => v = .slice B lb.length cb
  | 5 => True
  | 6 => v = .int .u32 (S : Int)
  | 7 => v = .slice X l.length cx
  | 8 => v = .int .u32 (S : Int)
  | 9 => v = .bool false
  | 10 => v = .bool false
  | 11 => v = .slice A na ca
  | 12 => v = .slice A la.length ca
  | 13 => v = .int .u32 (n : Int)
  | 14 => BB (la ++ four n) v w
  | 15 => v = .string (strOfNums (la ++ four n))
  | 16 => True
  | 17 => v = .slice A na ca
  | 18 => v = .slice A la.length ca
  | 19 => True
  | 20 => v = .int .u32 (n : Int)
  | 21 => True
  | 22 => BB (la ++ four n) v w
  | 23 => v = .string (strOfNums (la ++ four n))
  | 24 => v = .bool false
  | 25 => v = .bool false
  | _ => True

/-- What is known of the slices that the statement itself makes, while they are of use. -/
def SuX (w0 : World) (la lb : List Int) (n : Nat) (D : Nat → Prop) (a : Act) (w : World) : Prop :=
  ((D 16 → ¬ D 19 → Owns w w0.heap.size 5 (a.eval (.tmp 35)) [] ∧ (D 14 → Apart (a.eval (.tmp 35)) (a.eval (.tmp 33)))) ∧
   (D 19 → ¬ D 22 → Owns w w0.heap.size 5 (a.eval (.tmp 38)) la ∧ Apart (a.eval (.tmp 38)) (a.eval (.tmp 33))) ∧
   (D 21 → ¬ D 22 → BB (four n) (a.eval (.tmp 40)) w)) ∧
  (D 5 → ¬ D 6 → PP [la, lb] (a.eval (.tmp 24)) w)

theorem PP.later {ls : List (List Int)} {v : Value} {w w' : World} (h : PP ls v w) (hb : Below w.heap.size w w') : PP ls v w' := h.keeps (below_keeps hb)

section
variable {A B X : Option Addr} {na nb ca cb cx S n : Nat} {la lb l : List Int} {a0 : Act} {w0 : World} {D : Nat → Prop} {a : Act} {w w' : World} {v : Value}

theorem suF_later {j : Nat} (h : suF A B X na nb ca cb cx S n la lb l j v w) (hb : Below w.heap.size w w') : suF A B X na nb ca cb cx S n la lb l j v w' := by
  unfold suF at h ⊢
  split at h
  all_goals first | exact h.later hb | exact h
theorem suF_grown {j : Nat} {u : Value} (h : suF A B X na nb ca cb cx S n la lb l j u w) (h22 : j ≠ 22) (hg : w.grownBy w' v.ownBlock) (ha : j = 14 → Apart v u) : suF A B X na nb ca cb cx S n la lb l j u w' := by
  by_cases h14 : j = 14
  · subst h14
    exact BB.grown h hg (ha rfl)
  · unfold suF at h ⊢
    split at h
    all_goals first | exact h | omega

/-- The plain operations. -/
theorem RInv.addS {i : Nat} (hI : RInv 64 [19, 20, 21, 22, 23, 24, 25, 26, 27, 28, 29, 30, 31, 32, 33, 34, 35, 36, 37, 38, 39, 40, 41, 42, 43, 44] a0 (suF A B X na nb ca cb cx S n la lb l) w0 (SuX w0 la lb n) D a w) (hi : i < 26) (h5 : i ≠ 5) (h14 : i ≠ 14) (h16 : i ≠ 16) (h19 : i ≠ 19) (h21 : i ≠ 21) (_h22 : i ≠ 22)
    (hb : Below w.heap.size w w') (hv : suF A B X na nb ca cb cx S n la lb l i v w') : RInv 64 [19, 20, 21, 22, 23, 24, 25, 26, 27, 28, 29, 30, 31, 32, 33, 34, 35, 36, 37, 38, 39, 40, 41, 42, 43, 44] a0 (suF A B X na nb ca cb cx S n la lb l) w0 (SuX w0 la lb n) (fun j => D j ∨ j = i) (a.put (some (slotAt [19, 20, 21, 22, 23, 24, 25, 26, 27, 28, 29, 30, 31, 32, 33, 34, 35, 36, 37, 38, 39, 40, 41, 42, 43, 44] i)) v) w' := by
  have hX := hI.more
  have hB := hI.below
  have hg : slotsGood 64 [19, 20, 21, 22, 23, 24, 25, 26, 27, 28, 29, 30, 31, 32, 33, 34, 35, 36, 37, 38, 39, 40, 41, 42, 43, 44] = true := by decide
  refine hI.put hg hi (fun j _ _ h => suF_later h hb) hv ?_ (hB.trans (hb.mono hB.size))
  have e : ∀ t, t < 26 → t ≠ i → (a.put (some (slotAt [19, 20, 21, 22, 23, 24, 25, 26, 27, 28, 29, 30, 31, 32, 33, 34, 35, 36, 37, 38, 39, 40, 41, 42, 43, 44] i)) v).eval (.tmp (slotAt [19, 20, 21, 22, 23, 24, 25, 26, 27, 28, 29, 30, 31, 32, 33, 34, 35, 36, 37, 38, 39, 40, 41, 42, 43, 44] t)) = a.eval (.tmp (slotAt [19, 20, 21, 22, 23, 24, 25, 26, 27, 28, 29, 30, 31, 32, 33, 34, 35, 36, 37, 38, 39, 40, 41, 42, 43, 44] t)) := fun t ht hne => eval_put_other _ _ (slotAt_ne hg hi ht hne)
  have e35 : (a.put (some (slotAt [19, 20, 21, 22, 23, 24, 25, 26, 27, 28, 29, 30, 31, 32, 33, 34, 35, 36, 37, 38, 39, 40, 41, 42, 43, 44] i)) v).eval (.tmp 35) = a.eval (.tmp 35) := e 16 (by omega) (Ne.symm h16)
  have e33 : (a.put (some (slotAt [19, 20, 21, 22, 23, 24, 25, 26, 27, 28, 29, 30, 31, 32, 33, 34, 35, 36, 37, 38, 39, 40, 41, 42, 43, 44] i)) v).eval (.tmp 33) = a.eval (.tmp 33) := e 14 (by omega) (Ne.symm h14)
  have e38 : (a.put (some (slotAt [19, 20, 21, 22, 23, 24, 25, 26, 27, 28, 29, 30, 31, 32, 33, 34, 35, 36, 37, 38, 39, 40, 41, 42, 43, 44] i)) v).eval (.tmp 38) = a.eval (.tmp 38) := e 19 (by omega) (Ne.symm h19)
  have e40 : (a.put (some (slotAt [19, 20, 21, 22, 23, 24, 25, 26, 27, 28, 29, 30, 31, 32, 33, 34, 35, 36, 37, 38, 39, 40, 41, 42, 43, 44] i)) v).eval (.tmp 40) = a.eval (.tmp 40) := e 21 (by omega) (Ne.symm h21)
  have e24 : (a.put (some (slotAt [19, 20, 21, 22, 23, 24, 25, 26, 27, 28, 29, 30, 31, 32, 33, 34, 35, 36, 37, 38, 39, 40, 41, 42, 43, 44] i)) v).eval (.tmp 24) = a.eval (.tmp 24) := e 5 (by omega) (Ne.symm h5)
  unfold SuX
  rw [e35, e33, e38, e40, e24]
  refine ⟨⟨fun d16 d19 => ?_, fun d19 d22 => ?_, fun d21 d22 => ?_⟩, fun d5 d6 => ?_⟩
  · obtain ⟨x1, x2⟩ := hX.1.1 (d16.resolve_right (Ne.symm h16)) (fun h => d19 (.inl h))
    exact ⟨x1.kept hb (Nat.le_refl _), fun d14 => x2 (d14.resolve_right (Ne.symm h14))⟩
  · obtain ⟨x1, x2⟩ := hX.1.2.1 (d19.resolve_right (Ne.symm h19)) (fun h => d22 (.inl h))
    exact ⟨x1.kept hb (Nat.le_refl _), x2⟩
  · exact (hX.1.2.2 (d21.resolve_right (Ne.symm h21)) (fun h => d22 (.inl h))).later hb
  · exact (hX.2 (d5.resolve_right (Ne.symm h5)) (fun h => d6 (.inl h))).later hb

theorem RInv.add5 (hI : RInv 64 [19, 20, 21, 22, 23, 24, 25, 26, 27, 28, 29, 30, 31, 32, 33, 34, 35, 36, 37, 38, 39, 40, 41, 42, 43, 44] a0 (suF A B X na nb ca cb cx S n la lb l) w0 (SuX w0 la lb n) D a w) (hb : Below w.heap.size w w') (hv : PP [la, lb] v w') (n16 : ¬ D 16) (n19 : ¬ D 19) (n21 : ¬ D 21) : RInv 64 [19, 20, 21, 22, 23, 24, 25, 26, 27, 28, 29, 30, 31, 32, 33, 34, 35, 36, 37, 38, 39, 40, 41, 42, 43, 44] a0 (suF A B X na nb ca cb cx S n la lb l) w0 (SuX w0 la lb n) (fun j => D j ∨ j = 5) (a.put (some (slotAt [19, 20, 21, 22, 23, 24, 25, 26, 27, 28, 29, 30, 31, 32, 33, 34, 35, 36, 37, 38, 39, 40, 41, 42, 43, 44] 5)) v) w' := by
  have hB := hI.below
  refine hI.put (by decide) (by decide) (fun j _ _ h => suF_later h hb) trivial ⟨⟨fun d => absurd (d.resolve_right (by omega)) n16, fun d => absurd (d.resolve_right (by omega)) n19, fun d => absurd (d.resolve_right (by omega)) n21⟩, fun _ _ => ?_⟩ (hB.trans (hb.mono hB.size))
  have e24 : (a.put (some (slotAt [19, 20, 21, 22, 23, 24, 25, 26, 27, 28, 29, 30, 31, 32, 33, 34, 35, 36, 37, 38, 39, 40, 41, 42, 43, 44] 5)) v).eval (.tmp 24) = v := eval_put_same a 24 v (by rw [hI.size]; omega)
  rw [e24]
  exact hv

theorem RInv.add14 (hI : RInv 64 [19, 20, 21, 22, 23, 24, 25, 26, 27, 28, 29, 30, 31, 32, 33, 34, 35, 36, 37, 38, 39, 40, 41, 42, 43, 44] a0 (suF A B X na nb ca cb cx S n la lb l) w0 (SuX w0 la lb n) D a w) (d6 : D 6) (n19 : ¬ D 19) (n21 : ¬ D 21) (ho : Owns w' w.heap.size 5 v (la ++ four n)) (hb : Below w.heap.size w w') : RInv 64 [19, 20, 21, 22, 23, 24, 25, 26, 27, 28, 29, 30, 31, 32, 33, 34, 35, 36, 37, 38, 39, 40, 41, 42, 43, 44] a0 (suF A B X na nb ca cb cx S n la lb l) w0 (SuX w0 la lb n) (fun j => D j ∨ j = 14) (a.put (some (slotAt [19, 20, 21, 22, 23, 24, 25, 26, 27, 28, 29, 30, 31, 32, 33, 34, 35, 36, 37, 38, 39, 40, 41, 42, 43, 44] 14)) v) w' := by
  have hB := hI.below
  refine hI.put (by decide) (by decide) (fun j _ _ h => suF_later h hb) ho.holds ⟨⟨fun d16 _ => ?_, fun d => absurd (d.resolve_right (by omega)) n19, fun d => absurd (d.resolve_right (by omega)) n21⟩, fun _ h => absurd (.inl d6) h⟩ (hB.trans (hb.mono hB.size))
  obtain ⟨x1, _⟩ := hI.more.1.1 (d16.resolve_right (by omega)) n19
  have e35 : (a.put (some (slotAt [19, 20, 21, 22, 23, 24, 25, 26, 27, 28, 29, 30, 31, 32, 33, 34, 35, 36, 37, 38, 39, 40, 41, 42, 43, 44] 14)) v).eval (.tmp 35) = a.eval (.tmp 35) := eval_put_other a v (by decide)
  have e33 : (a.put (some (slotAt [19, 20, 21, 22, 23, 24, 25, 26, 27, 28, 29, 30, 31, 32, 33, 34, 35, 36, 37, 38, 39, 40, 41, 42, 43, 44] 14)) v).eval (.tmp 33) = v := eval_put_same a 33 v (by rw [hI.size]; omega)
  rw [e35, e33]
  refine ⟨x1.kept hb (Nat.le_refl _), fun _ g b off nn cc hg hv _ hbg => ?_⟩
  have h1 := x1.2.lt g hg
  have h2 := ho.2.lt b (by rw [hv]; rfl)
  omega

theorem RInv.add16 (hI : RInv 64 [19, 20, 21, 22, 23, 24, 25, 26, 27, 28, 29, 30, 31, 32, 33, 34, 35, 36, 37, 38, 39, 40, 41, 42, 43, 44] a0 (suF A B X na nb ca cb cx S n la lb l) w0 (SuX w0 la lb n) D a w) (d6 : D 6) (n19 : ¬ D 19) (n21 : ¬ D 21) : RInv 64 [19, 20, 21, 22, 23, 24, 25, 26, 27, 28, 29, 30, 31, 32, 33, 34, 35, 36, 37, 38, 39, 40, 41, 42, 43, 44] a0 (suF A B X na nb ca cb cx S n la lb l) w0 (SuX w0 la lb n) (fun j => D j ∨ j = 16) (a.put (some (slotAt [19, 20, 21, 22, 23, 24, 25, 26, 27, 28, 29, 30, 31, 32, 33, 34, 35, 36, 37, 38, 39, 40, 41, 42, 43, 44] 16)) (.slice (some ⟨w.heap.size, 0, Option.none⟩) 0 0)) (w.alloc (.cells #[] 5)) := by
  have hB := hI.below
  have hb : Below w.heap.size w (w.alloc (.cells #[] 5)) := (Below.refl _ _).alloc (Nat.le_refl _) _
  refine hI.put (by decide) (by decide) (fun j _ _ h => suF_later h hb) trivial ⟨⟨fun _ _ => ?_, fun d => absurd (d.resolve_right (by omega)) n19, fun d => absurd (d.resolve_right (by omega)) n21⟩, fun _ h => absurd (.inl d6) h⟩ (hB.trans (hb.mono hB.size))
  have e35 : (a.put (some (slotAt [19, 20, 21, 22, 23, 24, 25, 26, 27, 28, 29, 30, 31, 32, 33, 34, 35, 36, 37, 38, 39, 40, 41, 42, 43, 44] 16)) (.slice (some ⟨w.heap.size, 0, Option.none⟩) 0 0)).eval (.tmp 35) = .slice (some ⟨w.heap.size, 0, Option.none⟩) 0 0 := eval_put_same a 35 _ (by rw [hI.size]; omega)
  have e33 : (a.put (some (slotAt [19, 20, 21, 22, 23, 24, 25, 26, 27, 28, 29, 30, 31, 32, 33, 34, 35, 36, 37, 38, 39, 40, 41, 42, 43, 44] 16)) (.slice (some ⟨w.heap.size, 0, Option.none⟩) 0 0)).eval (.tmp 33) = a.eval (.tmp 33) := eval_put_other a _ (by decide)
  rw [e35, e33]
  refine ⟨owns_lit w w0.heap.size 5 #[] [] rfl Leb.Bytes.nil (by simp) hB.size, fun d14 g b off nn cc hg hv hn hbg => ?_⟩
  have hg' : w.heap.size = g := by simpa [Value.ownBlock] using hg
  exact absurd (BB.block (hI.fact 14 (d14.resolve_right (by omega))) hv hn) (by omega)

theorem RInv.add19 (hI : RInv 64 [19, 20, 21, 22, 23, 24, 25, 26, 27, 28, 29, 30, 31, 32, 33, 34, 35, 36, 37, 38, 39, 40, 41, 42, 43, 44] a0 (suF A B X na nb ca cb cx S n la lb l) w0 (SuX w0 la lb n) D a w) (d6 : D 6) (d16 : D 16) (d14 : D 14) (n19 : ¬ D 19) (n21 : ¬ D 21) (n22 : ¬ D 22) (ho : Owns w' w0.heap.size 5 v ([] ++ la)) (hg : w.grownBy w' (a.eval (.tmp 35)).ownBlock)
    (hat : v.ownBlock = (a.eval (.tmp 35)).ownBlock ∨ v.ownBlock = some w.heap.size) : RInv 64 [19, 20, 21, 22, 23, 24, 25, 26, 27, 28, 29, 30, 31, 32, 33, 34, 35, 36, 37, 38, 39, 40, 41, 42, 43, 44] a0 (suF A B X na nb ca cb cx S n la lb l) w0 (SuX w0 la lb n) (fun j => D j ∨ j = 19) (a.put (some (slotAt [19, 20, 21, 22, 23, 24, 25, 26, 27, 28, 29, 30, 31, 32, 33, 34, 35, 36, 37, 38, 39, 40, 41, 42, 43, 44] 19)) v) w' := by
  have hB := hI.below
  obtain ⟨x1, x2⟩ := hI.more.1.1 d16 n19
  refine hI.put (by decide) (by decide) (fun j dj _ h => suF_grown h (fun e => n22 (e ▸ dj)) hg (fun e => by subst e; exact x2 d14)) trivial ⟨⟨fun _ h => absurd (.inr rfl) h, fun _ _ => ?_, fun d => absurd (d.resolve_right (by omega)) n21⟩, fun _ h => absurd (.inl d6) h⟩ (below_own hB x1 hg hB.size)
  have e38 : (a.put (some (slotAt [19, 20, 21, 22, 23, 24, 25, 26, 27, 28, 29, 30, 31, 32, 33, 34, 35, 36, 37, 38, 39, 40, 41, 42, 43, 44] 19)) v).eval (.tmp 38) = v := eval_put_same a 38 v (by rw [hI.size]; omega)
  have e33 : (a.put (some (slotAt [19, 20, 21, 22, 23, 24, 25, 26, 27, 28, 29, 30, 31, 32, 33, 34, 35, 36, 37, 38, 39, 40, 41, 42, 43, 44] 19)) v).eval (.tmp 33) = a.eval (.tmp 33) := eval_put_other a _ (by decide)
  rw [e38, e33]
  refine ⟨ho, fun g b off nn cc hg' hv hn hbg => ?_⟩
  rcases hat with e | e
  · exact x2 d14 g b off nn cc (by rw [← e]; exact hg') hv hn hbg
  · have h1 := BB.block (hI.fact 14 d14) hv hn
    rw [e] at hg'
    injection hg' with hg'
    omega

theorem RInv.add21 (hI : RInv 64 [19, 20, 21, 22, 23, 24, 25, 26, 27, 28, 29, 30, 31, 32, 33, 34, 35, 36, 37, 38, 39, 40, 41, 42, 43, 44] a0 (suF A B X na nb ca cb cx S n la lb l) w0 (SuX w0 la lb n) D a w) (d6 : D 6) (d19 : D 19) (n22 : ¬ D 22) (ho : Owns w' w.heap.size 5 v (four n)) (hb : Below w.heap.size w w') : RInv 64 [19, 20, 21, 22, 23, 24, 25, 26, 27, 28, 29, 30, 31, 32, 33, 34, 35, 36, 37, 38, 39, 40, 41, 42, 43, 44] a0 (suF A B X na nb ca cb cx S n la lb l) w0 (SuX w0 la lb n) (fun j => D j ∨ j = 21) (a.put (some (slotAt [19, 20, 21, 22, 23, 24, 25, 26, 27, 28, 29, 30, 31, 32, 33, 34, 35, 36, 37, 38, 39, 40, 41, 42, 43, 44] 21)) v) w' := by
  have hB := hI.below
  obtain ⟨x1, x2⟩ := hI.more.1.2.1 d19 n22
  refine hI.put (by decide) (by decide) (fun j _ _ h => suF_later h hb) trivial ⟨⟨fun _ h => absurd (.inl d19) h, fun _ _ => ?_, fun _ _ => ?_⟩, fun _ h => absurd (.inl d6) h⟩ (hB.trans (hb.mono hB.size))
  · have e38 : (a.put (some (slotAt [19, 20, 21, 22, 23, 24, 25, 26, 27, 28, 29, 30, 31, 32, 33, 34, 35, 36, 37, 38, 39, 40, 41, 42, 43, 44] 21)) v).eval (.tmp 38) = a.eval (.tmp 38) := eval_put_other a _ (by decide)
    have e33 : (a.put (some (slotAt [19, 20, 21, 22, 23, 24, 25, 26, 27, 28, 29, 30, 31, 32, 33, 34, 35, 36, 37, 38, 39, 40, 41, 42, 43, 44] 21)) v).eval (.tmp 33) = a.eval (.tmp 33) := eval_put_other a _ (by decide)
    rw [e38, e33]
    exact ⟨x1.kept hb (Nat.le_refl _), x2⟩
  · have e40 : (a.put (some (slotAt [19, 20, 21, 22, 23, 24, 25, 26, 27, 28, 29, 30, 31, 32, 33, 34, 35, 36, 37, 38, 39, 40, 41, 42, 43, 44] 21)) v).eval (.tmp 40) = v := eval_put_same a 40 v (by rw [hI.size]; omega)
    rw [e40]
    exact ho.holds

theorem RInv.add22 (hI : RInv 64 [19, 20, 21, 22, 23, 24, 25, 26, 27, 28, 29, 30, 31, 32, 33, 34, 35, 36, 37, 38, 39, 40, 41, 42, 43, 44] a0 (suF A B X na nb ca cb cx S n la lb l) w0 (SuX w0 la lb n) D a w) (d6 : D 6) (d19 : D 19) (n22 : ¬ D 22) (ho : Owns w' w0.heap.size 5 v (la ++ four n)) (hg : w.grownBy w' (a.eval (.tmp 38)).ownBlock) : RInv 64 [19, 20, 21, 22, 23, 24, 25, 26, 27, 28, 29, 30, 31, 32, 33, 34, 35, 36, 37, 38, 39, 40, 41, 42, 43, 44] a0 (suF A B X na nb ca cb cx S n la lb l) w0 (SuX w0 la lb n) (fun j => D j ∨ j = 22) (a.put (some (slotAt [19, 20, 21, 22, 23, 24, 25, 26, 27, 28, 29, 30, 31, 32, 33, 34, 35, 36, 37, 38, 39, 40, 41, 42, 43, 44] 22)) v) w' := by
  have hB := hI.below
  obtain ⟨x1, x2⟩ := hI.more.1.2.1 d19 n22
  exact hI.put (by decide) (by decide) (fun j dj hj h => suF_grown h hj hg (fun e => by subst e; exact x2)) ho.holds ⟨⟨fun _ h => absurd (.inl d19) h, fun _ h => absurd (.inr rfl) h, fun _ h => absurd (.inr rfl) h⟩, fun _ h => absurd (.inl d6) h⟩ (below_own hB x1 hg hB.size)
end
end Go.Proofs.Ytjcbndnldmpmaaa
