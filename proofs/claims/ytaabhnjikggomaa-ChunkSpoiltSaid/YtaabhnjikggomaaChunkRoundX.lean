/-
  What the statement ChunkRound's regions hold, slot by slot; and single operations. Conditions: those that each theorem states.
-/
import Derived.Test.YtaabhnjikggomaaChunkAwake
namespace Go.Proofs.Ytaabhnjikggomaa
open Go.RowKit Leb

theorem run_build0 (w : World) : (Instr.buildSlice 24 0 #[]).run Try.prog w = .ok (.slice (some ⟨w.heap.size, 0, Option.none⟩) 0 0) (w.alloc (.cells #[] 5)) := by go_simp
theorem run_neq32 (x y : Operand) (z : Int) (w : World) : (do eqGuard .neq 32 x y (.int .i64 z) (.int .i64 z); binOp .neq 32 (.int .i64 z) (.int .i64 z) : Sem Value).run Try.prog w = .ok (.bool false) w := by go_simp
theorem run_neq64 (x y : Operand) (z : Int) (w : World) : (do eqGuard .neq 3 x y (.int .i64 z) (.int .i64 z); binOp .neq 3 (.int .i64 z) (.int .i64 z) : Sem Value).run Try.prog w = .ok (.bool false) w := by go_simp
theorem run_sub64 (x y : Operand) (a b d : Nat) (w : World) (h : a = d + b) (ha : a ≤ 1000000) : (do eqGuard .sub 3 x y (.int .i64 (a : Int)) (.int .i64 (b : Int)); binOp .sub 3 (.int .i64 (a : Int)) (.int .i64 (b : Int)) : Sem Value).run Try.prog w = .ok (.int .i64 (d : Int)) w := by
  have e : (a : Int) - b = d := by omega
  have f1 : IntKind.i64.wrap (d : Int) = d := IntWalk.i64_in _ ⟨by omega, by omega⟩
  go_simp
theorem run_leq64 (x y : Operand) (a b : Nat) (w : World) (h : a ≤ b) : (do eqGuard .leq 3 x y (.int .i64 (a : Int)) (.int .i64 (b : Int)); binOp .leq 3 (.int .i64 (a : Int)) (.int .i64 (b : Int)) : Sem Value).run Try.prog w = .ok (.bool true) w := by go_simp
theorem run_frontA (w : World) (A : Option Addr) (n c k : Nat) (h : k ≤ n) (hc : n ≤ c) : (Instr.sliceAt 24 (.slice A n c) Option.none (some (.int .i64 (k : Int))) Option.none).run Try.prog w = .ok (.slice A k c) w := by
  have f3 : (0 : Int) ≤ (k : Int) := by omega
  have f5 : (k : Int) ≤ (c : Int) := by omega
  go_simp
theorem pack_ge {S : List Int → List Int} (hS : Chunk.Sums S) : ∀ (k : Nat) (l : List Int), l.length ≤ k → l.length ≤ (Chunk.pack S l).length
  | 0, l, h => by omega
  | k + 1, l, h => by
    by_cases hl : l = []
    · subst hl; simp
    · have ih := pack_ge hS k (l.drop 256) (by have := List.length_pos_iff.2 hl; rw [List.length_drop]; omega)
      have h1 := Chunk.piece_length hS (l.take 256)
      rw [List.length_take] at h1
      rw [List.length_drop] at ih
      rw [Chunk.pack_cons S hl, List.length_append]
      omega
theorem pack_le {S : List Int → List Int} (hS : Chunk.Sums S) (l : List Int) : (Chunk.pack S l).length ≤ 262 * (Chunk.many l + 1) := by
  have h1 := outsR_done (S := S) (s := l) (m := Chunk.many l) (Nat.le_refl _)
  have h2 := outsR_length hS l (Chunk.many l)
  have h3 := Chunk.piece_length hS []
  have h4 := Chunk.enc_len256 (n := 0) (by omega)
  rw [← h1, List.length_append, h3]
  simp only [List.length_nil]
  omega

/-- What the slots of 's := append(..)' hold. -/
def r2F (t : Nat → Nat) (A B C : Option Addr) (na nb nc ca cb cc : Nat) (la lb lc pk : List Int) (j : Nat) (v : Value) (w : World) : Prop :=
  match j with
  | 0 => True
  | 1 => v = .slice A na ca
  | 2 => v = .slice A la.length ca
  | 3 => True
  | 4 => v = .agg (cells32 t).toArray
  | 5 => v = .slice B nb cb
  | 6 => v = .slice B lb.length cb
  | 7 => True
  | 8 => True
  | 9 => v = .slice C nc cc
  | 10 => v = .slice C lc.length cc
  | 11 => BB (la ++ pk ++ lc) v w
  | 12 => BB (la ++ pk ++ lc) v w
  | _ => True
theorem r2F_later {t : Nat → Nat} {A B C : Option Addr} {na nb nc ca cb cc : Nat} {la lb lc pk : List Int} : Outlives (r2F t A B C na nb nc ca cb cc la lb lc pk) := by
  intro j v w w' h hk
  unfold r2F at h ⊢
  split at h
  all_goals first | exact h.keeps hk | exact h
/-- The slices that the statement makes, while they are of use. -/
def r2X (Z : Nat) (la pk : List Int) (D : Nat → Prop) (a : Act) (w : World) : Prop :=
  (D 0 → ¬ D 3 → Owns w Z 5 (a.eval (.tmp 22)) []) ∧ (D 3 → ¬ D 8 → Owns w Z 5 (a.eval (.tmp 25)) la) ∧ (D 7 → ¬ D 8 → BB pk (a.eval (.tmp 29)) w) ∧ (D 8 → ¬ D 11 → Owns w Z 5 (a.eval (.tmp 30)) (la ++ pk))
theorem r2X_keep {Z : Nat} {la pk : List Int} {D : Nat → Prop} {a : Act} {w w' : World} {i d : Nat} {v : Value} (h : r2X Z la pk D a w) (hb : Below w.heap.size w w') (hi : i ≠ 0 ∧ i ≠ 3 ∧ i ≠ 7 ∧ i ≠ 8) (hd : 22 ≠ d ∧ 25 ≠ d ∧ 29 ≠ d ∧ 30 ≠ d) : r2X Z la pk (fun j => D j ∨ j = i) (a.put (some d) v) w' := by
  refine ⟨fun h1 h2 => ?_, fun h1 h2 => ?_, fun h1 h2 => ?_, fun h1 h2 => ?_⟩
  · rw [eval_put_other _ _ hd.1]
    exact (h.1 (h1.resolve_right (Ne.symm hi.1)) (fun h' => h2 (.inl h'))).kept hb (Nat.le_refl _)
  · rw [eval_put_other _ _ hd.2.1]
    exact (h.2.1 (h1.resolve_right (Ne.symm hi.2.1)) (fun h' => h2 (.inl h'))).kept hb (Nat.le_refl _)
  · rw [eval_put_other _ _ hd.2.2.1]
    exact (h.2.2.1 (h1.resolve_right (Ne.symm hi.2.2.1)) (fun h' => h2 (.inl h'))).later hb
  · rw [eval_put_other _ _ hd.2.2.2]
    exact (h.2.2.2 (h1.resolve_right (Ne.symm hi.2.2.2)) (fun h' => h2 (.inl h'))).kept hb (Nat.le_refl _)
/-- What the slots of the first reading hold. -/
def r3F (t : Nat → Nat) (A X : Option Addr) (na ca cx : Nat) (la l : List Int) (r : List Int × Int × Int) (j : Nat) (v : Value) (w : World) : Prop :=
  match j with
  | 0 => v = .agg (cells32 t).toArray
  | 1 => v = .slice X l.length cx
  | 2 => v = .slice A na ca
  | 3 => v = .slice A la.length ca
  | 4 => v = .int .i64 la.length
  | 5 => UP r v w
  | 6 => UP r v w
  | 7 => BB r.1 v w
  | 8 => v = .int .i64 r.2.1
  | 9 => v = .int .i64 r.2.2
  | 10 => BB r.1 v w
  | 11 => v = .int .i64 r.2.1
  | 12 => v = .int .i64 r.2.2
  | _ => True
theorem r3F_later {t : Nat → Nat} {A X : Option Addr} {na ca cx : Nat} {la l : List Int} {r : List Int × Int × Int} : Outlives (r3F t A X na ca cx la l r) := by
  intro j v w w' h hk
  unfold r3F at h ⊢
  split at h
  all_goals first | exact h.keeps hk | exact h
/-- What the slots of the first test hold. -/
def r4F (B C X Y : Option Addr) (nb nc cb cc cx cy nx : Nat) (lb lc l : List Int) (j : Nat) (v : Value) (_ : World) : Prop :=
  match j with
  | 0 => v = .int .i64 0
  | 1 => v = .bool false
  | 2 => v = .bool false
  | 3 => v = .slice Y lb.length cy
  | 4 => v = .string (strOfNums lb)
  | 5 => v = .slice B nb cb
  | 6 => v = .slice B lb.length cb
  | 7 => v = .string (strOfNums lb)
  | 8 => v = .bool false
  | 9 => v = .bool false
  | 10 => v = .bool false
  | 11 => v = .int .i64 (nx : Int)
  | 12 => v = .slice X l.length cx
  | 13 => v = .int .i64 l.length
  | 14 => v = .slice C nc cc
  | 15 => v = .slice C lc.length cc
  | 16 => v = .int .i64 lc.length
  | 17 => v = .int .i64 (nx : Int)
  | 18 => v = .bool false
  | 19 => v = .bool false
  | _ => True
theorem r4F_later {B C X Y : Option Addr} {nb nc cb cc cx cy nx : Nat} {lb lc l : List Int} : Outlives (r4F B C X Y nb nc cb cc cx cy nx lb lc l) := by
  intro j v w w' h hk
  unfold r4F at h ⊢
  split at h
  all_goals first | exact h.keeps hk | exact h
/-- What the slots of the second reading hold. -/
def r6F (t : Nat → Nat) (C : Option Addr) (nc cc : Nat) (lc : List Int) (r : List Int × Int × Int) (j : Nat) (v : Value) (w : World) : Prop :=
  match j with
  | 0 => v = .agg (cells32 t).toArray
  | 1 => v = .slice C nc cc
  | 2 => v = .slice C lc.length cc
  | 3 => UP r v w
  | 4 => UP r v w
  | 5 => BB r.1 v w
  | 6 => v = .int .i64 r.2.1
  | 7 => v = .int .i64 r.2.2
  | 8 => BB r.1 v w
  | 9 => v = .int .i64 r.2.1
  | 10 => v = .int .i64 r.2.2
  | _ => True
theorem r6F_later {t : Nat → Nat} {C : Option Addr} {nc cc : Nat} {lc : List Int} {r : List Int × Int × Int} : Outlives (r6F t C nc cc lc r) := by
  intro j v w w' h hk
  unfold r6F at h ⊢
  split at h
  all_goals first | exact h.keeps hk | exact h
/-- What the slots of the last test hold. -/
def r9F (t : Nat → Nat) (C Z : Option Addr) (nc cc cz m : Nat) (lc y : List Int) (j : Nat) (v : Value) (w : World) : Prop :=
  match j with
  | 0 => v = .bool true
  | 1 => v = .bool true
  | 2 => v = .int .i64 (m : Int)
  | 3 => v = .slice C nc cc
  | 4 => v = .slice C lc.length cc
  | 5 => v = .int .i64 lc.length
  | 6 => v = .bool true
  | 7 => v = .bool true
  | 8 => v = .bool true
  | 9 => v = .agg (cells32 t).toArray
  | 10 => v = .slice Z y.length cz
  | 11 => BB (lc.take m) v w
  | 12 => v = .string (strOfNums (lc.take m))
  | 13 => v = .slice C nc cc
  | 14 => v = .slice C lc.length cc
  | 15 => v = .int .i64 (m : Int)
  | 16 => v = .slice C m cc
  | 17 => v = .string (strOfNums (lc.take m))
  | 18 => v = .bool true
  | 19 => v = .bool true
  | 20 => v = .bool true
  | _ => True
theorem r9F_later {t : Nat → Nat} {C Z : Option Addr} {nc cc cz m : Nat} {lc y : List Int} : Outlives (r9F t C Z nc cc cz m lc y) := by
  intro j v w w' h hk
  unfold r9F at h ⊢
  split at h
  all_goals first | exact h.keeps hk | exact h
end Go.Proofs.Ytaabhnjikggomaa
