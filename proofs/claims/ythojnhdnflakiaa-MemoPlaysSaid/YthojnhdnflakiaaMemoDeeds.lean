/-
  Words for deeds, and for a memo that is put into. Conditions: those that each theorem states.
-/
import Derived.Test.YthojnhdnflakiaaMemoAwake
import Derived.Test.YthojnhdnflakiaaMemoOpen
import Derived.Test.YthojnhdnflakiaaMemoUniq
import Derived.Test.YthojnhdnflakiaaMemGuard
import Derived.Test.YthojnhdnflakiaaInfo
namespace Go.Proofs.Ythojnhdnflakiaa
open Go.RowKit Go.Lib Go.Shelf

theorem Turned2.belowB {B : Nat} {W0 W W' : World} {b : Nat} {v : Value} (h : Turned2 W W' b v) (hb : Below B W0 W) (hB : B ≤ b) (hs : B ≤ W.heap.size) (hv : Fresh B v) : Below B W0 W' :=
  ⟨h.os.trans hb.os, h.tape.trans hb.tape, h.output.trans hb.output, Nat.le_trans hb.size h.size, fun k hk => (h.block k (by omega) (by omega) (fun e => by have := hv k e; omega)).trans (hb.block k hk)⟩
set_option maxRecDepth 100000 in
theorem run_idxD (w : World) (g off n c k : Nat) (h : k < n) : (Instr.indexAt 22 (.slice (some ⟨g, off, Option.none⟩) n c) (.int .i64 (k : Int))).run Try.prog w = .ok (.pointer (some ⟨g, off + k * 8, Option.none⟩)) w := by go_simp
set_option maxRecDepth 100000 in
theorem run_fieldD1 (w : World) (g k : Nat) : (Instr.fieldAt 34 (.pointer (some ⟨g, k, Option.none⟩)) 1).run Try.prog w = .ok (.pointer (some ⟨g, k + 1, Option.none⟩)) w := by go_simp
set_option maxRecDepth 100000 in
theorem run_fieldD2 (w : World) (g k : Nat) : (Instr.fieldAt 34 (.pointer (some ⟨g, k, Option.none⟩)) 2).run Try.prog w = .ok (.pointer (some ⟨g, k + 7, Option.none⟩)) w := by go_simp
set_option maxRecDepth 100000 in
theorem run_gtr (x y : Operand) (w : World) (a b : Int) (r : Bool) (h : decide (b < a) = r) : (do eqGuard .gtr 3 x y (.int .i64 a) (.int .i64 b); binOp .gtr 3 (.int .i64 a) (.int .i64 b) : Sem Value).run Try.prog w = .ok (.bool r) w := by
  subst h
  go_simp
set_option maxRecDepth 100000 in
theorem run_neqI (x y : Operand) (w : World) : (do eqGuard .neq 3 x y (.int .i64 1) (.int .i64 1); binOp .neq 3 (.int .i64 1) (.int .i64 1) : Sem Value).run Try.prog w = .ok (.bool false) w := by go_simp
set_option maxRecDepth 100000 in
theorem run_neqB (x y : Operand) (w : World) (a b r : Bool) (h : (a != b) = r) : (do eqGuard .neq 4 x y (.bool a) (.bool b); binOp .neq 4 (.bool a) (.bool b) : Sem Value).run Try.prog w = .ok (.bool r) w := by
  subst h
  cases a <;> cases b <;> go_simp
/-- The eight cells of a deed. -/
theorem Dds.eight {w : World} {A : Option Addr} {n c : Nat} {l : List Deed} (h : Dds w A n c l) {k : Nat} (hk : k < n) {d : Deed} (hd : d = l[k]'(by rw [h.len]; exact hk)) : ∃ g off, A = some ⟨g, off, Option.none⟩ ∧ g < w.heap.size ∧
    w.cell? ⟨g, off + k * 8, Option.none⟩ = some (.int .u8 (d.kind : Int)) ∧ w.cell? ⟨g, off + k * 8 + 1, Option.none⟩ = some (.string d.what.fr) ∧ w.cell? ⟨g, off + k * 8 + 2, Option.none⟩ = some (.string d.what.at_) ∧ w.cell? ⟨g, off + k * 8 + 3, Option.none⟩ = some (.bool d.what.cred) ∧
    w.cell? ⟨g, off + k * 8 + 4, Option.none⟩ = some (.string d.what.me) ∧ w.cell? ⟨g, off + k * 8 + 5, Option.none⟩ = some (.string d.what.he) ∧ w.cell? ⟨g, off + k * 8 + 6, Option.none⟩ = some (.int .i64 d.what.til) ∧ w.cell? ⟨g, off + k * 8 + 7, Option.none⟩ = some (.int .i64 d.now) := by
  subst hd
  obtain ⟨g, off, e, hlt, hc⟩ := h.cell (by omega)
  have at_ := fun i hi => hc k (by rw [h.len]; exact hk) i hi
  exact ⟨g, off, e, hlt, at_ 0 (by omega), at_ 1 (by omega), at_ 2 (by omega), at_ 3 (by omega), at_ 4 (by omega), at_ 5 (by omega), at_ 6 (by omega), at_ 7 (by omega)⟩
/-- What the slots of the statement hold that puts a deed's entry. -/
def kpF (b k g off n c : Nat) (d : Deed) (j : Nat) (v : Value) (_ : World) : Prop :=
  match j with
  | 0 => v = .pointer (some ⟨b, 0, Option.none⟩)
  | 1 => v = .slice (some ⟨g, off, Option.none⟩) n c
  | 2 => v = .int .i64 (k : Int)
  | 3 => v = .pointer (some ⟨g, off + k * 8, Option.none⟩)
  | 4 => v = .pointer (some ⟨g, off + k * 8 + 1, Option.none⟩)
  | 5 => v = evalue d.what
  | 6 => v = .slice (some ⟨g, off, Option.none⟩) n c
  | 7 => v = .int .i64 (k : Int)
  | 8 => v = .pointer (some ⟨g, off + k * 8, Option.none⟩)
  | 9 => v = .pointer (some ⟨g, off + k * 8 + 7, Option.none⟩)
  | 10 => v = .int .i64 d.now
  | _ => True
theorem kpF_later {b k g off n c : Nat} {d : Deed} : Outlives (kpF b k g off n c d) := by
  intro j v w w' h _
  unfold kpF at h ⊢
  split at h
  all_goals exact h
/-- What the slots of the statement hold that asks whether all is well. -/
def wlF (b gx n m : Nat) (A : Option Addr) (c : Nat) (x : Ent) (now : Int) (r g q : Bool) (u1 u2 u3 u4 : Value) (j : Nat) (v : Value) (_ : World) : Prop :=
  match j with
  | 0 => v = .slice A m c
  | 1 => v = .int .i64 (m : Int)
  | 2 => v = .int .i64 (n : Int)
  | 3 => v = .bool false
  | 4 => v = .bool false
  | 5 => v = .int .i64 1
  | 6 => v = .bool false
  | 7 => v = .bool false
  | 8 => v = .bool false
  | 9 => v = .pointer (some ⟨b, 0, Option.none⟩)
  | 10 => v = evalue x
  | 11 => v = .int .i64 now
  | 12 => v = .bool r
  | 13 => v = .pointer (some ⟨gx, 5, Option.none⟩)
  | 14 => v = .int .i64 x.til
  | 15 => v = .int .i64 now
  | 16 => v = .bool g
  | 17 => v = .bool q
  | 18 => v = .bool q
  | 19 => v = u1
  | 20 => v = u2
  | 21 => v = u3
  | 22 => v = u4
  | 23 => v = .bool false
  | 24 => v = .bool false
  | _ => True
theorem wlF_later {b gx n m : Nat} {A : Option Addr} {c : Nat} {x : Ent} {now : Int} {r g q : Bool} {u1 u2 u3 u4 : Value} : Outlives (wlF b gx n m A c x now r g q u1 u2 u3 u4) := by
  intro j v w w' h _
  unfold wlF at h ⊢
  split at h
  all_goals exact h
end Go.Proofs.Ythojnhdnflakiaa
