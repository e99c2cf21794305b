/-
  Words for the laws of stage 19. Conditions: those that each theorem states.
-/
import Derived.Test.YtlmchoonokglaaaTabAwake
import Derived.Test.YtlmchoonokglaaaTabFew
namespace Go.Proofs.Ytlmchoonokglaaa
open Go.RowKit Go.Lib Go.Maps Go.WideMaps Leb

set_option maxRecDepth 100000 in
theorem run_neqS9 (x y : Operand) (s : ByteArray) (w : World) : (do eqGuard .neq 9 x y (.string s) (.string s); binOp .neq 9 (.string s) (.string s) : Sem Value).run Try.prog w = .ok (.bool false) w := by go_simp
set_option maxRecDepth 100000 in
theorem run_neqI9 (x y : Operand) (z : Int) (w : World) : (do eqGuard .neq 3 x y (.int .i64 z) (.int .i64 z); binOp .neq 3 (.int .i64 z) (.int .i64 z) : Sem Value).run Try.prog w = .ok (.bool false) w := by go_simp
set_option maxRecDepth 100000 in
theorem run_fieldR (w : World) (b : Nat) : (Instr.fieldAt 28 (.pointer (some ⟨b, 0, Option.none⟩)) 0).run Try.prog w = .ok (.pointer (some ⟨b, 0, Option.none⟩)) w := by go_simp
theorem enters_len (vs : Array Value) (w : World) : (callFunc 10 vs).run Try.prog w = .ok (.enter 10 vs) w := by kernel_rfl

/-- Both tables as New and '&ref.Table{}' make them. -/
theorem duo_new {w w1 : World} {b1 : Nat} {S1 : Nat → Prop} (h1 : PTab w1 b1 [] S1) (lo1 : ∀ k, S1 k → w.heap.size ≤ k) (hb1 : Below w.heap.size w w1) :
    Duo w.heap.size (w1.alloc (.cells #[.slice Option.none 0 0] 28)) b1 [] S1 w1.heap.size [] (fun k => k = w1.heap.size) :=
  ⟨h1.later (below_box w1 _), newR w1 _ rfl, fun k k1 k2 => by have := h1.low k k1; omega, lo1, fun k hk => by rw [hk]; exact hb1.size⟩
theorem Duo.onP {B : Nat} {w0 w w' : World} {b1 b2 : Nat} {l1 l2 l' : List (List UInt8)} {S1 S2 S' : Nat → Prop} (h : Duo B w b1 l1 S1 b2 l2 S2) (hb : Below B w0 w) (hs : PStep w w' b1 S1 S' l') (hB : B ≤ w.heap.size) : Below B w0 w' := below_alt hb hs.alt hB h.lo1
theorem Duo.onR {B : Nat} {w0 w w' : World} {b1 b2 : Nat} {l1 l2 l' : List (List UInt8)} {S1 S2 S' : Nat → Prop} (h : Duo B w b1 l1 S1 b2 l2 S2) (hb : Below B w0 w) (hs : RStep w w' b2 S2 S' l') (hB : B ≤ w.heap.size) : Below B w0 w' := below_alt hb hs.alt hB h.lo2
theorem belowB {B : Nat} {w0 w w' : World} (hb : Below B w0 w) (h : Below w.heap.size w w') (hB : B ≤ w.heap.size) : Below B w0 w' := hb.trans (h.mono hB)

/-- A list of texts that lies in no block of either table. -/
structure Lst (w : World) (A : Option Addr) (n : Nat) (L : List (List UInt8)) (S1 S2 : Nat → Prop) : Prop where
  rd : Texts w A n L
  o1 : Off S1 A n
  o2 : Off S2 A n
theorem Off.nextT {w : World} {S S' : Nat → Prop} {A : Option Addr} {n : Nat} {L : List (List UInt8)} (h : Off S A n) (hL : Texts w A n L) (hn : ∀ k, S' k → S k ∨ w.heap.size ≤ k) : Off S' A n := fun g off e h0 hs => by
  obtain ⟨b, e1, hlt, _⟩ := hL.cell h0
  rw [e1] at e
  injection e with e
  injection e with e2 _
  subst e2
  rcases hn b hs with h1 | h1
  · exact h b 0 e1 h0 h1
  · omega
section
variable {w w' : World} {A : Option Addr} {n b : Nat} {L l' : List (List UInt8)} {S1 S2 S' : Nat → Prop}
theorem Lst.stepP (h : Lst w A n L S1 S2) (hs : PStep w w' b S1 S' l') : Lst w' A n L S' S2 := ⟨h.rd.alt hs.alt h.o1, h.o1.nextT h.rd hs.new, h.o2⟩
theorem Lst.stepR (h : Lst w A n L S1 S2) (hs : RStep w w' b S2 S' l') : Lst w' A n L S1 S' := ⟨h.rd.alt hs.alt h.o2, h.o1, h.o2.nextT h.rd hs.new⟩
theorem Lst.swap (h : Lst w A n L S1 S2) : Lst w A n L S2 S1 := ⟨h.rd, h.o2, h.o1⟩
theorem Lst.later (h : Lst w A n L S1 S2) (hb : Below w.heap.size w w') : Lst w' A n L S1 S2 := ⟨h.rd.later hb, h.o1, h.o2⟩
theorem lst_at (h : Lst w A n L S1 S2) {k : Nat} (hk : k < n) : ∃ g y, A = some ⟨g, 0, Option.none⟩ ∧ L[k]? = some y ∧ w.cell? ⟨g, k, Option.none⟩ = some (.string (mk y)) := by
  obtain ⟨g, e, _, hc⟩ := h.rd.cell (by omega)
  have hl : k < L.length := by rw [h.rd.len]; exact hk
  have h1 := hc k hk
  rw [List.getElem?_eq_getElem hl] at h1
  exact ⟨g, _, e, List.getElem?_eq_getElem hl, h1⟩
end
theorem lst_own {w : World} {base : Nat} {v : Value} {L : List (List UInt8)} {S1 S2 : Nat → Prop} (h : OwnsT w base v L) (h1 : ∀ k, S1 k → k < base) (h2 : ∀ k, S2 k → k < base) : ∃ A c, v = .slice A L.length c ∧ Lst w A L.length L S1 S2 := by
  have o1 := h.off h1
  have o2 := h.off h2
  obtain ⟨A, c, rfl, hT⟩ := h.texts
  exact ⟨A, c, rfl, hT, o1.off, o2.off⟩
/-- What the slots hold where the law asks whether both answers of Take are one. -/
def tkF (z : ByteArray) (n1 e1 : Int) (b1 b2 : Nat) (A9 : Option Addr) (m c9 : Nat) (j : Nat) (v : Value) (_ : World) : Prop :=
  match j with
  | 0 => v = .string z
  | 1 => v = .string z
  | 2 => v = .bool false
  | 3 => v = .bool false
  | 4 => v = .int .i64 n1
  | 5 => v = .int .i64 n1
  | 6 => v = .bool false
  | 7 => v = .bool false
  | 8 => v = .bool false
  | 9 => v = .int .i64 e1
  | 10 => v = .int .i64 e1
  | 11 => v = .bool false
  | 12 => v = .bool false
  | 13 => v = .bool false
  | 14 => v = .pointer (some ⟨b1, 0, Option.none⟩)
  | 15 => v = .int .i64 (m : Int)
  | 16 => v = .pointer (some ⟨b2, 0, Option.none⟩)
  | 17 => v = .pointer (some ⟨b2, 0, Option.none⟩)
  | 18 => v = .pointer (some ⟨b2, 0, Option.none⟩)
  | 19 => v = .slice A9 m c9
  | 20 => v = .int .i64 (m : Int)
  | 21 => v = .bool false
  | 22 => v = .bool false
  | _ => True
theorem tkF_later {z : ByteArray} {n1 e1 : Int} {b1 b2 : Nat} {A9 : Option Addr} {m c9 : Nat} : Outlives (tkF z n1 e1 b1 b2 A9 m c9) := by
  intro j v w w' h _
  unfold tkF at h ⊢
  split at h
  all_goals exact h
/-- What the slots hold where the law asks whether both have put the same. -/
def puF9 (vx vy : Value) (z : ByteArray) (b1 b2 : Nat) (A9 : Option Addr) (m c9 : Nat) (j : Nat) (v : Value) (_ : World) : Prop :=
  match j with
  | 0 => v = vx
  | 1 => v = .string z
  | 2 => v = vy
  | 3 => v = .string z
  | 4 => v = .bool false
  | 5 => v = .bool false
  | 6 => v = .pointer (some ⟨b1, 0, Option.none⟩)
  | 7 => v = .int .i64 (m : Int)
  | 8 => v = .pointer (some ⟨b2, 0, Option.none⟩)
  | 9 => v = .pointer (some ⟨b2, 0, Option.none⟩)
  | 10 => v = .pointer (some ⟨b2, 0, Option.none⟩)
  | 11 => v = .slice A9 m c9
  | 12 => v = .int .i64 (m : Int)
  | 13 => v = .bool false
  | 14 => v = .bool false
  | _ => True
theorem puF9_later {vx vy : Value} {z : ByteArray} {b1 b2 : Nat} {A9 : Option Addr} {m c9 : Nat} : Outlives (puF9 vx vy z b1 b2 A9 m c9) := by
  intro j v w w' h _
  unfold puF9 at h ⊢
  split at h
  all_goals exact h
end Go.Proofs.Ytlmchoonokglaaa
