/-
  The reference's Take of layer 20. Conditions: those that each theorem states.
-/
import Derived.Test.YtodncamohimmmaaLow12
import Derived.Test.YtodncamohimmmaaLow16
import Derived.Test.YtodncamohimmmaaLow11
namespace Go.Proofs.Ytodncamohimmmaa
open Go.RowKit Go.Lib Go.Maps Go.WideMaps Leb

def DTookO (w : World) (b : Nat) (S : Nat → Prop) (r : (List Hd × Int × Int) × List (List UInt8)) (en : Ending) (w' : World) : Prop :=
  ∃ v S', en = .returned (.tuple #[v, .int .i64 r.1.2.1, .int .i64 r.1.2.2]) ∧ OwnsH w' w.heap.size v r.1.1 ∧ RStep w w' b S S' r.2 ∧ OffV S' v
theorem offv_nil (S : Nat → Prop) : OffV S (.slice Option.none 0 0) := fun g e => by cases e
def DTookR (w : World) (b : Nat) (S : Nat → Prop) (r : (List Hd × Int × Int) × List (List UInt8)) (en : Ending) (w' : World) : Prop :=
  ∃ v S', en = .returned (.tuple #[v, .int .i64 r.1.2.1, .int .i64 r.1.2.2]) ∧ OwnsH w' w.heap.size v r.1.1 ∧ RStep w w' b S S' r.2
theorem eq0_false {e : Int} (h : e ≠ 0) : (e == 0) = false := beq_eq_false_iff_ne.2 h
section
variable (b : Nat) (T : List (List UInt8)) (S : Nat → Prop) (A : Option Addr) (n c : Nat) (X : List Int) (p : Int) (Aw : Option Addr) (nw cw : Nat) (was : List Hd) (w : World)
set_option maxHeartbeats 32000000 in
set_option maxRecDepth 100000 in
theorem refDtake_e1 {a : Nat} {q1 e : Int} (h1 : take X p = (a, q1, e)) (he : e ≠ 0) (h : RTab w b T S) (hX : Holds w A n c X) : Calls Try.prog 48 #[.slice A n c, .int .i64 p, .pointer (some ⟨b, 0, Option.none⟩), .slice Aw nw cw] w (DTookO w b S (([], 0, e), T)) := by
  have hR := Lib.hid h
  have hk1 := fun W hW => refTake_any A n c X p W (hX.later hW)
  simp only [h1] at hk1
  have hk1' := Lib.hid hk1
  have tok1 : True := trivial
  have hz := eq0_false he
  clear h hX h1 hk1
  go_enter Try.func48, Try.ntmps48
  go_wp2_with (first | (go_at_call 46; have _t := tok1; refine (hk1'.out _ (Below.refl _ _)).mono ?_; rintro e9 w1 ⟨rfl, hb⟩; have hb1' := Lib.hid hb; clear hb tok1 hk1'))
  go_ret3
  exact ⟨.slice Option.none 0 0, S, rfl, World.ownsRow_nil _ _ _ _, RStep.same hR.out hb1'.out, offv_nil _⟩
set_option maxHeartbeats 32000000 in
set_option maxRecDepth 100000 in
theorem refDtake_e2 {a a2 : Nat} {q1 q2 e : Int} (h1 : take X p = (a, q1, 0)) (h2 : take X q1 = (a2, q2, e)) (he : e ≠ 0) (h : RTab w b T S) (hX : Holds w A n c X) : Calls Try.prog 48 #[.slice A n c, .int .i64 p, .pointer (some ⟨b, 0, Option.none⟩), .slice Aw nw cw] w (DTookO w b S (([], 0, e), T)) := by
  have hR := Lib.hid h
  have hk1 := fun W hW => refTake_any A n c X p W (hX.later hW)
  simp only [h1] at hk1
  have hk1' := Lib.hid hk1
  have tok1 : True := trivial
  have hk2 := fun W hW => refTake_any A n c X q1 W (hX.later hW)
  simp only [h2] at hk2
  have hk2' := Lib.hid hk2
  have tok2 : True := trivial
  have hz := eq0_false he
  clear h hX h1 hk1 h2 hk2
  go_enter Try.func48, Try.ntmps48
  go_wp2_with (first | (go_at_call 46; have _t := tok1; refine (hk1'.out _ (Below.refl _ _)).mono ?_; rintro e9 w1 ⟨rfl, hb⟩; have hb1' := Lib.hid hb; clear hb tok1 hk1') | (go_at_call 46; have _t := tok2; refine (hk2'.out _ (hb1'.out)).mono ?_; rintro e9 w2 ⟨rfl, hb⟩; have hb2' := Lib.hid (below_then hb1'.out hb); clear hb tok2 hk2'))
  go_ret3
  exact ⟨.slice Option.none 0 0, S, rfl, World.ownsRow_nil _ _ _ _, RStep.same hR.out hb2'.out, offv_nil _⟩
set_option maxHeartbeats 32000000 in
set_option maxRecDepth 100000 in
theorem refDtake_e3 {a a2 a3 : Nat} {q1 q2 q3 e : Int} (h1 : take X p = (a, q1, 0)) (h2 : take X q1 = (a2, q2, 0)) (h3 : take X q2 = (a3, q3, e)) (he : e ≠ 0) (h : RTab w b T S) (hX : Holds w A n c X) : Calls Try.prog 48 #[.slice A n c, .int .i64 p, .pointer (some ⟨b, 0, Option.none⟩), .slice Aw nw cw] w (DTookO w b S (([], 0, e), T)) := by
  have hR := Lib.hid h
  have hk1 := fun W hW => refTake_any A n c X p W (hX.later hW)
  simp only [h1] at hk1
  have hk1' := Lib.hid hk1
  have tok1 : True := trivial
  have hk2 := fun W hW => refTake_any A n c X q1 W (hX.later hW)
  simp only [h2] at hk2
  have hk2' := Lib.hid hk2
  have tok2 : True := trivial
  have hk3 := fun W hW => refTake_any A n c X q2 W (hX.later hW)
  simp only [h3] at hk3
  have hk3' := Lib.hid hk3
  have tok3 : True := trivial
  have hz := eq0_false he
  clear h hX h1 hk1 h2 hk2 h3 hk3
  go_enter Try.func48, Try.ntmps48
  go_wp2_with (first | (go_at_call 46; have _t := tok1; refine (hk1'.out _ (Below.refl _ _)).mono ?_; rintro e9 w1 ⟨rfl, hb⟩; have hb1' := Lib.hid hb; clear hb tok1 hk1') | (go_at_call 46; have _t := tok2; refine (hk2'.out _ (hb1'.out)).mono ?_; rintro e9 w2 ⟨rfl, hb⟩; have hb2' := Lib.hid (below_then hb1'.out hb); clear hb tok2 hk2') | (go_at_call 46; have _t := tok3; refine (hk3'.out _ (hb2'.out)).mono ?_; rintro e9 w3 ⟨rfl, hb⟩; have hb3' := Lib.hid (below_then hb2'.out hb); clear hb tok3 hk3'))
  go_ret3
  exact ⟨.slice Option.none 0 0, S, rfl, World.ownsRow_nil _ _ _ _, RStep.same hR.out hb3'.out, offv_nil _⟩
set_option maxHeartbeats 32000000 in
set_option maxRecDepth 100000 in
theorem refDtake_n1 {a a2 a3 : Nat} {q1 q2 q3 : Int} (h1 : take X p = (a, q1, 0)) (h2 : take X q1 = (a2, q2, 0)) (h3 : take X q2 = (a3, q3, 0)) (hnw : nw ≤ 1000) (g1 : nw < a) (h : RTab w b T S) (hX : Holds w A n c X) : Calls Try.prog 48 #[.slice A n c, .int .i64 p, .pointer (some ⟨b, 0, Option.none⟩), .slice Aw nw cw] w (DTookO w b S (([], 0, 5), T)) := by
  have hR := Lib.hid h
  have hk1 := fun W hW => refTake_any A n c X p W (hX.later hW)
  simp only [h1] at hk1
  have hk1' := Lib.hid hk1
  have tok1 : True := trivial
  have hk2 := fun W hW => refTake_any A n c X q1 W (hX.later hW)
  simp only [h2] at hk2
  have hk2' := Lib.hid hk2
  have tok2 : True := trivial
  have hk3 := fun W hW => refTake_any A n c X q2 W (hX.later hW)
  simp only [h3] at hk3
  have hk3' := Lib.hid hk3
  have tok3 : True := trivial
  have hwn : IntKind.u64.wrap (nw : Int) = nw := wrap_of (show U64 nw by unfold U64; omega)
  have d1 : decide ((nw : Int) < (a : Int)) = true := decide_eq_true (by omega)
  clear h hX h1 hk1 h2 hk2 h3 hk3
  go_enter Try.func48, Try.ntmps48
  go_wp2_with (first | (go_at_call 46; have _t := tok1; refine (hk1'.out _ (Below.refl _ _)).mono ?_; rintro e9 w1 ⟨rfl, hb⟩; have hb1' := Lib.hid hb; clear hb tok1 hk1') | (go_at_call 46; have _t := tok2; refine (hk2'.out _ (hb1'.out)).mono ?_; rintro e9 w2 ⟨rfl, hb⟩; have hb2' := Lib.hid (below_then hb1'.out hb); clear hb tok2 hk2') | (go_at_call 46; have _t := tok3; refine (hk3'.out _ (hb2'.out)).mono ?_; rintro e9 w3 ⟨rfl, hb⟩; have hb3' := Lib.hid (below_then hb2'.out hb); clear hb tok3 hk3'))
  go_ret3
  exact ⟨.slice Option.none 0 0, S, rfl, World.ownsRow_nil _ _ _ _, RStep.same hR.out hb3'.out, offv_nil _⟩
set_option maxHeartbeats 32000000 in
set_option maxRecDepth 100000 in
theorem refDtake_n2 {a a2 a3 : Nat} {q1 q2 q3 : Int} (h1 : take X p = (a, q1, 0)) (h2 : take X q1 = (a2, q2, 0)) (h3 : take X q2 = (a3, q3, 0)) (hnw : nw ≤ 1000) (g1 : a ≤ nw) (g2 : nw < a2) (h : RTab w b T S) (hX : Holds w A n c X) : Calls Try.prog 48 #[.slice A n c, .int .i64 p, .pointer (some ⟨b, 0, Option.none⟩), .slice Aw nw cw] w (DTookO w b S (([], 0, 5), T)) := by
  have hR := Lib.hid h
  have hk1 := fun W hW => refTake_any A n c X p W (hX.later hW)
  simp only [h1] at hk1
  have hk1' := Lib.hid hk1
  have tok1 : True := trivial
  have hk2 := fun W hW => refTake_any A n c X q1 W (hX.later hW)
  simp only [h2] at hk2
  have hk2' := Lib.hid hk2
  have tok2 : True := trivial
  have hk3 := fun W hW => refTake_any A n c X q2 W (hX.later hW)
  simp only [h3] at hk3
  have hk3' := Lib.hid hk3
  have tok3 : True := trivial
  have hwn : IntKind.u64.wrap (nw : Int) = nw := wrap_of (show U64 nw by unfold U64; omega)
  have d1 : decide ((nw : Int) < (a : Int)) = false := decide_eq_false (by omega)
  have d2 : decide ((nw : Int) < (a2 : Int)) = true := decide_eq_true (by omega)
  clear h hX h1 hk1 h2 hk2 h3 hk3
  go_enter Try.func48, Try.ntmps48
  go_wp2_with (first | (go_at_call 46; have _t := tok1; refine (hk1'.out _ (Below.refl _ _)).mono ?_; rintro e9 w1 ⟨rfl, hb⟩; have hb1' := Lib.hid hb; clear hb tok1 hk1') | (go_at_call 46; have _t := tok2; refine (hk2'.out _ (hb1'.out)).mono ?_; rintro e9 w2 ⟨rfl, hb⟩; have hb2' := Lib.hid (below_then hb1'.out hb); clear hb tok2 hk2') | (go_at_call 46; have _t := tok3; refine (hk3'.out _ (hb2'.out)).mono ?_; rintro e9 w3 ⟨rfl, hb⟩; have hb3' := Lib.hid (below_then hb2'.out hb); clear hb tok3 hk3'))
  go_ret3
  exact ⟨.slice Option.none 0 0, S, rfl, World.ownsRow_nil _ _ _ _, RStep.same hR.out hb3'.out, offv_nil _⟩
set_option maxHeartbeats 32000000 in
set_option maxRecDepth 100000 in
theorem refDtake_n3 {a a2 a3 : Nat} {q1 q2 q3 : Int} (h1 : take X p = (a, q1, 0)) (h2 : take X q1 = (a2, q2, 0)) (h3 : take X q2 = (a3, q3, 0)) (hnw : nw ≤ 1000) (g1 : a ≤ nw) (g2 : a2 ≤ nw) (g3 : nw < a + a2) (h : RTab w b T S) (hX : Holds w A n c X) : Calls Try.prog 48 #[.slice A n c, .int .i64 p, .pointer (some ⟨b, 0, Option.none⟩), .slice Aw nw cw] w (DTookO w b S (([], 0, 5), T)) := by
  have hR := Lib.hid h
  have hk1 := fun W hW => refTake_any A n c X p W (hX.later hW)
  simp only [h1] at hk1
  have hk1' := Lib.hid hk1
  have tok1 : True := trivial
  have hk2 := fun W hW => refTake_any A n c X q1 W (hX.later hW)
  simp only [h2] at hk2
  have hk2' := Lib.hid hk2
  have tok2 : True := trivial
  have hk3 := fun W hW => refTake_any A n c X q2 W (hX.later hW)
  simp only [h3] at hk3
  have hk3' := Lib.hid hk3
  have tok3 : True := trivial
  have hwn : IntKind.u64.wrap (nw : Int) = nw := wrap_of (show U64 nw by unfold U64; omega)
  have d1 : decide ((nw : Int) < (a : Int)) = false := decide_eq_false (by omega)
  have d2 : decide ((nw : Int) < (a2 : Int)) = false := decide_eq_false (by omega)
  have hsum : IntKind.u64.wrap ((a : Int) + (a2 : Int)) = ((a + a2 : Nat) : Int) := by rw [IntWalk.u64_in _ ⟨by omega, by omega⟩]; omega
  have d3 : decide ((nw : Int) < ((a : Int) + (a2 : Int))) = true := decide_eq_true (by omega)
  clear h hX h1 hk1 h2 hk2 h3 hk3
  go_enter Try.func48, Try.ntmps48
  go_wp2_with (first | (go_at_call 46; have _t := tok1; refine (hk1'.out _ (Below.refl _ _)).mono ?_; rintro e9 w1 ⟨rfl, hb⟩; have hb1' := Lib.hid hb; clear hb tok1 hk1') | (go_at_call 46; have _t := tok2; refine (hk2'.out _ (hb1'.out)).mono ?_; rintro e9 w2 ⟨rfl, hb⟩; have hb2' := Lib.hid (below_then hb1'.out hb); clear hb tok2 hk2') | (go_at_call 46; have _t := tok3; refine (hk3'.out _ (hb2'.out)).mono ?_; rintro e9 w3 ⟨rfl, hb⟩; have hb3' := Lib.hid (below_then hb2'.out hb); clear hb tok3 hk3'))
  go_ret3
  exact ⟨.slice Option.none 0 0, S, rfl, World.ownsRow_nil _ _ _ _, RStep.same hR.out hb3'.out, offv_nil _⟩
set_option maxHeartbeats 32000000 in
set_option maxRecDepth 100000 in
theorem refDtake_o1 {a a2 a3 : Nat} {q1 q2 q3 : Int} (h1 : take X p = (a, q1, 0)) (h2 : take X q1 = (a2, q2, 0)) (h3 : take X q2 = (a3, q3, 0)) (hnw : nw ≤ 1000) (g0 : a + a2 ≤ nw) (g1 : 25 < a3) (h : RTab w b T S) (hX : Holds w A n c X) : Calls Try.prog 48 #[.slice A n c, .int .i64 p, .pointer (some ⟨b, 0, Option.none⟩), .slice Aw nw cw] w (DTookO w b S (([], 0, 2), T)) := by
  have hR := Lib.hid h
  have hk1 := fun W hW => refTake_any A n c X p W (hX.later hW)
  simp only [h1] at hk1
  have hk1' := Lib.hid hk1
  have tok1 : True := trivial
  have hk2 := fun W hW => refTake_any A n c X q1 W (hX.later hW)
  simp only [h2] at hk2
  have hk2' := Lib.hid hk2
  have tok2 : True := trivial
  have hk3 := fun W hW => refTake_any A n c X q2 W (hX.later hW)
  simp only [h3] at hk3
  have hk3' := Lib.hid hk3
  have tok3 : True := trivial
  have hwn : IntKind.u64.wrap (nw : Int) = nw := wrap_of (show U64 nw by unfold U64; omega)
  have d1 : decide ((nw : Int) < (a : Int)) = false := decide_eq_false (by omega)
  have d2 : decide ((nw : Int) < (a2 : Int)) = false := decide_eq_false (by omega)
  have hsum : IntKind.u64.wrap ((a : Int) + (a2 : Int)) = ((a + a2 : Nat) : Int) := by rw [IntWalk.u64_in _ ⟨by omega, by omega⟩]; omega
  have d3 : decide ((nw : Int) < ((a : Int) + (a2 : Int))) = false := decide_eq_false (by omega)
  have d4 : decide ((25 : Int) < (a3 : Int)) = true := decide_eq_true (by omega)
  clear h hX h1 hk1 h2 hk2 h3 hk3
  go_enter Try.func48, Try.ntmps48
  go_wp2_with (first | (go_at_call 46; have _t := tok1; refine (hk1'.out _ (Below.refl _ _)).mono ?_; rintro e9 w1 ⟨rfl, hb⟩; have hb1' := Lib.hid hb; clear hb tok1 hk1') | (go_at_call 46; have _t := tok2; refine (hk2'.out _ (hb1'.out)).mono ?_; rintro e9 w2 ⟨rfl, hb⟩; have hb2' := Lib.hid (below_then hb1'.out hb); clear hb tok2 hk2') | (go_at_call 46; have _t := tok3; refine (hk3'.out _ (hb2'.out)).mono ?_; rintro e9 w3 ⟨rfl, hb⟩; have hb3' := Lib.hid (below_then hb2'.out hb); clear hb tok3 hk3'))
  go_ret3
  exact ⟨.slice Option.none 0 0, S, rfl, World.ownsRow_nil _ _ _ _, RStep.same hR.out hb3'.out, offv_nil _⟩
set_option maxHeartbeats 32000000 in
set_option maxRecDepth 100000 in
theorem refDtake_o2 {a a2 a3 : Nat} {q1 q2 q3 : Int} (h1 : take X p = (a, q1, 0)) (h2 : take X q1 = (a2, q2, 0)) (h3 : take X q2 = (a3, q3, 0)) (hnw : nw ≤ 1000) (g0 : a + a2 ≤ nw) (g1 : a3 ≤ 25) (g2 : 25 < a + a2 + a3) (h : RTab w b T S) (hX : Holds w A n c X) : Calls Try.prog 48 #[.slice A n c, .int .i64 p, .pointer (some ⟨b, 0, Option.none⟩), .slice Aw nw cw] w (DTookO w b S (([], 0, 2), T)) := by
  have hR := Lib.hid h
  have hk1 := fun W hW => refTake_any A n c X p W (hX.later hW)
  simp only [h1] at hk1
  have hk1' := Lib.hid hk1
  have tok1 : True := trivial
  have hk2 := fun W hW => refTake_any A n c X q1 W (hX.later hW)
  simp only [h2] at hk2
  have hk2' := Lib.hid hk2
  have tok2 : True := trivial
  have hk3 := fun W hW => refTake_any A n c X q2 W (hX.later hW)
  simp only [h3] at hk3
  have hk3' := Lib.hid hk3
  have tok3 : True := trivial
  have hwn : IntKind.u64.wrap (nw : Int) = nw := wrap_of (show U64 nw by unfold U64; omega)
  have d1 : decide ((nw : Int) < (a : Int)) = false := decide_eq_false (by omega)
  have d2 : decide ((nw : Int) < (a2 : Int)) = false := decide_eq_false (by omega)
  have hsum : IntKind.u64.wrap ((a : Int) + (a2 : Int)) = ((a + a2 : Nat) : Int) := by rw [IntWalk.u64_in _ ⟨by omega, by omega⟩]; omega
  have d3 : decide ((nw : Int) < ((a : Int) + (a2 : Int))) = false := decide_eq_false (by omega)
  have d4 : decide ((25 : Int) < (a3 : Int)) = false := decide_eq_false (by omega)
  have hsum3 : IntKind.u64.wrap ((a : Int) + (a2 : Int) + (a3 : Int)) = ((a + a2 + a3 : Nat) : Int) := by rw [IntWalk.u64_in _ ⟨by omega, by omega⟩]; omega
  have d5 : decide ((25 : Int) < ((a : Int) + (a2 : Int) + (a3 : Int))) = true := decide_eq_true (by omega)
  clear h hX h1 hk1 h2 hk2 h3 hk3
  go_enter Try.func48, Try.ntmps48
  go_wp2_with (first | (go_at_call 46; have _t := tok1; refine (hk1'.out _ (Below.refl _ _)).mono ?_; rintro e9 w1 ⟨rfl, hb⟩; have hb1' := Lib.hid hb; clear hb tok1 hk1') | (go_at_call 46; have _t := tok2; refine (hk2'.out _ (hb1'.out)).mono ?_; rintro e9 w2 ⟨rfl, hb⟩; have hb2' := Lib.hid (below_then hb1'.out hb); clear hb tok2 hk2') | (go_at_call 46; have _t := tok3; refine (hk3'.out _ (hb2'.out)).mono ?_; rintro e9 w3 ⟨rfl, hb⟩; have hb3' := Lib.hid (below_then hb2'.out hb); clear hb tok3 hk3'))
  go_ret3
  exact ⟨.slice Option.none 0 0, S, rfl, World.ownsRow_nil _ _ _ _, RStep.same hR.out hb3'.out, offv_nil _⟩
end
end Go.Proofs.Ytodncamohimmmaa
