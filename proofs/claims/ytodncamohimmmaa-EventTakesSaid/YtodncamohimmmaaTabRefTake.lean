/-
  The reference's Take of layer 19. Conditions: those that each theorem states.
-/
import Derived.Test.YtodncamohimmmaaLow8
import Derived.Test.YtodncamohimmmaaLow11
namespace Go.Proofs.Ytodncamohimmmaa
open Go.RowKit Go.Lib Leb

def RTook (w : World) (b : Nat) (v : Value) (r : List UInt8 × Int × Int) (l' : List (List UInt8)) (en : Ending) (w' : World) : Prop :=
  ∃ u, en = .returned (.tuple #[.string (mk r.1), .int .i64 r.2.1, .int .i64 r.2.2]) ∧ RPut w w' b v u l'

section
variable (b : Nat) (v : Value) (l : List (List UInt8)) (A : Option Addr) (n c : Nat) (X : List Int) (p : Int) (w : World)
set_option maxHeartbeats 4000000 in
set_option maxRecDepth 100000 in
theorem refTab_e1 {a : Nat} {q e : Int} (h : RT w b v l) (hX : Holds w A n c X) (h1 : take X p = (a, q, e)) (he : e = 1 ∨ e = 4 ∨ e = 7) : Calls Try.prog 47 #[.pointer (some ⟨b, 0, Option.none⟩), .slice A n c, .int .i64 p] w (RTook w b v ([], 0, e) l) := by
  rcases he with rfl | rfl | rfl
  · have hR := Lib.hid h
    have hk1 := fun W hW => refTake_any A n c X p W (hX.later hW)
    simp only [h1] at hk1
    have hk1' := Lib.hid hk1
    clear hk1 h1
    have tok1 : True := trivial
    go_enter Try.func47, Try.ntmps47
    go_wp2_with (go_at_call 46; have _t := tok1; refine (hk1'.out _ (Below.refl _ _)).mono ?_; rintro e9 w1 ⟨rfl, hb1⟩; have hb1' := Lib.hid hb1; clear hb1 hk1' tok1)
    go_ret3
    exact ⟨_, rfl, RPut.same hR.out hb1'.out⟩
  · have hR := Lib.hid h
    have hk1 := fun W hW => refTake_any A n c X p W (hX.later hW)
    simp only [h1] at hk1
    have hk1' := Lib.hid hk1
    clear hk1 h1
    have tok1 : True := trivial
    go_enter Try.func47, Try.ntmps47
    go_wp2_with (go_at_call 46; have _t := tok1; refine (hk1'.out _ (Below.refl _ _)).mono ?_; rintro e9 w1 ⟨rfl, hb1⟩; have hb1' := Lib.hid hb1; clear hb1 hk1' tok1)
    go_ret3
    exact ⟨_, rfl, RPut.same hR.out hb1'.out⟩
  · have hR := Lib.hid h
    have hk1 := fun W hW => refTake_any A n c X p W (hX.later hW)
    simp only [h1] at hk1
    have hk1' := Lib.hid hk1
    clear hk1 h1
    have tok1 : True := trivial
    go_enter Try.func47, Try.ntmps47
    go_wp2_with (go_at_call 46; have _t := tok1; refine (hk1'.out _ (Below.refl _ _)).mono ?_; rintro e9 w1 ⟨rfl, hb1⟩; have hb1' := Lib.hid hb1; clear hb1 hk1' tok1)
    go_ret3
    exact ⟨_, rfl, RPut.same hR.out hb1'.out⟩
set_option maxHeartbeats 4000000 in
set_option maxRecDepth 100000 in
theorem refTab_none {a : Nat} {q : Int} (h : RT w b v l) (hX : Holds w A n c X) (hl : l.length ≤ 1000000) (h1 : take X p = (a, q, 0)) (ha : l.length < a) : Calls Try.prog 47 #[.pointer (some ⟨b, 0, Option.none⟩), .slice A n c, .int .i64 p] w (RTook w b v ([], 0, 5) l) := by
  have h0 : 0 < a := by omega
  have hR := Lib.hid h
  have hk1 := fun W hW => refTake_any A n c X p W (hX.later hW)
  simp only [h1] at hk1
  have hk1' := Lib.hid hk1
  clear hk1 h1
  obtain ⟨Av, cv, rfl, hT⟩ := h.own.texts
  obtain ⟨m, hm⟩ : ∃ m, m = l.length := ⟨_, rfl⟩
  have hc := fun W hW => (h.later (w' := W) hW).cell
  rw [← hm] at hc ha hl
  have hc' := Lib.hid hc
  have hf : IntKind.u64.wrap (m : Int) = m := IntWalk.u64_in _ ⟨by omega, by omega⟩
  clear hX h hc hm hT
  have tok1 : True := trivial
  go_enter Try.func47, Try.ntmps47
  go_wp2_with (go_at_call 46; have _t := tok1; refine (hk1'.out _ (Below.refl _ _)).mono ?_; rintro e9 w1 ⟨rfl, hb1⟩; have hb1' := Lib.hid hb1; clear hb1 hk1' tok1; have hc1 := hc'.out _ hb1'.out)
  go_ret3
  exact ⟨_, rfl, RPut.same hR.out hb1'.out⟩
set_option maxHeartbeats 4000000 in
set_option maxRecDepth 100000 in
theorem refTab_old {a : Nat} {q : Int} (h : RT w b v l) (hX : Holds w A n c X) (hl : l.length ≤ 1000000) (h1 : take X p = (a, q, 0)) (h0 : 0 < a) (ha : a ≤ l.length) : Calls Try.prog 47 #[.pointer (some ⟨b, 0, Option.none⟩), .slice A n c, .int .i64 p] w (RTook w b v (l[a - 1]?.getD [], q, 0) l) := by
  have hR := Lib.hid h
  have hk1 := fun W hW => refTake_any A n c X p W (hX.later hW)
  simp only [h1] at hk1
  have hk1' := Lib.hid hk1
  clear hk1 h1
  obtain ⟨Av, cv, rfl, hT⟩ := h.own.texts
  obtain ⟨m, hm⟩ : ∃ m, m = l.length := ⟨_, rfl⟩
  have hc := fun W hW => (h.later (w' := W) hW).cell
  rw [← hm] at hc ha hl hT
  have hc' := Lib.hid hc
  obtain ⟨g, rfl, _, hcs⟩ := hT.cell (by omega)
  have hcell := fun W (hW : Below w.heap.size w W) => cell_later hW (hcs (a - 1) (by omega))
  obtain ⟨s, hs⟩ : ∃ s, s = l[a - 1]?.getD [] := ⟨_, rfl⟩
  simp only [← hs] at hcell
  rw [← hs]
  obtain ⟨x, hx⟩ : ∃ x, x = mk s := ⟨_, rfl⟩
  simp only [← hx] at hcell
  have hx9 := Lib.hid hx
  obtain ⟨k, rfl⟩ : ∃ k, a = k + 1 := ⟨a - 1, by omega⟩
  simp only [Nat.add_sub_cancel] at hcell
  have hcell' := Lib.hid hcell
  have hf : IntKind.u64.wrap (m : Int) = m := IntWalk.u64_in _ ⟨by omega, by omega⟩
  have hf1 : IntKind.i64.wrap (((k + 1 : Nat) : Int)) = ((k + 1 : Nat) : Int) := IntWalk.i64_in _ ⟨by omega, by omega⟩
  have hf2 : IntKind.i64.wrap (((k + 1 : Nat) : Int) - 1) = (k : Int) := by rw [IntWalk.i64_in _ ⟨by omega, by omega⟩]; omega
  have hkm : k < m := by omega
  clear hX h hc hm hT hcs hs h0 hcell hx
  have tok1 : True := trivial
  go_enter Try.func47, Try.ntmps47
  go_wp2_with (go_at_call 46; have _t := tok1; refine (hk1'.out _ (Below.refl _ _)).mono ?_; rintro e9 w1 ⟨rfl, hb1⟩; have hb1' := Lib.hid hb1; clear hb1 hk1' tok1; have hc1 := hc'.out _ hb1'.out; have hx1 := hcell'.out _ hb1'.out)
  go_ret3
  have e9 := hx9.out
  subst e9
  exact ⟨_, rfl, RPut.same hR.out hb1'.out⟩
set_option maxHeartbeats 4000000 in
set_option maxRecDepth 100000 in
theorem refTab_e2 {a2 : Nat} {q q2 e : Int} (h : RT w b v l) (hX : Holds w A n c X) (h1 : take X p = (0, q, 0)) (h2 : take X q = (a2, q2, e)) (he : e = 1 ∨ e = 4 ∨ e = 7) : Calls Try.prog 47 #[.pointer (some ⟨b, 0, Option.none⟩), .slice A n c, .int .i64 p] w (RTook w b v ([], 0, e) l) := by
  have hR := Lib.hid h
  have hk1 := fun W hW => refTake_any A n c X p W (hX.later hW)
  simp only [h1] at hk1
  have hk1' := Lib.hid hk1
  clear hk1 h1
  rcases he with rfl | rfl | rfl
  · have hk2 := fun W hW => refTake_any A n c X q W (hX.later hW)
    simp only [h2] at hk2
    have hk2' := Lib.hid hk2
    clear hk2 h2
    have tok1 : True := trivial
    have tok2 : True := trivial
    go_enter Try.func47, Try.ntmps47
    go_wp2_with (first | (go_at_call 46; have _t := tok1; refine (hk1'.out _ (Below.refl _ _)).mono ?_; rintro e9 w1 ⟨rfl, hb1⟩; have hb1' := Lib.hid hb1; clear hb1 hk1' tok1) | (go_at_call 46; have _t := tok2; refine (hk2'.out _ hb1'.out).mono ?_; rintro e9 w2 ⟨rfl, hb2⟩; have hb2' := Lib.hid (below_then hb1'.out hb2); clear hb2 hk2' tok2))
    go_ret3
    exact ⟨_, rfl, RPut.same hR.out hb2'.out⟩
  · have hk2 := fun W hW => refTake_any A n c X q W (hX.later hW)
    simp only [h2] at hk2
    have hk2' := Lib.hid hk2
    clear hk2 h2
    have tok1 : True := trivial
    have tok2 : True := trivial
    go_enter Try.func47, Try.ntmps47
    go_wp2_with (first | (go_at_call 46; have _t := tok1; refine (hk1'.out _ (Below.refl _ _)).mono ?_; rintro e9 w1 ⟨rfl, hb1⟩; have hb1' := Lib.hid hb1; clear hb1 hk1' tok1) | (go_at_call 46; have _t := tok2; refine (hk2'.out _ hb1'.out).mono ?_; rintro e9 w2 ⟨rfl, hb2⟩; have hb2' := Lib.hid (below_then hb1'.out hb2); clear hb2 hk2' tok2))
    go_ret3
    exact ⟨_, rfl, RPut.same hR.out hb2'.out⟩
  · have hk2 := fun W hW => refTake_any A n c X q W (hX.later hW)
    simp only [h2] at hk2
    have hk2' := Lib.hid hk2
    clear hk2 h2
    have tok1 : True := trivial
    have tok2 : True := trivial
    go_enter Try.func47, Try.ntmps47
    go_wp2_with (first | (go_at_call 46; have _t := tok1; refine (hk1'.out _ (Below.refl _ _)).mono ?_; rintro e9 w1 ⟨rfl, hb1⟩; have hb1' := Lib.hid hb1; clear hb1 hk1' tok1) | (go_at_call 46; have _t := tok2; refine (hk2'.out _ hb1'.out).mono ?_; rintro e9 w2 ⟨rfl, hb2⟩; have hb2' := Lib.hid (below_then hb1'.out hb2); clear hb2 hk2' tok2))
    go_ret3
    exact ⟨_, rfl, RPut.same hR.out hb2'.out⟩
set_option maxHeartbeats 4000000 in
set_option maxRecDepth 100000 in
theorem refTab_over {a2 : Nat} {q q2 : Int} (h : RT w b v l) (hX : Holds w A n c X) (h1 : take X p = (0, q, 0)) (h2 : take X q = (a2, q2, 0)) (ho : 2048 < a2) : Calls Try.prog 47 #[.pointer (some ⟨b, 0, Option.none⟩), .slice A n c, .int .i64 p] w (RTook w b v ([], 0, 2) l) := by
  have hR := Lib.hid h
  have hk1 := fun W hW => refTake_any A n c X p W (hX.later hW)
  simp only [h1] at hk1
  have hk1' := Lib.hid hk1
  clear hk1 h1
  have hk2 := fun W hW => refTake_any A n c X q W (hX.later hW)
  simp only [h2] at hk2
  have hk2' := Lib.hid hk2
  clear hk2 h2
  have tok1 : True := trivial
  have tok2 : True := trivial
  go_enter Try.func47, Try.ntmps47
  go_wp2_with (first | (go_at_call 46; have _t := tok1; refine (hk1'.out _ (Below.refl _ _)).mono ?_; rintro e9 w1 ⟨rfl, hb1⟩; have hb1' := Lib.hid hb1; clear hb1 hk1' tok1) | (go_at_call 46; have _t := tok2; refine (hk2'.out _ hb1'.out).mono ?_; rintro e9 w2 ⟨rfl, hb2⟩; have hb2' := Lib.hid (below_then hb1'.out hb2); clear hb2 hk2' tok2))
  go_ret3
  exact ⟨_, rfl, RPut.same hR.out hb2'.out⟩
set_option maxHeartbeats 4000000 in
set_option maxRecDepth 100000 in
theorem refTab_short {a2 : Nat} {q q2 : Int} (h : RT w b v l) (hX : Holds w A n c X) (h1 : take X p = (0, q, 0)) (h2 : take X q = (a2, q2, 0)) (ho : a2 ≤ 2048) (hs : (X.length : Int) < q2 + a2) (hn : n ≤ 9000000000000000000) : Calls Try.prog 47 #[.pointer (some ⟨b, 0, Option.none⟩), .slice A n c, .int .i64 p] w (RTook w b v ([], 0, 7) l) := by
  have hq := take_ok h2
  have hlen := hX.len
  have hcap := hX.cap
  have hroom := hX.room
  unfold maxLen at hroom
  rw [hlen] at hs hq
  have hf1 : IntKind.i64.wrap (a2 : Int) = a2 := IntWalk.i64_in _ ⟨by omega, by omega⟩
  have hf2 : IntKind.i64.wrap (q2 + (a2 : Int)) = q2 + (a2 : Int) := IntWalk.i64_in _ ⟨by omega, by omega⟩
  have hR := Lib.hid h
  have hk1 := fun W hW => refTake_any A n c X p W (hX.later hW)
  simp only [h1] at hk1
  have hk1' := Lib.hid hk1
  clear hk1 h1
  have hk2 := fun W hW => refTake_any A n c X q W (hX.later hW)
  simp only [h2] at hk2
  have hk2' := Lib.hid hk2
  clear hk2 h2
  have tok1 : True := trivial
  have tok2 : True := trivial
  go_enter Try.func47, Try.ntmps47
  go_wp2_with (first | (go_at_call 46; have _t := tok1; refine (hk1'.out _ (Below.refl _ _)).mono ?_; rintro e9 w1 ⟨rfl, hb1⟩; have hb1' := Lib.hid hb1; clear hb1 hk1' tok1) | (go_at_call 46; have _t := tok2; refine (hk2'.out _ hb1'.out).mono ?_; rintro e9 w2 ⟨rfl, hb2⟩; have hb2' := Lib.hid (below_then hb1'.out hb2); clear hb2 hk2' tok2))
  go_ret3
  exact ⟨_, rfl, RPut.same hR.out hb2'.out⟩
set_option maxHeartbeats 4000000 in
set_option maxRecDepth 100000 in
theorem refTab_twice {a2 : Nat} {q q2 : Int} {s : List UInt8} (h : RT w b v l) (hX : Holds w A n c X) (hl : l.length ≤ 1000000) (h1 : take X p = (0, q, 0)) (h2 : take X q = (a2, q2, 0)) (ho : a2 ≤ 2048) (hs : q2 + a2 ≤ (X.length : Int)) (hx : ltrs ((X.drop q2.toNat).take a2) = s) (ht : numT l s ≠ 0) : Calls Try.prog 47 #[.pointer (some ⟨b, 0, Option.none⟩), .slice A n c, .int .i64 p] w (RTook w b v ([], 0, 4) l) := by
  have hq := take_ok h2
  have hlen := hX.len
  have hcap := hX.cap
  have hroom := hX.room
  unfold maxLen at hroom
  rw [hlen] at hs hq
  have hf1 : IntKind.i64.wrap (a2 : Int) = a2 := IntWalk.i64_in _ ⟨by omega, by omega⟩
  have hf2 : IntKind.i64.wrap (q2 + (a2 : Int)) = q2 + (a2 : Int) := IntWalk.i64_in _ ⟨by omega, by omega⟩
  obtain ⟨k2, rfl⟩ : ∃ k2 : Nat, q2 = k2 := ⟨q2.toNat, by omega⟩
  simp only [Int.toNat_natCast] at hx
  have hmid := fun W (hW : Below w.heap.size w W) => run_mid W A n c X (hX.later hW) k2 (k2 + a2) (k2 : Int) ((k2 : Int) + a2) rfl (by simp) (by omega) (by omega)
  simp only [Nat.add_sub_cancel_left] at hmid
  have hmid' := Lib.hid hmid
  have hat := Lib.hid (fun W hW => refAt_any b v l s W (h.later hW) hl)
  have hR := Lib.hid h
  have hk1 := fun W hW => refTake_any A n c X p W (hX.later hW)
  simp only [h1] at hk1
  have hk1' := Lib.hid hk1
  clear hk1 h1
  have hk2 := fun W hW => refTake_any A n c X q W (hX.later hW)
  simp only [h2] at hk2
  have hk2' := Lib.hid hk2
  clear hk2 h2
  have hnl := numT_le l s
  obtain ⟨r, hr⟩ : ∃ r, r = numT l s := ⟨_, rfl⟩
  rw [← hr] at hat ht hnl
  have hr0 : 0 < r := by omega
  have hx' := Lib.hid hx
  obtain ⟨z, hz⟩ : ∃ z, z = mk s := ⟨_, rfl⟩
  rw [← hz] at hat
  have hz' := Lib.hid hz
  clear hX h hmid hx hlen ht hr hz
  have tok1 : True := trivial
  have tok2 : True := trivial
  go_enter Try.func47, Try.ntmps47
  go_wp2_with (first | (go_at_call 46; have _t := tok1; refine (hk1'.out _ (Below.refl _ _)).mono ?_; rintro e9 w1 ⟨rfl, hb1⟩; have hb1' := Lib.hid hb1; clear hb1 hk1' tok1) | (go_at_call 46; have _t := tok2; refine (hk2'.out _ hb1'.out).mono ?_; rintro e9 w2 ⟨rfl, hb2⟩; have hb2' := Lib.hid (below_then hb1'.out hb2); clear hb2 hk2' tok2; obtain ⟨A3, c3, hm3, hH3⟩ := hmid'.out _ hb2'.out; have ht3 := run_text (P := Try.prog) 43 9 5 Try.underlying43 Try.underlying5 Try.underlying9 hH3; rw [text_of, hx'.out, ← hz'.out] at ht3; clear hH3 hmid') | (go_at_call 52; refine (hat.out _ hb2'.out).mono ?_; rintro e9 w9 ⟨rfl, hw⟩; subst hw))
  go_ret3
  exact ⟨_, rfl, RPut.same hR.out hb2'.out⟩
set_option maxHeartbeats 4000000 in
set_option maxRecDepth 100000 in
theorem refTab_new {a2 : Nat} {q q2 : Int} {s : List UInt8} (h : RT w b v l) (hX : Holds w A n c X) (hl : l.length ≤ 1000000) (h1 : take X p = (0, q, 0)) (h2 : take X q = (a2, q2, 0)) (ho : a2 ≤ 2048) (hs : q2 + a2 ≤ (X.length : Int)) (hx : ltrs ((X.drop q2.toNat).take a2) = s) (ht : numT l s = 0) : Calls Try.prog 47 #[.pointer (some ⟨b, 0, Option.none⟩), .slice A n c, .int .i64 p] w (RTook w b v (s, q2 + a2, 0) (l ++ [s])) := by
  have hq := take_ok h2
  have hlen := hX.len
  have hcap := hX.cap
  have hroom := hX.room
  unfold maxLen at hroom
  rw [hlen] at hs hq
  have hf1 : IntKind.i64.wrap (a2 : Int) = a2 := IntWalk.i64_in _ ⟨by omega, by omega⟩
  have hf2 : IntKind.i64.wrap (q2 + (a2 : Int)) = q2 + (a2 : Int) := IntWalk.i64_in _ ⟨by omega, by omega⟩
  obtain ⟨k2, rfl⟩ : ∃ k2 : Nat, q2 = k2 := ⟨q2.toNat, by omega⟩
  simp only [Int.toNat_natCast] at hx
  have hmid := fun W (hW : Below w.heap.size w W) => run_mid W A n c X (hX.later hW) k2 (k2 + a2) (k2 : Int) ((k2 : Int) + a2) rfl (by simp) (by omega) (by omega)
  simp only [Nat.add_sub_cancel_left] at hmid
  have hmid' := Lib.hid hmid
  have hat := Lib.hid (fun W hW => refAt_any b v l s W (h.later hW) hl)
  have hR := Lib.hid h
  have hk1 := fun W hW => refTake_any A n c X p W (hX.later hW)
  simp only [h1] at hk1
  have hk1' := Lib.hid hk1
  clear hk1 h1
  have hk2 := fun W hW => refTake_any A n c X q W (hX.later hW)
  simp only [h2] at hk2
  have hk2' := Lib.hid hk2
  clear hk2 h2
  rw [ht] at hat
  obtain ⟨i9, hj, hy0, hy1, hy2⟩ := info_parts Try.info9
  have hlit := Lib.hid (fun W => owns_texts W [s] (by simp [maxLen]) #[.string (mk s)] rfl)
  have hnil := Lib.hid (fun W => owns_texts W [] (by simp) #[] rfl)
  have hl' := Lib.hid hl
  obtain ⟨Av, cv, rfl, hT⟩ := h.own.texts
  have hx' := Lib.hid hx
  obtain ⟨z, hz⟩ : ∃ z, z = mk s := ⟨_, rfl⟩
  rw [← hz] at hat
  rw [← hz] at hlit
  have hz' := Lib.hid hz
  clear hX h hmid hx hlen ht hz hT
  have tok1 : True := trivial
  have tok2 : True := trivial
  go_enter Try.func47, Try.ntmps47
  go_wp2_with (first | (go_at_call 46; have _t := tok1; refine (hk1'.out _ (Below.refl _ _)).mono ?_; rintro e9 w1 ⟨rfl, hb1⟩; have hb1' := Lib.hid hb1; clear hb1 hk1' tok1) | (go_at_call 46; have _t := tok2; refine (hk2'.out _ hb1'.out).mono ?_; rintro e9 w2 ⟨rfl, hb2⟩; have hb2' := Lib.hid (below_then hb1'.out hb2); clear hb2 hk2' tok2; obtain ⟨A3, c3, hm3, hH3⟩ := hmid'.out _ hb2'.out; have ht3 := run_text (P := Try.prog) 43 9 5 Try.underlying43 Try.underlying5 Try.underlying9 hH3; rw [text_of, hx'.out, ← hz'.out] at ht3; clear hH3 hmid'; have hR2 := Lib.hid (hR.out.later hb2'.out); have hc2 := (hR2.out.later (below_box w2 (.cells #[] 9))).cell) | (go_at_call 52; refine (hat.out _ hb2'.out).mono ?_; rintro e9 w9 ⟨rfl, hw⟩; subst hw) | (at_builtin; refine wpList_append_texts rfl (.tmp 74) (.tmp 78) 68 rfl w2.heap.size i9 Try.underlying68 hj hy0 hy1 hy2 _ [] rfl (hnil.out w2) _ l 0 rfl (hR2.out.own.alloc _) (by have := hl'.out; simp; omega) (by simp) ?_; intro v3 w3 hown3 hg3 _; have hb3 := Lib.hid (OwnsT.below (hnil.out w2) (below_box w2 _) hg3 (by simp)); rw [List.nil_append] at hown3; replace hown3 := Lib.hid hown3; clear hg3) | (at_builtin; refine wpList_append_texts rfl (.tmp 79) (.tmp 81) 68 rfl w2.heap.size i9 Try.underlying68 hj hy0 hy1 hy2 _ l rfl (hown3.out.alloc _) _ [s] w3.heap.size rfl (hlit.out w3) (by have := hl'.out; simp; omega) (Nat.le_trans hb3.out.size (by simp)) ?_; intro v4 w4 hown4 hg4 _; have hb4 := Lib.hid (OwnsT.below (hown3.out.alloc _) (hb3.out.alloc hb3.out.size _) hg4 (Nat.le_trans hb3.out.size (by simp))); replace hown4 := Lib.hid hown4; clear hg4; have hR4 := Lib.hid (hR2.out.later hb4.out); have hP := Lib.hid (RPut.made hR.out hb2'.out hb4.out hown4.out); obtain ⟨A4, n4, c4, rfl⟩ := hown4.out.slice; have hc4 := hR4.out.cell; have hf4 := hR4.out.free))
  go_ret3
  have e9 := hz'.out
  subst e9
  exact ⟨_, rfl, hP.out⟩

theorem refTake19_any (h : RT w b v l) (hl : l.length ≤ 1000000) (hX : Holds w A n c X) (hn : n ≤ 140737488355328) : Calls Try.prog 47 #[.pointer (some ⟨b, 0, Option.none⟩), .slice A n c, .int .i64 p] w (RTook w b v (takeB l X p) (takeL l X p)) := by
  obtain ⟨a, q, e, h1⟩ : ∃ a q e, take X p = (a, q, e) := ⟨_, _, _, rfl⟩
  have he := take_err X p
  rw [h1] at he
  by_cases he0 : e = 0
  · subst he0
    by_cases ha : l.length < a
    · obtain ⟨e1, e2⟩ := takeB_none h1 ha
      rw [e1, e2]
      exact refTab_none b v l A n c X p w h hX hl h1 ha
    · by_cases h0 : 0 < a
      · obtain ⟨e1, e2⟩ := takeB_old (l := l) h1 h0 (by omega)
        rw [e1, e2]
        exact refTab_old b v l A n c X p w h hX hl h1 h0 (by omega)
      · obtain rfl : a = 0 := by omega
        obtain ⟨a2, q2, f, h2⟩ : ∃ a2 q2 f, take X q = (a2, q2, f) := ⟨_, _, _, rfl⟩
        have hf := take_err X q
        rw [h2] at hf
        by_cases hf0 : f = 0
        · subst hf0
          by_cases ho : 2048 < a2
          · obtain ⟨e1, e2⟩ := takeB_over (l := l) h1 h2 ho
            rw [e1, e2]
            exact refTab_over b v l A n c X p w h hX h1 h2 ho
          · by_cases hs : (X.length : Int) < q2 + a2
            · obtain ⟨e1, e2⟩ := takeB_short (l := l) h1 h2 (by omega) hs
              rw [e1, e2]
              exact refTab_short b v l A n c X p w h hX h1 h2 (by omega) hs (by omega)
            · by_cases ht : numT l (ltrs ((X.drop q2.toNat).take a2)) = 0
              · obtain ⟨e1, e2⟩ := takeB_new (l := l) h1 h2 (by omega) (by omega) rfl ht
                rw [e1, e2]
                exact refTab_new b v l A n c X p w h hX hl h1 h2 (by omega) (by omega) rfl ht
              · obtain ⟨e1, e2⟩ := takeB_twice (l := l) h1 h2 (by omega) (by omega) rfl ht
                rw [e1, e2]
                exact refTab_twice b v l A n c X p w h hX hl h1 h2 (by omega) (by omega) rfl ht
        · obtain ⟨e1, e2⟩ := takeB_e2 (l := l) h1 h2 hf0
          rw [e1, e2]
          exact refTab_e2 b v l A n c X p w h hX h1 h2 (by simp only at hf; omega)
  · obtain ⟨e1, e2⟩ := takeB_e1 (l := l) h1 he0
    rw [e1, e2]
    exact refTab_e1 b v l A n c X p w h hX h1 (by simp only at he; omega)
end
end Go.Proofs.Ytodncamohimmmaa
