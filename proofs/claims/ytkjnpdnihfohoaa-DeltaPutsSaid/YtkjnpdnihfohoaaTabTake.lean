/-
  intern's Take. Conditions: those that each theorem states.
-/
import Derived.Test.YtkjnpdnihfohoaaTabPut
import Derived.Test.YtkjnpdnihfohoaaTabConv
import Derived.Test.YtkjnpdnihfohoaaTakeAll
namespace Go.Proofs.Ytkjnpdnihfohoaa
open Go.RowKit Go.Lib Go.Maps Go.WideMaps Leb

/-- The end of Take. -/
def PTook (w : World) (b : Nat) (o : Option Nat) (v : Value) (r : List UInt8 × Int × Int) (l' : List (List UInt8)) (en : Ending) (w' : World) : Prop :=
  ∃ o' u, en = .returned (.tuple #[.string (mk r.1), .int .i64 r.2.1, .int .i64 r.2.2]) ∧ PAdd w w' b o o' v u l'

section
variable (b : Nat) (o : Option Nat) (v : Value) (l : List (List UInt8)) (A : Option Addr) (n c : Nat) (X : List Int) (p : Int) (w : World)
set_option maxRecDepth 100000 in
theorem take19_nil : Calls Try.prog 32 #[.pointer Option.none, .slice A n c, .int .i64 p] w fun e w' => e = .returned (.tuple #[.string ⟨#[]⟩, .int .i64 0, .int .i64 1]) ∧ w = w' := by
  go_enter Try.func32, Try.ntmps32
  go_wp2
  go_ret3
  exact ⟨rfl, rfl⟩
set_option maxHeartbeats 4000000 in
set_option maxRecDepth 100000 in
theorem take_w1 {a : Nat} {q e : Int} (h : PT w b o v l) (hX : Holds w A n c X) (h1 : take X p = (a, q, e)) (he : e = 1 ∨ e = 4 ∨ e = 7) : Calls Try.prog 32 #[.pointer (some ⟨b, 0, Option.none⟩), .slice A n c, .int .i64 p] w (PTook w b o v ([], 0, e) l) := by
  rcases he with rfl | rfl | rfl
  · have hR := Lib.hid h
    have hk1' := Lib.hid (take_is (w := w) hX h1)
    clear h1
    have tok1 : True := trivial
    go_enter Try.func32, Try.ntmps32
    go_wp2_with (go_at_call 31; have _t := tok1; refine hk1'.out.mono ?_; rintro e9 w9 ⟨rfl, hw⟩; subst hw; clear tok1 hk1')
    go_ret3
    exact ⟨_, _, rfl, PAdd.same hR.out (Below.refl _ _)⟩
  · have hR := Lib.hid h
    have hk1' := Lib.hid (take_is (w := w) hX h1)
    clear h1
    have tok1 : True := trivial
    go_enter Try.func32, Try.ntmps32
    go_wp2_with (go_at_call 31; have _t := tok1; refine hk1'.out.mono ?_; rintro e9 w9 ⟨rfl, hw⟩; subst hw; clear tok1 hk1')
    go_ret3
    exact ⟨_, _, rfl, PAdd.same hR.out (Below.refl _ _)⟩
  · have hR := Lib.hid h
    have hk1' := Lib.hid (take_is (w := w) hX h1)
    clear h1
    have tok1 : True := trivial
    go_enter Try.func32, Try.ntmps32
    go_wp2_with (go_at_call 31; have _t := tok1; refine hk1'.out.mono ?_; rintro e9 w9 ⟨rfl, hw⟩; subst hw; clear tok1 hk1')
    go_ret3
    exact ⟨_, _, rfl, PAdd.same hR.out (Below.refl _ _)⟩
set_option maxHeartbeats 4000000 in
set_option maxRecDepth 100000 in
theorem take_wnone {a : Nat} {q : Int} (h : PT w b o v l) (hX : Holds w A n c X) (hl : l.length ≤ 1000000) (h1 : take X p = (a, q, 0)) (ha : l.length < a) : Calls Try.prog 32 #[.pointer (some ⟨b, 0, Option.none⟩), .slice A n c, .int .i64 p] w (PTook w b o v ([], 0, 5) l) := by
  have h0 : 0 < a := by omega
  have hR := Lib.hid h
  have hk1' := Lib.hid (take_is (w := w) hX h1)
  clear h1
  obtain ⟨Av, cv, rfl, hT⟩ := h.own.texts
  have hc1 := h.cell0
  obtain ⟨m, hm⟩ : ∃ m, m = l.length := ⟨_, rfl⟩
  rw [← hm] at hc1 ha hl
  have hf : IntKind.u64.wrap (m : Int) = m := IntWalk.u64_in _ ⟨by omega, by omega⟩
  clear hX h hm hT
  have tok1 : True := trivial
  go_enter Try.func32, Try.ntmps32
  go_wp2_with (go_at_call 31; have _t := tok1; refine hk1'.out.mono ?_; rintro e9 w9 ⟨rfl, hw⟩; subst hw; clear tok1 hk1')
  go_ret3
  exact ⟨_, _, rfl, PAdd.same hR.out (Below.refl _ _)⟩
set_option maxHeartbeats 4000000 in
set_option maxRecDepth 100000 in
theorem take_wold {a : Nat} {q : Int} (h : PT w b o v l) (hX : Holds w A n c X) (hl : l.length ≤ 1000000) (h1 : take X p = (a, q, 0)) (h0 : 0 < a) (ha : a ≤ l.length) : Calls Try.prog 32 #[.pointer (some ⟨b, 0, Option.none⟩), .slice A n c, .int .i64 p] w (PTook w b o v (l[a - 1]?.getD [], q, 0) l) := by
  have hR := Lib.hid h
  have hk1' := Lib.hid (take_is (w := w) hX h1)
  clear h1
  obtain ⟨Av, cv, rfl, hT⟩ := h.own.texts
  have hc1 := h.cell0
  obtain ⟨m, hm⟩ : ∃ m, m = l.length := ⟨_, rfl⟩
  rw [← hm] at hc1 ha hl hT
  obtain ⟨g, rfl, _, hcs⟩ := hT.cell (by omega)
  have hcell := hcs (a - 1) (by omega)
  obtain ⟨s, hs⟩ : ∃ s, s = l[a - 1]?.getD [] := ⟨_, rfl⟩
  rw [← hs] at hcell ⊢
  obtain ⟨x, hx⟩ : ∃ x, x = mk s := ⟨_, rfl⟩
  rw [← hx] at hcell
  have hx9 := Lib.hid hx
  obtain ⟨k, rfl⟩ : ∃ k, a = k + 1 := ⟨a - 1, by omega⟩
  simp only [Nat.add_sub_cancel] at hcell
  have hf : IntKind.u64.wrap (m : Int) = m := IntWalk.u64_in _ ⟨by omega, by omega⟩
  have hf2 : IntKind.u64.wrap (((k + 1 : Nat) : Int) - 1) = (k : Int) := by rw [IntWalk.u64_in _ ⟨by omega, by omega⟩]; omega
  have hkm : k < m := by omega
  clear hX h hm hT hcs hs h0 hx
  have tok1 : True := trivial
  go_enter Try.func32, Try.ntmps32
  go_wp2_with (go_at_call 31; have _t := tok1; refine hk1'.out.mono ?_; rintro e9 w9 ⟨rfl, hw⟩; subst hw; clear tok1 hk1')
  go_ret3
  have e9 := hx9.out
  subst e9
  exact ⟨_, _, rfl, PAdd.same hR.out (Below.refl _ _)⟩
set_option maxHeartbeats 4000000 in
set_option maxRecDepth 100000 in
theorem fr_e2 {a2 : Nat} {q q2 e : Int} (h : PT w b o v l) (hX : Holds w A n c X) (h2 : take X q = (a2, q2, e)) (he : e = 1 ∨ e = 4 ∨ e = 7) : Calls Try.prog 37 #[.pointer (some ⟨b, 0, Option.none⟩), .slice A n c, .int .i64 q] w (PTook w b o v ([], 0, e) l) := by
  rcases he with rfl | rfl | rfl
  · have hR := Lib.hid h
    have hk2' := Lib.hid (take_is (w := w) hX h2)
    clear h2
    have tok2 : True := trivial
    go_enter Try.func37, Try.ntmps37
    go_wp2_with (go_at_call 31; have _t := tok2; refine hk2'.out.mono ?_; rintro e9 w9 ⟨rfl, hw⟩; subst hw; clear tok2 hk2')
    go_ret3
    exact ⟨_, _, rfl, PAdd.same hR.out (Below.refl _ _)⟩
  · have hR := Lib.hid h
    have hk2' := Lib.hid (take_is (w := w) hX h2)
    clear h2
    have tok2 : True := trivial
    go_enter Try.func37, Try.ntmps37
    go_wp2_with (go_at_call 31; have _t := tok2; refine hk2'.out.mono ?_; rintro e9 w9 ⟨rfl, hw⟩; subst hw; clear tok2 hk2')
    go_ret3
    exact ⟨_, _, rfl, PAdd.same hR.out (Below.refl _ _)⟩
  · have hR := Lib.hid h
    have hk2' := Lib.hid (take_is (w := w) hX h2)
    clear h2
    have tok2 : True := trivial
    go_enter Try.func37, Try.ntmps37
    go_wp2_with (go_at_call 31; have _t := tok2; refine hk2'.out.mono ?_; rintro e9 w9 ⟨rfl, hw⟩; subst hw; clear tok2 hk2')
    go_ret3
    exact ⟨_, _, rfl, PAdd.same hR.out (Below.refl _ _)⟩
set_option maxHeartbeats 4000000 in
set_option maxRecDepth 100000 in
theorem fr_over {a2 : Nat} {q q2 : Int} (h : PT w b o v l) (hX : Holds w A n c X) (h2 : take X q = (a2, q2, 0)) (ho : 2048 < a2) : Calls Try.prog 37 #[.pointer (some ⟨b, 0, Option.none⟩), .slice A n c, .int .i64 q] w (PTook w b o v ([], 0, 2) l) := by
  have hR := Lib.hid h
  have hk2' := Lib.hid (take_is (w := w) hX h2)
  clear h2
  have tok2 : True := trivial
  go_enter Try.func37, Try.ntmps37
  go_wp2_with (go_at_call 31; have _t := tok2; refine hk2'.out.mono ?_; rintro e9 w9 ⟨rfl, hw⟩; subst hw; clear tok2 hk2')
  go_ret3
  exact ⟨_, _, rfl, PAdd.same hR.out (Below.refl _ _)⟩
set_option maxHeartbeats 4000000 in
set_option maxRecDepth 100000 in
theorem fr_short {a2 : Nat} {q q2 : Int} (h : PT w b o v l) (hX : Holds w A n c X) (h2 : take X q = (a2, q2, 0)) (ho : a2 ≤ 2048) (hs : (X.length : Int) < q2 + a2) (hn : n ≤ 9000000000000000000) : Calls Try.prog 37 #[.pointer (some ⟨b, 0, Option.none⟩), .slice A n c, .int .i64 q] w (PTook w b o v ([], 0, 7) l) := by
  have hq := take_ok h2
  have hlen := hX.len
  have hcap := hX.cap
  have hroom := hX.room
  unfold maxLen at hroom
  rw [hlen] at hs hq
  have hf1 : IntKind.i64.wrap (a2 : Int) = a2 := IntWalk.i64_in _ ⟨by omega, by omega⟩
  have hf2 : IntKind.i64.wrap (q2 + (a2 : Int)) = q2 + (a2 : Int) := IntWalk.i64_in _ ⟨by omega, by omega⟩
  have hf3 : IntKind.i64.wrap ((n : Int) - q2) = (n : Int) - q2 := IntWalk.i64_in _ ⟨by omega, by omega⟩
  have hf4 : IntKind.u64.wrap ((n : Int) - q2) = (n : Int) - q2 := IntWalk.u64_in _ ⟨by omega, by omega⟩
  have hs1 : (n : Int) - q2 < a2 := by omega
  have hR := Lib.hid h
  have hk2' := Lib.hid (take_is (w := w) hX h2)
  clear h2
  have tok2 : True := trivial
  go_enter Try.func37, Try.ntmps37
  go_wp2_with (go_at_call 31; have _t := tok2; refine hk2'.out.mono ?_; rintro e9 w9 ⟨rfl, hw⟩; subst hw; clear tok2 hk2')
  go_ret3
  exact ⟨_, _, rfl, PAdd.same hR.out (Below.refl _ _)⟩
set_option maxHeartbeats 4000000 in
set_option maxRecDepth 100000 in
theorem fr_twice {a2 : Nat} {q q2 : Int} {s : List UInt8} (h : PT w b o v l) (hX : Holds w A n c X) (h2 : take X q = (a2, q2, 0)) (ho : a2 ≤ 2048) (hs : q2 + a2 ≤ (X.length : Int)) (hx : ltrs ((X.drop q2.toNat).take a2) = s) (ht : numT l s ≠ 0) : Calls Try.prog 37 #[.pointer (some ⟨b, 0, Option.none⟩), .slice A n c, .int .i64 q] w (PTook w b o v ([], 0, 4) l) := by
  have hq := take_ok h2
  have hlen := hX.len
  have hcap := hX.cap
  have hroom := hX.room
  unfold maxLen at hroom
  rw [hlen] at hs hq
  have hf1 : IntKind.i64.wrap (a2 : Int) = a2 := IntWalk.i64_in _ ⟨by omega, by omega⟩
  have hf2 : IntKind.i64.wrap (q2 + (a2 : Int)) = q2 + (a2 : Int) := IntWalk.i64_in _ ⟨by omega, by omega⟩
  have hf3 : IntKind.i64.wrap ((n : Int) - q2) = (n : Int) - q2 := IntWalk.i64_in _ ⟨by omega, by omega⟩
  have hf4 : IntKind.u64.wrap ((n : Int) - q2) = (n : Int) - q2 := IntWalk.u64_in _ ⟨by omega, by omega⟩
  obtain ⟨k2, rfl⟩ : ∃ k2 : Nat, q2 = k2 := ⟨q2.toNat, by omega⟩
  simp only [Int.toNat_natCast] at hx
  obtain ⟨A3, c3, hm3, hH3⟩ := run_mid w A n c X hX k2 (k2 + a2) (k2 : Int) ((k2 : Int) + a2) rfl (by simp) (by omega) (by omega)
  have ht3 := run_text (P := Try.prog) 22 9 5 Try.underlying22 Try.underlying5 Try.underlying9 hH3
  rw [Nat.add_sub_cancel_left] at hm3
  simp only [Nat.add_sub_cancel_left] at ht3 hx
  rw [text_of, hx] at ht3
  have hsl : s.length ≤ 2048 := by rw [← hx, ltrs_len]; exact Nat.le_trans (List.length_take_le _ _) ho
  have hml : s.length ≤ maxLen := by simp only [maxLen]; omega
  have hmap := Lib.hid h.map
  have hkey := key_mk hml
  have hc1 := h.cell1
  have hs2 : ¬ (n : Int) - (k2 : Int) < a2 := by omega
  have hR := Lib.hid h
  have hk2' := Lib.hid (take_is (w := w) hX h2)
  clear h2
  obtain ⟨z, hz⟩ : ∃ z, z = mk s := ⟨_, rfl⟩
  have hz' := Lib.hid hz
  rw [← hz] at hkey ht3
  have hkey' := Lib.hid hkey
  have ht' := Lib.hid ht
  clear hX h hlen ht hz hx hkey hH3 hsl hml
  have tok2 : True := trivial
  go_enter Try.func37, Try.ntmps37
  go_wp2_with (first | (go_at_call 31; have _t := tok2; refine hk2'.out.mono ?_; rintro e9 w9 ⟨rfl, hw⟩; subst hw; clear tok2 hk2') | (at_lookup; refine wpList_lookup_tab rfl _ _ rfl _ l rfl hmap.out _ s rfl hkey'.out ?_; intro x9 hx9; clear hx9; rw [show decide (numT l s ≠ 0) = true from decide_eq_true ht'.out]))
  go_ret3
  exact ⟨_, _, rfl, PAdd.same hR.out (Below.refl _ _)⟩
set_option maxHeartbeats 4000000 in
set_option maxRecDepth 100000 in
theorem fr_new {a2 : Nat} {q q2 : Int} {s : List UInt8} (h : PT w b o v l) (hX : Holds w A n c X) (hl : l.length ≤ 1000000) (h2 : take X q = (a2, q2, 0)) (ho : a2 ≤ 2048) (hs : q2 + a2 ≤ (X.length : Int)) (hx : ltrs ((X.drop q2.toNat).take a2) = s) (ht : numT l s = 0) : Calls Try.prog 37 #[.pointer (some ⟨b, 0, Option.none⟩), .slice A n c, .int .i64 q] w (PTook w b o v (s, q2 + a2, 0) (l ++ [s])) := by
  have hq := take_ok h2
  have hlen := hX.len
  have hcap := hX.cap
  have hroom := hX.room
  unfold maxLen at hroom
  rw [hlen] at hs hq
  have hf1 : IntKind.i64.wrap (a2 : Int) = a2 := IntWalk.i64_in _ ⟨by omega, by omega⟩
  have hf2 : IntKind.i64.wrap (q2 + (a2 : Int)) = q2 + (a2 : Int) := IntWalk.i64_in _ ⟨by omega, by omega⟩
  have hf3 : IntKind.i64.wrap ((n : Int) - q2) = (n : Int) - q2 := IntWalk.i64_in _ ⟨by omega, by omega⟩
  have hf4 : IntKind.u64.wrap ((n : Int) - q2) = (n : Int) - q2 := IntWalk.u64_in _ ⟨by omega, by omega⟩
  obtain ⟨k2, rfl⟩ : ∃ k2 : Nat, q2 = k2 := ⟨q2.toNat, by omega⟩
  simp only [Int.toNat_natCast] at hx
  obtain ⟨A3, c3, hm3, hH3⟩ := run_mid w A n c X hX k2 (k2 + a2) (k2 : Int) ((k2 : Int) + a2) rfl (by simp) (by omega) (by omega)
  have ht3 := run_text (P := Try.prog) 22 9 5 Try.underlying22 Try.underlying5 Try.underlying9 hH3
  rw [Nat.add_sub_cancel_left] at hm3
  simp only [Nat.add_sub_cancel_left] at ht3 hx
  rw [text_of, hx] at ht3
  have hsl : s.length ≤ 2048 := by rw [← hx, ltrs_len]; exact Nat.le_trans (List.length_take_le _ _) ho
  have hml : s.length ≤ maxLen := by simp only [maxLen]; omega
  have hmap := Lib.hid h.map
  have hkey := key_mk hml
  have hc1 := h.cell1
  have hs2 : ¬ (n : Int) - (k2 : Int) < a2 := by omega
  have hR := Lib.hid h
  have hk2' := Lib.hid (take_is (w := w) hX h2)
  clear h2
  have hadd := Lib.hid (add_any b o v l s w h hl ht hml)
  obtain ⟨z, hz⟩ : ∃ z, z = mk s := ⟨_, rfl⟩
  have hz' := Lib.hid hz
  rw [← hz] at hkey ht3 hadd
  have hkey' := Lib.hid hkey
  have ht' := Lib.hid ht
  clear hX h hlen ht hz hx hkey hH3 hsl hml hl
  have tok2 : True := trivial
  go_enter Try.func37, Try.ntmps37
  go_wp2_with (first | (go_at_call 31; have _t := tok2; refine hk2'.out.mono ?_; rintro e9 w9 ⟨rfl, hw⟩; subst hw; clear tok2 hk2') | (at_lookup; refine wpList_lookup_tab rfl _ _ rfl _ l rfl hmap.out _ s rfl hkey'.out ?_; intro x9 hx9; clear hx9; rw [show decide (numT l s ≠ 0) = false from decide_eq_false (fun e => e ht'.out)]) | (go_at_call 29; refine hadd.out.mono ?_; rintro e9 w1 ⟨rfl, o1, u, hA⟩; have hA' := Lib.hid hA; clear hA))
  go_ret3
  have e9 := hz'.out
  subst e9
  exact ⟨_, _, rfl, hA'.out⟩
set_option maxHeartbeats 4000000 in
set_option maxRecDepth 100000 in
theorem take_wfresh {q : Int} {r : List UInt8 × Int × Int} {l2 : List (List UInt8)} (h : PT w b o v l) (hX : Holds w A n c X) (hl : l.length ≤ 1000000) (h1 : take X p = (0, q, 0)) (hfr : Calls Try.prog 37 #[.pointer (some ⟨b, 0, Option.none⟩), .slice A n c, .int .i64 q] w (PTook w b o v r l2)) : Calls Try.prog 32 #[.pointer (some ⟨b, 0, Option.none⟩), .slice A n c, .int .i64 p] w (PTook w b o v r l2) := by
  have hR := Lib.hid h
  have hk1' := Lib.hid (take_is (w := w) hX h1)
  clear h1
  obtain ⟨Av, cv, rfl, hT⟩ := h.own.texts
  have hc1 := h.cell0
  obtain ⟨m, hm⟩ : ∃ m, m = l.length := ⟨_, rfl⟩
  rw [← hm] at hc1 hl
  have hf : IntKind.u64.wrap (m : Int) = m := IntWalk.u64_in _ ⟨by omega, by omega⟩
  have hfr' := Lib.hid hfr
  clear hX h hm hT hfr
  have tok1 : True := trivial
  go_enter Try.func32, Try.ntmps32
  go_wp2_with (first | (go_at_call 31; have _t := tok1; refine hk1'.out.mono ?_; rintro e9 w9 ⟨rfl, hw⟩; subst hw; clear tok1 hk1') | (go_at_call 37; refine hfr'.out.mono ?_; rintro e9 w9 ⟨o1, u1, rfl, hA⟩; have hA' := Lib.hid hA; clear hA))
  go_ret3
  exact ⟨_, _, rfl, hA'.out⟩

theorem take19_any (h : PT w b o v l) (hl : l.length ≤ 1000000) (hX : Holds w A n c X) (hn : n ≤ 140737488355328) : Calls Try.prog 32 #[.pointer (some ⟨b, 0, Option.none⟩), .slice A n c, .int .i64 p] w (PTook w b o v (takeB l X p) (takeL l X p)) := by
  obtain ⟨a, q, e, h1⟩ : ∃ a q e, take X p = (a, q, e) := ⟨_, _, _, rfl⟩
  have he := take_err X p
  rw [h1] at he
  by_cases he0 : e = 0
  · subst he0
    by_cases ha : l.length < a
    · obtain ⟨e1, e2⟩ := takeB_none h1 ha
      rw [e1, e2]
      exact take_wnone b o v l A n c X p w h hX hl h1 ha
    · by_cases h0 : 0 < a
      · obtain ⟨e1, e2⟩ := takeB_old (l := l) h1 h0 (by omega)
        rw [e1, e2]
        exact take_wold b o v l A n c X p w h hX hl h1 h0 (by omega)
      · obtain rfl : a = 0 := by omega
        obtain ⟨a2, q2, f, h2⟩ : ∃ a2 q2 f, take X q = (a2, q2, f) := ⟨_, _, _, rfl⟩
        have hf := take_err X q
        rw [h2] at hf
        by_cases hf0 : f = 0
        · subst hf0
          by_cases ho : 2048 < a2
          · obtain ⟨e1, e2⟩ := takeB_over (l := l) h1 h2 ho
            rw [e1, e2]
            exact take_wfresh b o v l A n c X p w h hX hl h1 (fr_over b o v l A n c X w h hX h2 ho)
          · by_cases hs : (X.length : Int) < q2 + a2
            · obtain ⟨e1, e2⟩ := takeB_short (l := l) h1 h2 (by omega) hs
              rw [e1, e2]
              exact take_wfresh b o v l A n c X p w h hX hl h1 (fr_short b o v l A n c X w h hX h2 (by omega) hs (by omega))
            · by_cases ht : numT l (ltrs ((X.drop q2.toNat).take a2)) = 0
              · obtain ⟨e1, e2⟩ := takeB_new (l := l) h1 h2 (by omega) (by omega) rfl ht
                rw [e1, e2]
                exact take_wfresh b o v l A n c X p w h hX hl h1 (fr_new b o v l A n c X w h hX hl h2 (by omega) (by omega) rfl ht)
              · obtain ⟨e1, e2⟩ := takeB_twice (l := l) h1 h2 (by omega) (by omega) rfl ht
                rw [e1, e2]
                exact take_wfresh b o v l A n c X p w h hX hl h1 (fr_twice b o v l A n c X w h hX h2 (by omega) (by omega) rfl ht)
        · obtain ⟨e1, e2⟩ := takeB_e2 (l := l) h1 h2 hf0
          rw [e1, e2]
          exact take_wfresh b o v l A n c X p w h hX hl h1 (fr_e2 b o v l A n c X w h hX h2 (by simp only at hf; omega))
  · obtain ⟨e1, e2⟩ := takeB_e1 (l := l) h1 he0
    rw [e1, e2]
    exact take_w1 b o v l A n c X p w h hX h1 (by simp only at he; omega)
end
end Go.Proofs.Ytkjnpdnihfohoaa
