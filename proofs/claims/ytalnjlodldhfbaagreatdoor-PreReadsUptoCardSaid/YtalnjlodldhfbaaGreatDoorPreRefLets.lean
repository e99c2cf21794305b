/-
  The reference's among and Lets of layer 14. Conditions: those that each theorem states.
-/
import Derived.Test.YtalnjlodldhfbaaGreatDoorPreMath
import Derived.BigQuiet
namespace Go.Proofs.YtalnjlodldhfbaaGreatDoor
open Go.RowKit Go.Lib Go.Shelf

set_option maxHeartbeats 2000000 in
set_option maxRecDepth 100000 in
theorem among14_any (A : Option Addr) (n c : Nat) (zs : List ByteArray) (x : ByteArray) (w : World) (h : Strs w A n c zs) :
    Calls Tryz.prog 36 #[.string x, .slice A n c] w fun e w' => e = .returned (.bool (isIn x zs)) ∧ w' = w := by
  have hn : n ≤ 9223372036854775807 := by have h1 := h.cap; have h2 := h.room; unfold maxLen at h2; omega
  have hl := Lib.hid h.len
  have hH := Lib.hid h
  clear h
  go_enter Tryz.func36, Tryz.ntmps36
  go_wp2
  go_loop [5] (fun i => ∃ k : Nat, k ≤ n ∧ i = .int .i64 k ∧ isIn x (zs.take k) = false) (fun i => n - (RowKit.intOf i).toNat)
  case atStart => exact ⟨0, Nat.zero_le _, rfl, rfl⟩
  case round =>
    obtain ⟨k, hk, rfl, hno0⟩ := hrel
    have hno := Lib.hid hno0
    clear hno0
    by_cases hlt : k < n
    · have hkl : k < zs.length := by rw [hl.out]; exact hlt
      obtain ⟨b, off, rfl, _, hc⟩ := hH.out.cell (by omega)
      have h1 := hc k hkl
      have hst := Lib.hid (isIn_step (x := x) hkl)
      have hat := Lib.hid (isIn_at (x := x) hkl)
      clear hc
      generalize zs[k] = z at h1 hst hat
      cases hq : (z.toList == x.toList) with
      | true =>
        have hf := Lib.hid (hat.out hq)
        go_wp2
        go_ret
        exact ⟨ret_bool hf.out.symm, rfl⟩
      | false =>
        have hf : Hid (isIn x (zs.take (k + 1)) = false) := Lib.hid (by rw [hst.out, hno.out, hq]; rfl)
        clear hst hat
        go_wp2
        go_round
        case rel => exact ⟨k + 1, by omega, by go_num, hf.out⟩
        case measure => simp [RowKit.intOf]; omega
    · have ek : k = n := by omega
      subst ek
      have hf := Lib.hid (show isIn x zs = false by
        have h1 := hno.out
        rw [← hl.out, List.take_length] at h1
        exact h1)
      go_wp2
      go_ret
      exact ⟨ret_bool hf.out.symm, rfl⟩

set_option maxHeartbeats 8000000 in
set_option maxRecDepth 100000 in
/-- Where the method is not let. -/
theorem refLets_no (A B C : Option Addr) (n c m d j e : Nat) (a : Int) (ms : List ByteArray) (x : ByteArray) (k : Int) (w : World) (hM : Strs w A n c ms) (hno : letsM ms x k = false) :
    Calls Tryz.prog 17 #[.agg #[.slice A n c, .slice B m d, .int .i64 a], .string x, .slice C j e, .int .i64 k] w fun en w' => en = .returned (.bool false) ∧ Below w.heap.size w w' := by
  have hbx := Lib.hid (box_three w (.slice A n c) (.slice B m d) (.int .i64 a) 36)
  have hS := Lib.hid (fun W => refSimple_any x W)
  have hA := Lib.hid (fun W (hb : Below w.heap.size w W) => among14_any A n c ms x W (hM.later hb))
  have hR := Lib.hid (fun W (hb : Below w.heap.size w W) => among14_any A n c ms star W (hM.later hb))
  unfold letsM at hno
  clear hM
  generalize isIn x simple = p at hS hno
  generalize isIn x ms = q at hA hno
  generalize isIn star ms = r at hR hno
  rw [Bool.or_eq_false_iff, Bool.or_eq_false_iff] at hno
  obtain ⟨rfl, rfl, hr⟩ := hno
  by_cases h3 : k = 3
  · subst h3
    clear hr
    go_enter Tryz.func17, Tryz.ntmps17
    go_wp2_with (first
      | (go_at_call 22; (with_reducible refine (hS.out _).mono ?_); rintro e1 w1 ⟨rfl, hb1⟩; have c0 := cell_later hb1 hbx.out.1; have hb2 := below_then (below_box w _) hb1)
      | (go_at_call 36; (with_reducible refine (hA.out _ hb2).mono ?_); rintro e2 w2 ⟨rfl, hw⟩; subst hw))
    go_ret
    exact ⟨rfl, hb2⟩
  · rw [decide_eq_false h3, Bool.not_false, Bool.true_and] at hr
    subst hr
    go_enter Tryz.func17, Tryz.ntmps17
    go_wp2_with (first
      | (go_at_call 22; (with_reducible refine (hS.out _).mono ?_); rintro e1 w1 ⟨rfl, hb1⟩; have c0 := cell_later hb1 hbx.out.1; have hb2 := below_then (below_box w _) hb1)
      | (go_at_call 36; (with_reducible refine (hA.out _ hb2).mono ?_); rintro e2 w2 ⟨rfl, hw⟩; subst hw)
      | (go_at_call 36; (with_reducible refine (hR.out _ hb2).mono ?_); rintro e2 w2 ⟨rfl, hw⟩; subst hw))
    go_ret
    exact ⟨rfl, hb2⟩

-- the ways on which the method is let

set_option maxHeartbeats 8000000 in
set_option maxRecDepth 100000 in
/-- Where the method is let: without a question. -/
theorem refLets_one (A B C : Option Addr) (n c m d j e : Nat) (a : Int) (ms hs ns : List ByteArray) (x : ByteArray) (k : Int) (w : World) (hM : Strs w A n c ms) (hH : Strs w B m d hs) (hN : Strs w C j e ns) (hp : isIn x simple = true) :
    Calls Tryz.prog 17 #[.agg #[.slice A n c, .slice B m d, .int .i64 a], .string x, .slice C j e, .int .i64 k] w fun en w' => en = .returned (.bool (lets ms hs x ns k)) ∧ Below w.heap.size w w' := by
  have hbx := Lib.hid (box_three w (.slice A n c) (.slice B m d) (.int .i64 a) 36)
  have hS := Lib.hid (fun W => refSimple_any x W)
  have hA := Lib.hid (fun W (hb : Below w.heap.size w W) => among14_any A n c ms x W (hM.later hb))
  have hR := Lib.hid (fun W (hb : Below w.heap.size w W) => among14_any A n c ms star W (hM.later hb))
  have hjm : j ≤ 9223372036854775807 := by have h1 := hN.cap; have h2 := hN.room; unfold maxLen at h2; omega
  have hl := Lib.hid hN.len
  have hH' := Lib.hid hH
  have hN' := Lib.hid hN
  have hyes : Hid (letsM ms x k = true) := Lib.hid (by unfold letsM; rw [hp]; rfl)
  clear hM hH hN
  rw [hp] at hS
  go_enter Tryz.func17, Tryz.ntmps17
  go_wp2_with (first
    | (go_at_call 22; (with_reducible refine (hS.out _).mono ?_); rintro e1 w1 ⟨rfl, hb1⟩; have c0 := cell_later hb1 hbx.out.1; have hb2 := below_then (below_box w _) hb1))
  have k1 := Lib.hid (cell_later hb1 hbx.out.2.1)
  clear hA hR
  go_loopw [9] (fun i wr => ∃ q : Nat, q ≤ j ∧ i = .int .i64 q ∧ Below w1.heap.size w1 wr ∧ Hid ((ns.take q).all (fun z => letsH hs z k) = true)) (fun i _ => j - (RowKit.intOf i).toNat)
  case atStart => exact ⟨0, Nat.zero_le _, rfl, Below.refl _ _, Lib.hid rfl⟩
  case round =>
    obtain ⟨q, hq, rfl, hbe, hall⟩ := hrel
    have hbw := Lib.hid (below_then hb2 hbe)
    by_cases hlt : q < j
    · have hql : q < ns.length := by rw [hl.out]; exact hlt
      obtain ⟨b, off, rfl, _, hc⟩ := (hN'.out.later hbw.out).cell (by omega)
      have hz := hc q hql
      have c1 := cell_later hbe k1.out
      have hst := Lib.hid (all_take (p := fun z => letsH hs z k) hql)
      have hms := Lib.hid (fun hp => all_miss (p := fun z => letsH hs z k) hql hp)
      have hin := Lib.hid (fun W (hb : Below w.heap.size w W) => among14_any B m d hs ns[q] W (hH'.out.later hb))
      have hrs := Lib.hid (fun W (hb : Below w.heap.size w W) => among14_any B m d hs star W (hH'.out.later hb))
      clear hc
      have hlh : letsH hs ns[q] k = (isIn ns[q] hs || (!(ns[q].toList == auth) && (!decide (k = 3) && isIn star hs))) := rfl
      rw [hlh] at hst hms
      clear hlh
      generalize ns[q] = z at hz hst hms hin
      generalize isIn z hs = b1 at hst hms hin
      generalize isIn star hs = r2 at hst hms hrs
      cases b1 with
      | true =>
        have hn : Hid ((ns.take (q + 1)).all (fun z => letsH hs z k) = true) := Lib.hid (by rw [hst.out, hall.out]; rfl)
        clear hst hms hrs
        go_wp2
        go_quiet ((go_at_call 36; refine Calls.quiet_of_same (hin.out _ (below_drawn hbw.out _))))
        go_wp2
        go_roundw
        case rel => exact ⟨q + 1, by omega, by go_num, below_drawn hbe _, hn⟩
        case measure => simp [RowKit.intOf]; omega
      | false =>
        by_cases h3 : k = 3
        · subst h3
          have hf := Lib.hid (hms.out (by simp))
          clear hst hms hrs
          go_wp2
          go_quiet ((go_at_call 36; refine Calls.quiet_of_same (hin.out _ (below_drawn hbw.out _))))
          go_wp2
          go_ret
          exact ⟨ret_bool (by unfold lets; rw [hf.out, Bool.false_and]), below_drawn hbw.out _⟩
        · cases hza : (z.toList == auth) with
          | true =>
            have hf := Lib.hid (hms.out (by rw [hza]; simp))
            clear hst hms hrs
            go_wp2
            go_quiet ((go_at_call 36; refine Calls.quiet_of_same (hin.out _ (below_drawn hbw.out _))))
            go_wp2
            go_ret
            exact ⟨ret_bool (by unfold lets; rw [hf.out, Bool.false_and]), below_drawn hbw.out _⟩
          | false =>
            cases r2 with
            | true =>
              have hn : Hid ((ns.take (q + 1)).all (fun z => letsH hs z k) = true) := Lib.hid (by rw [hst.out, hall.out, hza, decide_eq_false h3]; rfl)
              clear hst hms
              go_wp2
              go_quiet ((go_at_call 36; refine Calls.quiet_of_same (hin.out _ (below_drawn hbw.out _))))
              go_wp2_with (go_at_call 36; (with_reducible refine (hrs.out _ (below_drawn hbw.out _)).mono ?_); rintro e2 w2 ⟨rfl, hw⟩; subst hw)
              go_roundw
              case rel => exact ⟨q + 1, by omega, by go_num, below_drawn hbe _, hn⟩
              case measure => simp [RowKit.intOf]; omega
            | false =>
              have hf := Lib.hid (hms.out (by simp))
              clear hst hms
              go_wp2
              go_quiet ((go_at_call 36; refine Calls.quiet_of_same (hin.out _ (below_drawn hbw.out _))))
              go_wp2_with (go_at_call 36; (with_reducible refine (hrs.out _ (below_drawn hbw.out _)).mono ?_); rintro e2 w2 ⟨rfl, hw⟩; subst hw)
              go_ret
              exact ⟨ret_bool (by unfold lets; rw [hf.out, Bool.false_and]), below_drawn hbw.out _⟩
    · have e : q = j := by omega
      subst e
      have hf := Lib.hid (show lets ms hs x ns k = true by
        have h1 := hall.out
        rw [← hl.out, List.take_length] at h1
        unfold lets
        rw [h1, hyes.out]
        rfl)
      go_wp2
      go_ret
      exact ⟨ret_bool hf.out.symm, below_then hb2 hbe⟩

set_option maxHeartbeats 8000000 in
set_option maxRecDepth 100000 in
/-- Where the method is let: by its name. -/
theorem refLets_two (A B C : Option Addr) (n c m d j e : Nat) (a : Int) (ms hs ns : List ByteArray) (x : ByteArray) (k : Int) (w : World) (hM : Strs w A n c ms) (hH : Strs w B m d hs) (hN : Strs w C j e ns) (hp : isIn x simple = false) (hq : isIn x ms = true) :
    Calls Tryz.prog 17 #[.agg #[.slice A n c, .slice B m d, .int .i64 a], .string x, .slice C j e, .int .i64 k] w fun en w' => en = .returned (.bool (lets ms hs x ns k)) ∧ Below w.heap.size w w' := by
  have hbx := Lib.hid (box_three w (.slice A n c) (.slice B m d) (.int .i64 a) 36)
  have hS := Lib.hid (fun W => refSimple_any x W)
  have hA := Lib.hid (fun W (hb : Below w.heap.size w W) => among14_any A n c ms x W (hM.later hb))
  have hR := Lib.hid (fun W (hb : Below w.heap.size w W) => among14_any A n c ms star W (hM.later hb))
  have hjm : j ≤ 9223372036854775807 := by have h1 := hN.cap; have h2 := hN.room; unfold maxLen at h2; omega
  have hl := Lib.hid hN.len
  have hH' := Lib.hid hH
  have hN' := Lib.hid hN
  have hyes : Hid (letsM ms x k = true) := Lib.hid (by unfold letsM; rw [hp, hq]; rfl)
  clear hM hH hN
  rw [hp] at hS
  rw [hq] at hA
  go_enter Tryz.func17, Tryz.ntmps17
  go_wp2_with (first
    | (go_at_call 22; (with_reducible refine (hS.out _).mono ?_); rintro e1 w1 ⟨rfl, hb1⟩; have c0 := cell_later hb1 hbx.out.1; have hb2 := below_then (below_box w _) hb1)
    | (go_at_call 36; (with_reducible refine (hA.out _ hb2).mono ?_); rintro e2 w2 ⟨rfl, hw⟩; have hw := hw.symm; subst hw))
  have k1 := Lib.hid (cell_later hb1 hbx.out.2.1)
  clear hA hR
  go_loopw [9] (fun i wr => ∃ q : Nat, q ≤ j ∧ i = .int .i64 q ∧ Below w1.heap.size w1 wr ∧ Hid ((ns.take q).all (fun z => letsH hs z k) = true)) (fun i _ => j - (RowKit.intOf i).toNat)
  case atStart => exact ⟨0, Nat.zero_le _, rfl, Below.refl _ _, Lib.hid rfl⟩
  case round =>
    obtain ⟨q, hq, rfl, hbe, hall⟩ := hrel
    have hbw := Lib.hid (below_then hb2 hbe)
    by_cases hlt : q < j
    · have hql : q < ns.length := by rw [hl.out]; exact hlt
      obtain ⟨b, off, rfl, _, hc⟩ := (hN'.out.later hbw.out).cell (by omega)
      have hz := hc q hql
      have c1 := cell_later hbe k1.out
      have hst := Lib.hid (all_take (p := fun z => letsH hs z k) hql)
      have hms := Lib.hid (fun hp => all_miss (p := fun z => letsH hs z k) hql hp)
      have hin := Lib.hid (fun W (hb : Below w.heap.size w W) => among14_any B m d hs ns[q] W (hH'.out.later hb))
      have hrs := Lib.hid (fun W (hb : Below w.heap.size w W) => among14_any B m d hs star W (hH'.out.later hb))
      clear hc
      have hlh : letsH hs ns[q] k = (isIn ns[q] hs || (!(ns[q].toList == auth) && (!decide (k = 3) && isIn star hs))) := rfl
      rw [hlh] at hst hms
      clear hlh
      generalize ns[q] = z at hz hst hms hin
      generalize isIn z hs = b1 at hst hms hin
      generalize isIn star hs = r2 at hst hms hrs
      cases b1 with
      | true =>
        have hn : Hid ((ns.take (q + 1)).all (fun z => letsH hs z k) = true) := Lib.hid (by rw [hst.out, hall.out]; rfl)
        clear hst hms hrs
        go_wp2
        go_quiet ((go_at_call 36; refine Calls.quiet_of_same (hin.out _ (below_drawn hbw.out _))))
        go_wp2
        go_roundw
        case rel => exact ⟨q + 1, by omega, by go_num, below_drawn hbe _, hn⟩
        case measure => simp [RowKit.intOf]; omega
      | false =>
        by_cases h3 : k = 3
        · subst h3
          have hf := Lib.hid (hms.out (by simp))
          clear hst hms hrs
          go_wp2
          go_quiet ((go_at_call 36; refine Calls.quiet_of_same (hin.out _ (below_drawn hbw.out _))))
          go_wp2
          go_ret
          exact ⟨ret_bool (by unfold lets; rw [hf.out, Bool.false_and]), below_drawn hbw.out _⟩
        · cases hza : (z.toList == auth) with
          | true =>
            have hf := Lib.hid (hms.out (by rw [hza]; simp))
            clear hst hms hrs
            go_wp2
            go_quiet ((go_at_call 36; refine Calls.quiet_of_same (hin.out _ (below_drawn hbw.out _))))
            go_wp2
            go_ret
            exact ⟨ret_bool (by unfold lets; rw [hf.out, Bool.false_and]), below_drawn hbw.out _⟩
          | false =>
            cases r2 with
            | true =>
              have hn : Hid ((ns.take (q + 1)).all (fun z => letsH hs z k) = true) := Lib.hid (by rw [hst.out, hall.out, hza, decide_eq_false h3]; rfl)
              clear hst hms
              go_wp2
              go_quiet ((go_at_call 36; refine Calls.quiet_of_same (hin.out _ (below_drawn hbw.out _))))
              go_wp2_with (go_at_call 36; (with_reducible refine (hrs.out _ (below_drawn hbw.out _)).mono ?_); rintro e2 w2 ⟨rfl, hw⟩; subst hw)
              go_roundw
              case rel => exact ⟨q + 1, by omega, by go_num, below_drawn hbe _, hn⟩
              case measure => simp [RowKit.intOf]; omega
            | false =>
              have hf := Lib.hid (hms.out (by simp))
              clear hst hms
              go_wp2
              go_quiet ((go_at_call 36; refine Calls.quiet_of_same (hin.out _ (below_drawn hbw.out _))))
              go_wp2_with (go_at_call 36; (with_reducible refine (hrs.out _ (below_drawn hbw.out _)).mono ?_); rintro e2 w2 ⟨rfl, hw⟩; subst hw)
              go_ret
              exact ⟨ret_bool (by unfold lets; rw [hf.out, Bool.false_and]), below_drawn hbw.out _⟩
    · have e : q = j := by omega
      subst e
      have hf := Lib.hid (show lets ms hs x ns k = true by
        have h1 := hall.out
        rw [← hl.out, List.take_length] at h1
        unfold lets
        rw [h1, hyes.out]
        rfl)
      go_wp2
      go_ret
      exact ⟨ret_bool hf.out.symm, below_then hb2 hbe⟩

set_option maxHeartbeats 8000000 in
set_option maxRecDepth 100000 in
/-- Where the method is let: by a star. -/
theorem refLets_three (A B C : Option Addr) (n c m d j e : Nat) (a : Int) (ms hs ns : List ByteArray) (x : ByteArray) (k : Int) (w : World) (hM : Strs w A n c ms) (hH : Strs w B m d hs) (hN : Strs w C j e ns) (hp : isIn x simple = false) (hq : isIn x ms = false) (h3 : ¬ k = 3) (hr : isIn star ms = true) :
    Calls Tryz.prog 17 #[.agg #[.slice A n c, .slice B m d, .int .i64 a], .string x, .slice C j e, .int .i64 k] w fun en w' => en = .returned (.bool (lets ms hs x ns k)) ∧ Below w.heap.size w w' := by
  have hbx := Lib.hid (box_three w (.slice A n c) (.slice B m d) (.int .i64 a) 36)
  have hS := Lib.hid (fun W => refSimple_any x W)
  have hA := Lib.hid (fun W (hb : Below w.heap.size w W) => among14_any A n c ms x W (hM.later hb))
  have hR := Lib.hid (fun W (hb : Below w.heap.size w W) => among14_any A n c ms star W (hM.later hb))
  have hjm : j ≤ 9223372036854775807 := by have h1 := hN.cap; have h2 := hN.room; unfold maxLen at h2; omega
  have hl := Lib.hid hN.len
  have hH' := Lib.hid hH
  have hN' := Lib.hid hN
  have hyes : Hid (letsM ms x k = true) := Lib.hid (by unfold letsM; rw [hp, hq, hr, decide_eq_false h3]; rfl)
  clear hM hH hN
  rw [hp] at hS
  rw [hq] at hA
  rw [hr] at hR
  have hd3 : decide (k = 3) = false := decide_eq_false h3
  have hd4 : (k == 3) = false := by simpa using h3
  have h3' := Lib.hid h3
  clear h3
  go_enter Tryz.func17, Tryz.ntmps17
  go_wp2_with (first
    | (go_at_call 22; (with_reducible refine (hS.out _).mono ?_); rintro e1 w1 ⟨rfl, hb1⟩; have c0 := cell_later hb1 hbx.out.1; have hb2 := below_then (below_box w _) hb1)
    | (go_at_call 36; (with_reducible refine (hA.out _ hb2).mono ?_); rintro e2 w2 ⟨rfl, hw⟩; have hw := hw.symm; subst hw)
    | (go_at_call 36; (with_reducible refine (hR.out _ hb2).mono ?_); rintro e2 w2 ⟨rfl, hw⟩; have hw := hw.symm; subst hw))
  have k1 := Lib.hid (cell_later hb1 hbx.out.2.1)
  clear hA hR
  go_loopw [9] (fun i wr => ∃ q : Nat, q ≤ j ∧ i = .int .i64 q ∧ Below w1.heap.size w1 wr ∧ Hid ((ns.take q).all (fun z => letsH hs z k) = true)) (fun i _ => j - (RowKit.intOf i).toNat)
  case atStart => exact ⟨0, Nat.zero_le _, rfl, Below.refl _ _, Lib.hid rfl⟩
  case round =>
    obtain ⟨q, hq, rfl, hbe, hall⟩ := hrel
    have hbw := Lib.hid (below_then hb2 hbe)
    by_cases hlt : q < j
    · have hql : q < ns.length := by rw [hl.out]; exact hlt
      obtain ⟨b, off, rfl, _, hc⟩ := (hN'.out.later hbw.out).cell (by omega)
      have hz := hc q hql
      have c1 := cell_later hbe k1.out
      have hst := Lib.hid (all_take (p := fun z => letsH hs z k) hql)
      have hms := Lib.hid (fun hp => all_miss (p := fun z => letsH hs z k) hql hp)
      have hin := Lib.hid (fun W (hb : Below w.heap.size w W) => among14_any B m d hs ns[q] W (hH'.out.later hb))
      have hrs := Lib.hid (fun W (hb : Below w.heap.size w W) => among14_any B m d hs star W (hH'.out.later hb))
      clear hc
      have hlh : letsH hs ns[q] k = (isIn ns[q] hs || (!(ns[q].toList == auth) && (!decide (k = 3) && isIn star hs))) := rfl
      rw [hlh] at hst hms
      clear hlh
      generalize ns[q] = z at hz hst hms hin
      generalize isIn z hs = b1 at hst hms hin
      generalize isIn star hs = r2 at hst hms hrs
      cases b1 with
      | true =>
        have hn : Hid ((ns.take (q + 1)).all (fun z => letsH hs z k) = true) := Lib.hid (by rw [hst.out, hall.out]; rfl)
        clear hst hms hrs
        go_wp2
        go_quiet ((go_at_call 36; refine Calls.quiet_of_same (hin.out _ (below_drawn hbw.out _))))
        go_wp2
        go_roundw
        case rel => exact ⟨q + 1, by omega, by go_num, below_drawn hbe _, hn⟩
        case measure => simp [RowKit.intOf]; omega
      | false =>
        · have h3 := h3'.out
          clear h3
          cases hza : (z.toList == auth) with
          | true =>
            have hf := Lib.hid (hms.out (by rw [hza]; simp))
            clear hst hms hrs
            go_wp2
            go_quiet ((go_at_call 36; refine Calls.quiet_of_same (hin.out _ (below_drawn hbw.out _))))
            go_wp2
            go_ret
            exact ⟨ret_bool (by unfold lets; rw [hf.out, Bool.false_and]), below_drawn hbw.out _⟩
          | false =>
            cases r2 with
            | true =>
              have hn : Hid ((ns.take (q + 1)).all (fun z => letsH hs z k) = true) := Lib.hid (by rw [hst.out, hall.out, hza, hd3]; rfl)
              clear hst hms
              go_wp2
              go_quiet ((go_at_call 36; refine Calls.quiet_of_same (hin.out _ (below_drawn hbw.out _))))
              go_wp2_with (go_at_call 36; (with_reducible refine (hrs.out _ (below_drawn hbw.out _)).mono ?_); rintro e2 w2 ⟨rfl, hw⟩; subst hw)
              go_roundw
              case rel => exact ⟨q + 1, by omega, by go_num, below_drawn hbe _, hn⟩
              case measure => simp [RowKit.intOf]; omega
            | false =>
              have hf := Lib.hid (hms.out (by simp))
              clear hst hms
              go_wp2
              go_quiet ((go_at_call 36; refine Calls.quiet_of_same (hin.out _ (below_drawn hbw.out _))))
              go_wp2_with (go_at_call 36; (with_reducible refine (hrs.out _ (below_drawn hbw.out _)).mono ?_); rintro e2 w2 ⟨rfl, hw⟩; subst hw)
              go_ret
              exact ⟨ret_bool (by unfold lets; rw [hf.out, Bool.false_and]), below_drawn hbw.out _⟩
    · have e : q = j := by omega
      subst e
      have hf := Lib.hid (show lets ms hs x ns k = true by
        have h1 := hall.out
        rw [← hl.out, List.take_length] at h1
        unfold lets
        rw [h1, hyes.out]
        rfl)
      go_wp2
      go_ret
      exact ⟨ret_bool hf.out.symm, below_then hb2 hbe⟩

theorem refLets_any (A B C : Option Addr) (n c m d j e : Nat) (a : Int) (ms hs ns : List ByteArray) (x : ByteArray) (k : Int) (w : World) (hM : Strs w A n c ms) (hH : Strs w B m d hs) (hN : Strs w C j e ns) :
    Calls Tryz.prog 17 #[.agg #[.slice A n c, .slice B m d, .int .i64 a], .string x, .slice C j e, .int .i64 k] w fun en w' => en = .returned (.bool (lets ms hs x ns k)) ∧ Below w.heap.size w w' := by
  cases hp : isIn x simple with
  | true => exact refLets_one A B C n c m d j e a ms hs ns x k w hM hH hN hp
  | false =>
    cases hq : isIn x ms with
    | true => exact refLets_two A B C n c m d j e a ms hs ns x k w hM hH hN hp hq
    | false =>
      have no : letsM ms x k = false → Calls Tryz.prog 17 #[.agg #[.slice A n c, .slice B m d, .int .i64 a], .string x, .slice C j e, .int .i64 k] w fun en w' => en = .returned (.bool (lets ms hs x ns k)) ∧ Below w.heap.size w w' := fun h => by
        unfold lets
        rw [h, Bool.and_false]
        exact refLets_no A B C n c m d j e a ms x k w hM h
      by_cases h3 : k = 3
      · exact no (by unfold letsM; rw [hp, hq, decide_eq_true h3]; rfl)
      · cases hr : isIn star ms with
        | true => exact refLets_three A B C n c m d j e a ms hs ns x k w hM hH hN hp hq h3 hr
        | false => exact no (by unfold letsM; rw [hp, hq, hr, Bool.and_false]; rfl)
end Go.Proofs.YtalnjlodldhfbaaGreatDoor
