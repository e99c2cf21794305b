/-
  Lets of layer 14, as the program has it. Conditions: those that each theorem states.
-/
import Derived.Test.YtalnjlodldhfbaaGreatDoorPreMath
import Derived.Test.YtalnjlodldhfbaaGreatDoorHeadLib
namespace Go.Proofs.YtalnjlodldhfbaaGreatDoor
open Go.RowKit Go.Lib Go.Shelf

theorem contains_in (A : Option Addr) (n c : Nat) (zs : List ByteArray) (x : ByteArray) (w : World) (h : Strs w A n c zs) :
    Calls Tryz.prog 55 #[.slice A n c, .string x] w fun e w' => e = .returned (.bool (isIn x zs)) ∧ w' = w := by
  have h1 := contains_any A n c zs x w h
  have e : (zs.any fun z => z.data.toList == x.data.toList) = isIn x zs := by
    unfold isIn
    congr 1
    funext z
    exact Bool.beq_comm
  rw [e] at h1
  exact h1

set_option maxHeartbeats 2000000 in
set_option maxRecDepth 100000 in
theorem hasAny_any (A : Option Addr) (n c : Nat) (zs : List ByteArray) (k : Int) (w : World) (h : Strs w A n c zs) :
    Calls Tryz.prog 56 #[.slice A n c, .int .i64 k] w fun e w' => e = .returned (.bool (!decide (k = 3) && isIn star zs)) ∧ w' = w := by
  have hc := Lib.hid (contains_in A n c zs star w h)
  clear h
  generalize isIn star zs = b at hc ⊢
  by_cases h3 : k = 3
  · subst h3
    go_enter Tryz.func56, Tryz.ntmps56
    go_wp2
    go_ret
    exact ⟨rfl, rfl⟩
  · rw [decide_eq_false h3]
    go_enter Tryz.func56, Tryz.ntmps56
    go_wp2_with (go_at_call 55; (with_reducible refine hc.out.mono ?_); rintro e w1 ⟨rfl, hw⟩; subst hw)
    go_ret
    exact ⟨ret_bool (by rw [show (k != 3) = true by simpa using h3]; rfl), rfl⟩

set_option maxHeartbeats 4000000 in
set_option maxRecDepth 100000 in
theorem letsMethod_any (A B : Option Addr) (n c m d : Nat) (a : Int) (ms : List ByteArray) (x : ByteArray) (k : Int) (w : World) (hM : Strs w A n c ms) :
    Calls Tryz.prog 35 #[.agg #[.slice A n c, .slice B m d, .int .i64 a], .string x, .int .i64 k] w fun e w' => e = .returned (.bool (letsM ms x k)) ∧ Below w.heap.size w w' := by
  have hS := Lib.hid (fun W => simple_any x W)
  have hM1 := hM.later (below_box w (.cells #[.slice A n c, .slice B m d, .int .i64 a] 33))
  have hC := Lib.hid (contains_in A n c ms x _ hM1)
  have hA := Lib.hid (hasAny_any A n c ms k _ hM1)
  have hm : letsM ms x k = (isIn x simple || (isIn x ms || (!decide (k = 3) && isIn star ms))) := rfl
  rw [hm]
  clear hM hM1 hm
  generalize isIn x simple = p at hS ⊢
  generalize isIn x ms = q at hC ⊢
  generalize (!decide (k = 3) && isIn star ms) = r at hA ⊢
  cases p <;> cases q
  all_goals
    go_enter Tryz.func35, Tryz.ntmps35
    go_wp2_with (first
      | (go_at_call 19; (with_reducible refine (hS.out _).mono ?_); rintro e w1 ⟨rfl, hw⟩; subst hw)
      | (go_at_call 55; (with_reducible refine hC.out.mono ?_); rintro e w1 ⟨rfl, hw⟩; subst hw)
      | (go_at_call 56; (with_reducible refine hA.out.mono ?_); rintro e w1 ⟨rfl, hw⟩; subst hw))
    go_ret
    exact ⟨ret_bool (by simp), below_box _ _⟩

set_option maxHeartbeats 4000000 in
set_option maxRecDepth 100000 in
theorem letsHeader_any (A B : Option Addr) (n c m d : Nat) (a : Int) (hs : List ByteArray) (x : ByteArray) (k : Int) (w : World) (hH : Strs w B m d hs) :
    Calls Tryz.prog 34 #[.agg #[.slice A n c, .slice B m d, .int .i64 a], .string x, .int .i64 k] w fun e w' => e = .returned (.bool (letsH hs x k)) ∧ Below w.heap.size w w' := by
  have hH1 := hH.later (below_box w (.cells #[.slice A n c, .slice B m d, .int .i64 a] 33))
  have hC := Lib.hid (contains_in B m d hs x _ hH1)
  have hA := Lib.hid (hasAny_any B m d hs k _ hH1)
  have hm : letsH hs x k = (isIn x hs || (!(x.toList == auth) && (!decide (k = 3) && isIn star hs))) := rfl
  rw [hm]
  clear hH hH1 hm
  generalize isIn x hs = q at hC ⊢
  generalize (!decide (k = 3) && isIn star hs) = r at hA ⊢
  rcases Bool.eq_false_or_eq_true (x.toList == auth) with p | p <;> cases q
  all_goals
    go_enter Tryz.func34, Tryz.ntmps34
    go_wp2_with (first
      | (go_at_call 55; (with_reducible refine hC.out.mono ?_); rintro e w1 ⟨rfl, hw⟩; subst hw)
      | (go_at_call 56; (with_reducible refine hA.out.mono ?_); rintro e w1 ⟨rfl, hw⟩; subst hw))
    go_ret
    exact ⟨ret_bool (by simp [p]), below_box _ _⟩

set_option maxHeartbeats 4000000 in
set_option maxRecDepth 100000 in
theorem lets_any (A B C : Option Addr) (n c m d j e : Nat) (a : Int) (ms hs ns : List ByteArray) (x : ByteArray) (k : Int) (w : World) (hM : Strs w A n c ms) (hH : Strs w B m d hs) (hN : Strs w C j e ns) :
    Calls Tryz.prog 16 #[.agg #[.slice A n c, .slice B m d, .int .i64 a], .string x, .slice C j e, .int .i64 k] w fun en w' => en = .returned (.bool (lets ms hs x ns k)) ∧ Below w.heap.size w w' := by
  have hbx := Lib.hid (box_three w (.slice A n c) (.slice B m d) (.int .i64 a) 33)
  have hjm : j ≤ 9223372036854775807 := by have h1 := hN.cap; have h2 := hN.room; unfold maxLen at h2; omega
  have hl := Lib.hid hN.len
  have hN' := Lib.hid hN
  have hLM := Lib.hid (fun W (hb : Below w.heap.size w W) => letsMethod_any A B n c m d a ms x k W (hM.later hb))
  have hLH := Lib.hid (fun z W (hb : Below w.heap.size w W) => letsHeader_any A B n c m d a hs z k W (hH.later hb))
  clear hM hH hN
  obtain ⟨w0, hw0⟩ : ∃ w0, w0 = w.alloc (.cells #[.slice A n c, .slice B m d, .int .i64 a] 33) := ⟨_, rfl⟩
  rw [← hw0] at hbx
  have hb0 := Lib.hid (show Below w.heap.size w w0 by rw [hw0]; exact below_box w _)
  have hw0' := Lib.hid hw0.symm
  clear hw0
  go_enter Tryz.func16, Tryz.ntmps16
  go_wp2_with fail
  try rw [hw0'.out]
  go_loopw [13] (fun i wr => ∃ q : Nat, q ≤ j ∧ i = .int .i64 q ∧ Below w0.heap.size w0 wr ∧ Hid ((ns.take q).all (fun z => letsH hs z k) = true)) (fun i _ => j - (RowKit.intOf i).toNat)
  case atStart => exact ⟨0, Nat.zero_le _, rfl, Below.refl _ _, Lib.hid rfl⟩
  case round =>
    obtain ⟨q, hq, rfl, hbe, hall⟩ := hrel
    have hbw := Lib.hid (below_then hb0.out hbe)
    have c0 := cell_later hbe hbx.out.1
    have c1 := cell_later hbe hbx.out.2.1
    have c2 := cell_later hbe hbx.out.2.2
    by_cases hlt : q < j
    · have hql : q < ns.length := by rw [hl.out]; exact hlt
      obtain ⟨b, off, rfl, _, hc⟩ := (hN'.out.later hbw.out).cell (by omega)
      have hz := hc q hql
      have hst := Lib.hid (all_take (p := fun z => letsH hs z k) hql)
      have hms := Lib.hid (fun hp => all_miss (p := fun z => letsH hs z k) hql hp)
      have hin := Lib.hid (hLH.out ns[q] wr hbw.out)
      clear hc
      generalize ns[q] = z at hz hst hms hin
      generalize letsH hs z k = b1 at hst hms hin
      cases b1 with
      | true =>
        have hn : Hid ((ns.take (q + 1)).all (fun z => letsH hs z k) = true) := Lib.hid (by rw [hst.out, hall.out]; rfl)
        clear hst hms
        go_wp2_with (go_at_call 34; (with_reducible refine hin.out.mono ?_); rintro e1 w1 ⟨rfl, hb1⟩)
        go_roundw
        case rel => exact ⟨q + 1, by omega, by go_num, below_then hbe hb1, hn⟩
        case measure => simp [RowKit.intOf]; omega
      | false =>
        have hf := Lib.hid (hms.out rfl)
        clear hst hms
        go_wp2_with (go_at_call 34; (with_reducible refine hin.out.mono ?_); rintro e1 w1 ⟨rfl, hb1⟩)
        go_ret
        exact ⟨ret_bool (by unfold lets; rw [hf.out, Bool.false_and]), below_then hbw.out hb1⟩
    · have e : q = j := by omega
      subst e
      have hf := Lib.hid (show lets ms hs x ns k = letsM ms x k by
        have h1 := hall.out
        rw [← hl.out, List.take_length] at h1
        unfold lets
        rw [h1, Bool.true_and])
      have hin := Lib.hid (hLM.out wr hbw.out)
      generalize letsM ms x k = b2 at hf hin
      go_wp2_with (go_at_call 35; (with_reducible refine hin.out.mono ?_); rintro e1 w1 ⟨rfl, hb1⟩)
      go_ret
      exact ⟨ret_bool hf.out.symm, below_then hbw.out hb1⟩
end Go.Proofs.YtalnjlodldhfbaaGreatDoor
