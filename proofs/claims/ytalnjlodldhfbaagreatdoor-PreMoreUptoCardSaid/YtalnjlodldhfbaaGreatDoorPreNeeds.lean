/-
  Needs of layer 14, as the program and as the reference have it. Conditions: those that each theorem states.
-/
import Derived.Test.YtalnjlodldhfbaaGreatDoorSafeRefUns
import Derived.Test.YtalnjlodldhfbaaGreatDoorPreMath
namespace Go.Proofs.YtalnjlodldhfbaaGreatDoor
open Go.RowKit Go.Lib Go.Shelf

/-- Does a request need a question ahead? -/
def needs (x : ByteArray) (l : List Hd) : Bool := !isIn x simple || !(uns l).isEmpty

theorem uns_none (l : List Hd) : (uns l).isEmpty = l.all (fun h => headOk h.1 h.2) := by
  rw [Bool.eq_iff_iff, List.isEmpty_iff, List.all_eq_true]
  constructor
  · intro h x hx
    cases hk : headOk x.1 x.2 with
    | true => rfl
    | false =>
      have hm : lo x.1 ∈ uns l := ((sortC_spec _).2 _).2 (mem_names.2 ⟨x, hx, hk, rfl⟩)
      rw [h] at hm
      cases hm
  · intro h
    apply List.eq_nil_iff_forall_not_mem.2
    intro t ht
    obtain ⟨x, hx, hk, _⟩ := mem_names.1 (((sortC_spec _).2 _).1 ht)
    rw [h x hx] at hk
    cases hk
theorem uns_mem_len {l : List Hd} {B : Nat} (h : ∀ x ∈ l, x.1.size ≤ B) : ∀ t ∈ uns l, t.length ≤ B := by
  intro t ht
  obtain ⟨x, hx, _, rfl⟩ := mem_names.1 (((sortC_spec _).2 _).1 ht)
  have := h x hx
  rw [size_len] at this
  unfold lo
  rw [List.length_map]
  exact this

set_option maxHeartbeats 4000000 in
set_option maxRecDepth 100000 in
theorem needs_any (A : Option Addr) (n c : Nat) (l : List Hd) (x : ByteArray) (w : World) (h : Hds w A n c l) (hn : n ≤ 1000) (hB : Short maxLen l) :
    Calls Tryz.prog 7 #[.string x, .slice A n c] w fun e w' => e = .returned (.bool (needs x l)) ∧ Below w.heap.size w w' := by
  have hS := Lib.hid (fun W => simple_any x W)
  have hU := Lib.hid (unsafe_any A n c l w h hn hB)
  have hd : needs x l = (!isIn x simple || !(uns l).isEmpty) := rfl
  rw [hd]
  clear h hB hd
  generalize isIn x simple = p at hS ⊢
  generalize uns l = us at hU ⊢
  cases p with
  | false =>
    go_enter Tryz.func7, Tryz.ntmps7
    go_wp2_with (go_at_call 19; (with_reducible refine (hS.out _).mono ?_); rintro e w1 ⟨rfl, hw⟩; subst hw)
    go_ret
    exact ⟨rfl, Below.refl _ _⟩
  | true =>
    by_cases hz : us = []
    · subst hz
      go_enter Tryz.func7, Tryz.ntmps7
      go_wp2_with (first
        | (go_at_call 19; (with_reducible refine (hS.out _).mono ?_); rintro e w1 ⟨rfl, hw⟩; have hw := hw.symm; subst hw)
        | (go_at_call 20; (with_reducible refine hU.out.mono ?_); rintro e w2 ⟨v, rfl, ho, hb⟩; obtain ⟨A1, n1, c1, rfl, hT, _⟩ := ho.both; have hn1 : n1 = 0 := hT.len.symm; subst hn1))
      go_ret
      exact ⟨rfl, hb⟩
    · have hp : Hid (0 < us.length) := Lib.hid (List.length_pos_iff.2 hz)
      have he : us.isEmpty = false := by simpa using hz
      rw [he]
      clear he hz
      go_enter Tryz.func7, Tryz.ntmps7
      go_wp2_with (first
        | (go_at_call 19; (with_reducible refine (hS.out _).mono ?_); rintro e w1 ⟨rfl, hw⟩; have hw := hw.symm; subst hw)
        | (go_at_call 20; (with_reducible refine hU.out.mono ?_); rintro e w2 ⟨v, rfl, ho, hb⟩; obtain ⟨A1, n1, c1, rfl, hT, _⟩ := ho.both; have hn1 : 0 < n1 := by rw [← hT.len]; exact hp.out))
      go_ret
      exact ⟨ret_bool (by simp), hb⟩

set_option maxHeartbeats 4000000 in
set_option maxRecDepth 100000 in
theorem refNeeds_any (A : Option Addr) (n c : Nat) (l : List Hd) (x : ByteArray) (w : World) (h : Hds w A n c l) (hB : Fits l) :
    Calls Tryz.prog 9 #[.string x, .slice A n c] w fun e w' => e = .returned (.bool (needs x l)) ∧ Below w.heap.size w w' := by
  have hn : n ≤ 9223372036854775807 := by have h1 := h.cap; have h2 := h.room; unfold maxLen at h2; omega
  have hl := Lib.hid h.len
  have hH := Lib.hid h
  have hB' := Lib.hid hB
  have hS := Lib.hid (fun W => refSimple_any x W)
  have hd : needs x l = (!isIn x simple || !(uns l).isEmpty) := rfl
  rw [hd, uns_none]
  clear h hB hd
  generalize isIn x simple = p at hS ⊢
  go_enter Tryz.func9, Tryz.ntmps9
  go_wp2
  go_loopw [5] (fun i wr => ∃ q : Nat, q ≤ n ∧ i = .int .i64 q ∧ Below w.heap.size w wr ∧ Hid ((l.take q).all (fun h => headOk h.1 h.2) = true)) (fun i _ => n - (RowKit.intOf i).toNat)
  case atStart => exact ⟨0, Nat.zero_le _, rfl, Below.refl _ _, Lib.hid rfl⟩
  case round =>
    obtain ⟨q, hq, rfl, hbe, hall⟩ := hrel
    by_cases hlt : q < n
    · have hql : q < l.length := by rw [hl.out]; exact hlt
      obtain ⟨b, off, rfl, h1, h2⟩ := (hH.out.later hbe).at hlt
      have hst := Lib.hid (all_take (p := fun h : Hd => headOk h.1 h.2) hql)
      have hms := Lib.hid (fun hp => all_miss (p := fun h : Hd => headOk h.1 h.2) hql hp)
      have hin := Lib.hid (fun W => refHeader_any l[q].1 l[q].2 (hB'.out _ (List.getElem_mem hql)).1 W)
      generalize headOk l[q].1 l[q].2 = b1 at hst hms hin
      generalize l[q].1 = y at h1 hin
      generalize l[q].2 = z at h2 hin
      cases b1 with
      | true =>
        have hn : Hid ((l.take (q + 1)).all (fun h => headOk h.1 h.2) = true) := Lib.hid (by rw [hst.out, hall.out]; rfl)
        clear hst hms
        go_wp2_with (go_at_call 21; (with_reducible refine (hin.out _).mono ?_); rintro e1 w1 ⟨rfl, hb1⟩)
        go_roundw
        case rel => exact ⟨q + 1, by omega, by go_num, below_then hbe hb1, hn⟩
        case measure => simp [RowKit.intOf]; omega
      | false =>
        have hf := Lib.hid (hms.out rfl)
        clear hst hms
        go_wp2_with (go_at_call 21; (with_reducible refine (hin.out _).mono ?_); rintro e1 w1 ⟨rfl, hb1⟩)
        go_ret
        exact ⟨ret_bool (by rw [hf.out]; simp), below_then hbe hb1⟩
    · have e : q = n := by omega
      subst e
      have hf := Lib.hid (show l.all (fun h => headOk h.1 h.2) = true by
        have h1 := hall.out
        rw [← hl.out, List.take_length] at h1
        exact h1)
      go_wp2_with (go_at_call 22; (with_reducible refine (hS.out _).mono ?_); rintro e1 w1 ⟨rfl, hb1⟩)
      go_ret
      exact ⟨ret_bool (by rw [hf.out]; simp), below_then hbe hb1⟩
end Go.Proofs.YtalnjlodldhfbaaGreatDoor
