/-
  Valid lists of headers, and the law's own 'few', as the program and as the reference have them. Conditions: those that each theorem states.
-/
import Derived.Test.YtklbikafkdjgpaaDoorHeadGood
namespace Go.Proofs.YtklbikafkdjgpaaDoor
open Go.RowKit Go.Lib Go.Shelf

/-- Every name and value is at most so long. -/
def Short (B : Nat) (l : List Hd) : Prop := ∀ h ∈ l, h.1.size ≤ B ∧ h.2.size ≤ B

theorem good_step {l : List Hd} {k : Nat} (hk : k < l.length) (h : (l.take k).all hdOk = true) (h1 : hdOk l[k] = true) : (l.take (k + 1)).all hdOk = true := by
  rw [take_snoc hk, List.all_append, h]
  simp [h1]
theorem good_stop {l : List Hd} {k : Nat} (hk : k < l.length) (h1 : hdOk l[k] = false) : goodOk l = false := by
  have : l.all hdOk = false := by
    rw [List.all_eq_false]
    exact ⟨l[k], List.getElem_mem hk, by simp [h1]⟩
  simp [goodOk, this]

set_option maxHeartbeats 2000000 in
set_option maxRecDepth 100000 in
theorem goodList_any (A : Option Addr) (n c : Nat) (l : List Hd) (w : World) (h : Hds w A n c l) (hB : Short maxLen l) : Calls Tryd.prog 7 #[.slice A n c] w fun e w' => e = .returned (.bool (goodOk l)) ∧ Below w.heap.size w w' := by
  have hn : n ≤ 9223372036854775807 := by have h1 := h.cap; have h2 := h.room; unfold maxLen at h2; omega
  have hl := Lib.hid h.len
  have hH := Lib.hid h
  have hB' := Lib.hid hB
  clear h hB
  go_enter Tryd.func7, Tryd.ntmps7
  go_wp2
  go_loopw [7] (fun i wr => ∃ k : Nat, k ≤ n ∧ i = .int .i64 k ∧ Below w.heap.size w wr ∧ (l.take k).all hdOk = true) (fun i _ => n - (RowKit.intOf i).toNat)
  case atStart => exact ⟨0, Nat.zero_le _, rfl, Below.refl _ _, rfl⟩
  case round =>
    obtain ⟨k, hk, rfl, hb, hall0⟩ := hrel
    have hall := Lib.hid hall0
    clear hall0
    by_cases hlt : k < n
    · obtain ⟨b, off, rfl, h1, h2⟩ := (hH.out.later hb).at hlt
      have hkl : k < l.length := by rw [hl.out]; exact hlt
      have hsh := hB'.out l[k] (List.getElem_mem hkl)
      have hstep := Lib.hid (show hdOk l[k] = true → (l.take (k + 1)).all hdOk = true from good_step hkl hall.out)
      have hstop := Lib.hid (show hdOk l[k] = false → goodOk l = false from good_stop hkl)
      have hN := fun W => name_any l[k].1 hsh.1 W
      have hV := fun W => value_any l[k].2 hsh.2 W
      have hd : hdOk l[k] = (nameOk l[k].1 && valueOk l[k].2) := rfl
      rw [hd] at hstep hstop
      clear hd hsh
      generalize l[k].1 = x at h1 hN hstep hstop
      generalize l[k].2 = y at h2 hV hstep hstop
      cases hx : nameOk x with
      | false =>
        have hf := Lib.hid (hstop.out (by rw [hx]; rfl))
        rw [hx] at hN
        have hN' := Lib.hid hN
        clear hN hV hx hstep hstop
        go_wp2_with (go_at_call 10; refine (hN'.out _).mono ?_; rintro e w' ⟨rfl, hw⟩; subst hw)
        go_ret
        exact ⟨ret_bool hf.out.symm, hb.alloc hb.size _⟩
      | true =>
        rw [hx] at hN
        have hN' := Lib.hid hN
        clear hN
        cases hy : valueOk y with
        | false =>
          have hf := Lib.hid (hstop.out (by rw [hx, hy]; rfl))
          rw [hy] at hV
          have hV' := Lib.hid hV
          clear hV hx hy hstep hstop
          go_wp2_with (first
            | (go_at_call 10; refine (hN'.out _).mono ?_; rintro e w' ⟨rfl, hw⟩; subst hw)
            | (go_at_call 12; refine (hV'.out _).mono ?_; rintro e w' ⟨rfl, hb1⟩))
          go_ret
          exact ⟨ret_bool hf.out.symm, (hb.alloc hb.size _).trans (hb1.mono (by have := hb.size; simp; omega))⟩
        | true =>
          have hf := Lib.hid (hstep.out (by rw [hx, hy]; rfl))
          rw [hy] at hV
          have hV' := Lib.hid hV
          clear hV hx hy hstep hstop
          go_wp2_with (first
            | (go_at_call 10; refine (hN'.out _).mono ?_; rintro e w' ⟨rfl, hw⟩; subst hw)
            | (go_at_call 12; refine (hV'.out _).mono ?_; rintro e w' ⟨rfl, hb1⟩))
          go_roundw
          case rel => exact ⟨k + 1, by omega, by go_num, (hb.alloc hb.size _).trans (hb1.mono (by have := hb.size; simp; omega)), hf.out⟩
          case measure => simp [RowKit.intOf]; omega
    · have ek : k = n := by omega
      subst ek
      have hf := Lib.hid (show goodOk l = decide (k ≤ 24) by
        have h1 := hall.out
        rw [← hl.out, List.take_length] at h1
        unfold goodOk
        rw [h1, hl.out]
        rfl)
      go_wp2
      go_ret
      refine ⟨ret_bool ?_, hb⟩
      rw [hf.out]
      try (rw [Bool.eq_iff_iff]; simp)
      try omega

set_option maxHeartbeats 2000000 in
set_option maxRecDepth 100000 in
theorem refGood9_any (A : Option Addr) (n c : Nat) (l : List Hd) (w : World) (h : Hds w A n c l) (hB : Short maxLen l) : Calls Tryd.prog 9 #[.slice A n c] w fun e w' => e = .returned (.bool (goodOk l)) ∧ w' = w := by
  have hn : n ≤ 9223372036854775807 := by have h1 := h.cap; have h2 := h.room; unfold maxLen at h2; omega
  have hl := Lib.hid h.len
  have hH := Lib.hid h
  have hB' := Lib.hid hB
  clear h hB
  go_enter Tryd.func9, Tryd.ntmps9
  go_wp2
  go_loop [3] (fun i => ∃ k : Nat, k ≤ n ∧ i = .int .i64 k ∧ (l.take k).all hdOk = true) (fun i => n - (RowKit.intOf i).toNat)
  case atStart => exact ⟨0, Nat.zero_le _, rfl, rfl⟩
  case round =>
    obtain ⟨k, hk, rfl, hall0⟩ := hrel
    have hall := Lib.hid hall0
    clear hall0
    by_cases hlt : k < n
    · obtain ⟨b, off, rfl, h1, h2⟩ := hH.out.at hlt
      have hkl : k < l.length := by rw [hl.out]; exact hlt
      have hsh := hB'.out l[k] (List.getElem_mem hkl)
      have hstep := Lib.hid (show hdOk l[k] = true → (l.take (k + 1)).all hdOk = true from good_step hkl hall.out)
      have hstop := Lib.hid (show hdOk l[k] = false → goodOk l = false from good_stop hkl)
      have hN := refName_any l[k].1 hsh.1 w
      have hV := refValue_any l[k].2 hsh.2 w
      have hd : hdOk l[k] = (nameOk l[k].1 && valueOk l[k].2) := rfl
      rw [hd] at hstep hstop
      clear hd hsh
      generalize l[k].1 = x at h1 hN hstep hstop
      generalize l[k].2 = y at h2 hV hstep hstop
      cases hx : nameOk x with
      | false =>
        have hf := Lib.hid (hstop.out (by rw [hx]; rfl))
        rw [hx] at hN
        clear hV hx hstep hstop
        go_wp2_with (go_at_call 11; refine hN.mono ?_; rintro e w' ⟨rfl, hw⟩; subst hw)
        go_ret
        exact ⟨ret_bool hf.out.symm, rfl⟩
      | true =>
        rw [hx] at hN
        cases hy : valueOk y with
        | false =>
          have hf := Lib.hid (hstop.out (by rw [hx, hy]; rfl))
          rw [hy] at hV
          clear hx hy hstep hstop
          go_wp2_with (first
            | (go_at_call 11; refine hN.mono ?_; rintro e w' ⟨rfl, hw⟩; subst hw)
            | (go_at_call 13; refine hV.mono ?_; rintro e w' ⟨rfl, hw⟩; subst hw))
          go_ret
          exact ⟨ret_bool hf.out.symm, rfl⟩
        | true =>
          have hf := Lib.hid (hstep.out (by rw [hx, hy]; rfl))
          rw [hy] at hV
          clear hx hy hstep hstop
          go_wp2_with (first
            | (go_at_call 11; refine hN.mono ?_; rintro e w' ⟨rfl, hw⟩; subst hw)
            | (go_at_call 13; refine hV.mono ?_; rintro e w' ⟨rfl, hw⟩; subst hw))
          go_round
          case rel => exact ⟨k + 1, by omega, by go_num, hf.out⟩
          case measure => simp [RowKit.intOf]; omega
    · have ek : k = n := by omega
      subst ek
      have hf := Lib.hid (show goodOk l = decide (k ≤ 24) by
        have h1 := hall.out
        rw [← hl.out, List.take_length] at h1
        unfold goodOk
        rw [h1, hl.out]
        rfl)
      go_wp2
      go_ret
      refine ⟨ret_bool ?_, rfl⟩
      rw [hf.out]
      try (rw [Bool.eq_iff_iff]; simp)
      try omega

set_option maxRecDepth 100000 in
theorem few_any (A : Option Addr) (n c : Nat) (l : List Hd) (w : World) (h : Hds w A n c l) : Calls Tryd.prog 8 #[.slice A n c] w fun e w' => e = .returned (.slice A (min n 30) c) ∧ w' = w := by
  have hn : n ≤ 9223372036854775807 := by have h1 := h.cap; have h2 := h.room; unfold maxLen at h2; omega
  have hc : c ≤ 9223372036854775807 := by have h2 := h.room; unfold maxLen at h2; omega
  have hcap := h.cap
  by_cases h30 : 30 < n
  · obtain ⟨b, off, rfl, _, _⟩ := h.cell (by omega)
    have e : min n 30 = 30 := by omega
    rw [e]
    clear e h
    go_enter Tryd.func8, Tryd.ntmps8
    go_wp2
    go_ret
    exact ⟨rfl, rfl⟩
  · have e : min n 30 = n := by omega
    rw [e]
    clear e h
    go_enter Tryd.func8, Tryd.ntmps8
    go_wp2
    go_ret
    exact ⟨rfl, rfl⟩
theorem Hds.few {w : World} {A : Option Addr} {n c : Nat} {l : List Hd} (h : Hds w A n c l) : Hds w A (min n 30) c (l.take 30) := by
  have h1 := h.front (k := min n 30) (by omega)
  have e : l.take (min n 30) = l.take 30 := by
    rcases Nat.le_total n 30 with hn | hn
    · rw [Nat.min_eq_left hn, List.take_of_length_le (by rw [h.len]; exact Nat.le_refl _), List.take_of_length_le (by rw [h.len]; exact hn)]
    · rw [Nat.min_eq_right hn]
  rw [e] at h1
  exact h1
theorem Short.take {B : Nat} {l : List Hd} (h : Short B l) (k : Nat) : Short B (l.take k) := fun x hx => h x (List.mem_of_mem_take hx)
end Go.Proofs.YtklbikafkdjgpaaDoor
