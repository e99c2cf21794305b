/-
  ascii.Number as the program has it. Conditions: the limit is not negative.
-/
import Derived.Test.YtalnjlodldhfbaaGreatDoorLow
namespace Go.Proofs.YtalnjlodldhfbaaGreatDoor
open Go.RowKit Go.Lib

/-- A number that an int holds (behind a name, out of the walk's sight). -/
def I63 (n : Nat) : Prop := n ≤ 9223372036854775807

set_option maxHeartbeats 1000000 in
set_option maxRecDepth 100000 in
theorem extend_any (n d M : Nat) (hd : d ≤ 9) (hM : I63 M) (hn : n ≤ M) (w : World) : Calls Tryz.prog 70 #[.int .i64 n, .int .i64 d, .int .i64 M] w fun e w' => e = .returned (.int .i64 (grow n d M : Nat)) ∧ w' = w := by
  have hM1 : M ≤ 9223372036854775807 := hM
  by_cases h1 : M < d
  · have e : grow n d M = M := by rw [grow, if_pos (.inl h1)]
    rw [e]
    go_enter Tryz.func70, Tryz.ntmps70
    go_wp2
    go_ret
    exact ⟨rfl, rfl⟩
  · have hdiv : Int.tdiv ((M : Int) - d) 10 = (((M - d) / 10 : Nat) : Int) := by
      rw [Int.tdiv_eq_ediv_of_nonneg (by omega)]
      omega
    by_cases h2 : (M - d) / 10 < n
    · have e : grow n d M = M := by rw [grow, if_pos (.inr h2)]
      rw [e]
      go_enter Tryz.func70, Tryz.ntmps70
      go_wp2
      go_ret
      exact ⟨rfl, rfl⟩
    · have e : grow n d M = 10 * n + d := by rw [grow, if_neg (by omega)]
      rw [e]
      go_enter Tryz.func70, Tryz.ntmps70
      go_wp2
      go_ret
      exact ⟨ret_int (by omega), rfl⟩

theorem all_of {l : List UInt8} {k : Nat} (hk : k < l.length) (h : (l.take k).all digit = true) (hd : digit l[k] = true) : (l.take (k + 1)).all digit = true := all_step hk h hd
theorem number_stop {l : List UInt8} {k : Nat} (M : Nat) (hk : k < l.length) (hd : digit l[k] = false) : number l M = 0 ∧ isNumber l = false := by
  have h := all_stop (p := digit) hk hd
  exact ⟨by rw [number, h]; rfl, by rw [isNumber, h]; rfl⟩
theorem number_nil (M : Nat) : number [] M = 0 ∧ isNumber [] = false := by
  refine ⟨?_, rfl⟩
  simp [number, val]
theorem number_full {l : List UInt8} (M : Nat) (h : l.all digit = true) : number l M = min (val l) M := by rw [number, if_pos h]

set_option maxHeartbeats 2000000 in
set_option maxRecDepth 100000 in
theorem number_any (s : ByteArray) (hs : s.size ≤ maxLen) (M : Nat) (hM : I63 M) (w : World) : Calls Tryz.prog 51 #[.string s, .int .i64 M] w fun e w' =>
    e = .returned (.tuple #[.int .i64 (number s.data.toList M : Nat), .bool (isNumber s.data.toList)]) ∧ w' = w := by
  have hm : s.size ≤ 9223372036854775807 := by unfold maxLen at hs; exact hs
  have hM1 : M ≤ 9223372036854775807 := hM
  have hsl := Lib.hid (size_len s)
  have hat := Lib.hid (fun (k : Nat) (h : k < s.size) => byte_at s k h)
  by_cases hs0 : s.size = 0
  · have e : s.data.toList = [] := List.eq_nil_of_length_eq_zero (by rw [← hsl.out]; exact hs0)
    have he : s.toList.isEmpty = true := by rw [ByteArray.toList_eq, e]; rfl
    rw [e, (number_nil M).1, (number_nil M).2]
    clear e
    go_enter Tryz.func51, Tryz.ntmps51
    go_wp2
    go_ret2
    exact ⟨rfl, rfl⟩
  · have hne : s.data.toList.isEmpty = false := by
      rw [List.isEmpty_eq_false_iff]
      intro c
      exact hs0 (by rw [hsl.out, c]; rfl)
    have he : s.toList.isEmpty = false := by rw [ByteArray.toList_eq]; exact hne
    have hne' := Lib.hid hne
    clear hne
    generalize hR : number s.data.toList M = R
    generalize hT : isNumber s.data.toList = T
    have hR' := Lib.hid hR
    have hT' := Lib.hid hT
    clear hR hT
    go_enter Tryz.func51, Tryz.ntmps51
    go_wp2
    go_loop [6, 12] (fun n i => ∃ k : Nat, k ≤ s.size ∧ i = .int .i64 k ∧ n = .int .i64 ((min (val (s.data.toList.take k)) M : Nat) : Int) ∧ (s.data.toList.take k).all digit = true) (fun _ i => s.size - (RowKit.intOf i).toNat)
    case atStart => exact ⟨0, Nat.zero_le _, rfl, by simp [val], rfl⟩
    case round =>
      obtain ⟨k, hk, rfl, rfl, hall⟩ := hrel
      have hall' := Lib.hid hall
      clear hall
      by_cases hkn : k < s.size
      · have hkl : k < s.data.toList.length := by rw [← hsl.out]; exact hkn
        have hisd := fun W => isDigit_any (s[k]).toNat W
        by_cases hd : digit s[k] = true
        · have hv := Lib.hid (val_step hkl)
          have hb := digit_bounds hd
          have hd2 : (48 ≤ (s[k]).toNat && (s[k]).toNat ≤ 57) = true := hd
          have hal := Lib.hid (all_of hkl hall'.out hd)
          have hext := fun W => extend_any (min (val (s.data.toList.take k)) M) ((s[k]).toNat - 48) M (by omega) hM (Nat.min_le_right _ _) W
          rw [grow_min] at hext
          have hcast : (((s[k]).toNat - 48 : Nat) : Int) = ((s[k]).toNat : Int) - 48 := by omega
          rw [hcast] at hext
          have hb1 := hb.1
          have hb2 := hb.2
          rw [hd2] at hisd
          have hv' : val (s.data.toList.take (k + 1)) = 10 * val (s.data.toList.take k) + ((s[k]).toNat - 48) := hv.out
          rw [← hv'] at hext
          clear hb hv' hcast hd2 hd
          generalize hn : min (val (s.data.toList.take k)) M = n at hext ⊢
          have hext' := Lib.hid hext
          have hisd' := Lib.hid hisd
          clear hext hisd hn
          go_wp2_with (first
            | (go_at_call 69; refine (hisd'.out _).mono ?_; rintro e w' ⟨rfl, hw⟩; subst hw)
            | (go_at_call 70; refine (hext'.out _).mono ?_; rintro e w' ⟨rfl, hw⟩; subst hw))
          go_round
          case rel => exact ⟨k + 1, by omega, by go_num, rfl, hal.out⟩
          case measure => simp [RowKit.intOf]; omega
        · have hd2 : (48 ≤ (s[k]).toNat && (s[k]).toNat ≤ 57) = false := by
            have : digit s[k] = false := by simpa using hd
            exact this
          rw [hd2] at hisd
          have hst := Lib.hid (number_stop M hkl (show digit s.data.toList[k] = false from Bool.eq_false_iff.2 hd))
          have hisd' := Lib.hid hisd
          clear hisd hd hd2
          go_wp2_with (go_at_call 69; refine (hisd'.out _).mono ?_; rintro e w' ⟨rfl, hw⟩; subst hw)
          go_ret2
          rw [← hR'.out, ← hT'.out, hst.out.1, hst.out.2]
          exact ⟨rfl, rfl⟩
      · have e : k = s.size := by omega
        subst e
        go_wp2
        go_ret2
        have h := hall'.out
        rw [hsl.out, List.take_length] at h
        rw [← hR'.out, ← hT'.out, number_full M h, isNumber, h, hne'.out, hsl.out, List.take_length]
        exact ⟨rfl, rfl⟩
end Go.Proofs.YtalnjlodldhfbaaGreatDoor
