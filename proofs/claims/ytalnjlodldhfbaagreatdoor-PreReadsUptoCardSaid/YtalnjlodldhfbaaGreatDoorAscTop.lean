/-
  What a text is in digits, as the reference has it. Conditions: those that each theorem states.
-/
import Derived.Test.YtalnjlodldhfbaaGreatDoorAscNum
namespace Go.Proofs.YtalnjlodldhfbaaGreatDoor
open Go.RowKit Go.Lib

theorem pow19 : (10 : Nat) ^ 19 = 10000000000000000000 := by decide

set_option maxHeartbeats 2000000 in
set_option maxRecDepth 100000 in
theorem top_any (s : ByteArray) (hs : s.size ≤ 19) (hd : s.data.toList.all digit = true) (w : World) : Calls Tryz.prog 54 #[.string s] w fun e w' =>
    e = .returned (.int .i64 (min (val s.data.toList) 9223372036854775807 : Nat)) ∧ w' = w := by
  have hsl := Lib.hid (size_len s)
  have hdk : ∀ k, k ≤ s.size → (s.data.toList.take k).all digit = true := fun k _ => by
    rw [List.all_eq_true] at hd ⊢
    exact fun x hx => hd x (List.mem_of_mem_take hx)
  have hU : ∀ k, k ≤ s.size → U64 (val (s.data.toList.take k)) := fun k hk => by
    have := val_digits (l := s.data.toList) (k := k) (n := k) (by rw [← hsl.out]; exact hk) rfl (hdk k hk)
    have h2 : (10 : Nat) ^ k ≤ 10 ^ 19 := Nat.pow_le_pow_right (by omega) (by omega)
    rw [pow19] at h2
    unfold U64
    omega
  have hdk' := Lib.hid hdk
  have hU' := Lib.hid hU
  obtain ⟨R, hR⟩ : ∃ R : Nat, R = min (val s.data.toList) 9223372036854775807 := ⟨_, rfl⟩
  rw [← hR]
  have hR' := Lib.hid hR
  clear hdk hU hR hd
  go_enter Tryz.func54, Tryz.ntmps54
  go_wp2
  go_loop [3, 4] (fun u i => ∃ k : Nat, k ≤ s.size ∧ i = .int .i64 k ∧ u = .int .u64 ((val (s.data.toList.take k) : Nat) : Int)) (fun _ i => s.size - (RowKit.intOf i).toNat)
  case atStart => exact ⟨0, Nat.zero_le _, rfl, rfl⟩
  case round =>
    obtain ⟨k, hk, rfl, rfl⟩ := hrel
    by_cases hkn : k < s.size
    · have hkl : k < s.data.toList.length := by rw [← hsl.out]; exact hkn
      have hb : 48 ≤ (s[k]).toNat ∧ (s[k]).toNat ≤ 57 := digit_bounds (digits_of hkl (hdk'.out (k + 1) (by omega))).2
      obtain ⟨hb1, hb2⟩ := hb
      have hv : val (s.data.toList.take (k + 1)) = 10 * val (s.data.toList.take k) + ((s[k]).toNat - 48) := val_step hkl
      have hu1 := hU'.out (k + 1) (by omega)
      generalize val (s.data.toList.take k) = u at hv ⊢
      have hw1 : IntKind.u64.wrap (10 * (u : Int)) = 10 * (u : Int) := by
        have : U64 (10 * u) := by rw [hv] at hu1; unfold U64 at hu1 ⊢; omega
        have := wrap_of this
        simpa using this
      have hw2 : IntKind.u64.wrap (10 * (u : Int) + ((s[k]).toNat - 48 : Int)) = 10 * (u : Int) + ((s[k]).toNat - 48 : Int) := by
        have := wrap_of hu1
        rw [hv] at this
        rw [show 10 * (u : Int) + ((s[k]).toNat - 48 : Int) = ((10 * u + ((s[k]).toNat - 48) : Nat) : Int) by omega]
        exact this
      have hv' := Lib.hid hv
      clear hv hu1
      go_wp2
      go_round
      case rel => exact ⟨k + 1, by omega, by go_num, by rw [hv'.out]; exact congrArg (Value.int .u64) (by omega)⟩
      case measure => simp [RowKit.intOf]; omega
    · have e : k = s.size := by omega
      subst e
      have hl : s.data.toList.take s.size = s.data.toList := by rw [hsl.out, List.take_length]
      rw [hl]
      generalize val s.data.toList = u at hR' ⊢
      by_cases hu : u ≤ 9223372036854775807
      · have hRu : R = u := by rw [hR'.out]; omega
        have hRu' := Lib.hid hRu
        clear hRu hl
        go_wp2
        go_ret
        exact ⟨ret_int (by rw [hRu'.out]), rfl⟩
      · have hRu : R = 9223372036854775807 := by rw [hR'.out]; omega
        have hRu' := Lib.hid hRu
        clear hRu hl
        go_wp2
        go_ret
        exact ⟨ret_int (by rw [hRu'.out]; rfl), rfl⟩
end Go.Proofs.YtalnjlodldhfbaaGreatDoor
