/-
  strings.Cut at one byte: what stands ahead of its first place, what stands behind it, and whether there is one. Conditions: those that each theorem states.
-/
import Derived.Test.YtalnjlodldhfbaaGreatDoorAscTrim
namespace Go.Proofs.YtalnjlodldhfbaaGreatDoor
open Go.RowKit Go.Lib

set_option maxRecDepth 100000 in
theorem indexByte_in (s : ByteArray) (c : Int) (w : World) : Calls Tryz.prog 90 #[.string s, .int .u8 c] w fun e w' => e = .returned (.int .i64 (Lib.indexByte s.data.toList c.toNat.toUInt8)) ∧ w' = w := by
  go_enter Tryz.func90, Tryz.ntmps90
  go_wp2
  rw [run_callFunc_extern Tryz.func108 (by kernel_rfl) (by kernel_rfl) (by kernel_rfl) (e := Extern.BytealgIndexByte.indexByte) (by kernel_rfl), Lib.run_indexByteString]
  simp only [Result.andThen]
  rw [Oper.upon_value]
  go_wp2
  go_ret
  exact ⟨rfl, rfl⟩

set_option maxHeartbeats 2000000 in
set_option maxRecDepth 100000 in
theorem index_in (s : ByteArray) (c : UInt8) (w : World) : Calls Tryz.prog 109 #[.string s, .string ⟨#[c]⟩] w fun e w' => e = .returned (.int .i64 (Lib.indexByte s.data.toList c)) ∧ w' = w := by
  have h0 := indexByte_in s (c.toNat : Int)
  have e0 : (c.toNat : Int).toNat.toUInt8 = c := by simp
  rw [e0] at h0
  clear e0
  generalize hi : Lib.indexByte s.data.toList c = i at *
  have hi' := Lib.hid hi
  have h0' := Lib.hid h0
  clear hi h0
  go_enter Tryz.func109, Tryz.ntmps109
  go_wp2_with (go_at_call 90; refine (h0'.out _).mono ?_; rintro e w' ⟨rfl, hw⟩; subst hw)
  · go_ret
    have he : ([c] == s.toList) = true := by assumption
    refine ⟨ret_int ?_, rfl⟩
    rw [← hi'.out, ← ByteArray.toList_eq, ← eq_of_beq he]
    simp [Lib.indexByte]
  · go_ret
    exact ⟨rfl, rfl⟩

set_option maxHeartbeats 2000000 in
set_option maxRecDepth 100000 in
theorem cutlite_none (s : ByteArray) (c : UInt8) (h : Lib.indexByte s.data.toList c = -1) (w : World) : Calls Tryz.prog 91 #[.string s, .string ⟨#[c]⟩] w fun e w' => e = .returned (.tuple #[.string s, .string ⟨#[]⟩, .bool false]) ∧ w' = w := by
  have h0 := fun W => index_in s c W
  rw [h] at h0
  have h0' := Lib.hid h0
  clear h h0
  go_enter Tryz.func91, Tryz.ntmps91
  go_wp2_with (go_at_call 109; refine (h0'.out _).mono ?_; rintro e w' ⟨rfl, hw⟩; subst hw)
  go_ret3
  exact ⟨rfl, rfl⟩

set_option maxHeartbeats 2000000 in
set_option maxRecDepth 100000 in
theorem cutlite_hit (s : ByteArray) (c : UInt8) (hs : s.size ≤ maxLen) (i : Nat) (h : Lib.indexByte s.data.toList c = i) (hi : i < s.size) (w : World) : Calls Tryz.prog 91 #[.string s, .string ⟨#[c]⟩] w fun e w' => e = .returned (.tuple #[.string (s.extract 0 i), .string (s.extract (i + 1) s.size), .bool true]) ∧ w' = w.drew := by
  have hm : s.size ≤ 9223372036854775807 := by unfold maxLen at hs; exact hs
  have h0 := fun W => index_in s c W
  rw [h] at h0
  have h0' := Lib.hid h0
  clear h h0
  have c1 : (0 : Int) ≤ ↑i := by omega
  have c2 : (↑i : Int) ≤ ↑s.size := by omega
  have c3 : (0 : Int) ≤ ↑i + 1 := by omega
  have c4 : (↑i + 1 : Int) ≤ ↑s.size := by omega
  go_enter Tryz.func91, Tryz.ntmps91
  go_wp2_with (go_at_call 109; refine (h0'.out _).mono ?_; rintro e w' ⟨rfl, hw⟩; subst hw)
  go_region
  go_wp2
  go_ret3
  exact ⟨rfl, rfl⟩

set_option maxHeartbeats 1000000 in
theorem cutAt_none (s : ByteArray) (c : UInt8) (h : Lib.indexByte s.data.toList c = -1) (w : World) : Calls Tryz.prog 73 #[.string s, .string ⟨#[c]⟩] w fun e w' => e = .returned (.tuple #[.string s, .string ⟨#[]⟩, .bool false]) ∧ w' = w := by
  have h0 := Lib.hid (fun W => cutlite_none s c h W)
  clear h
  go_enter Tryz.func73, Tryz.ntmps73
  go_wp2_with (go_at_call 91; refine (h0.out _).mono ?_; rintro e w' ⟨rfl, hw⟩; subst hw)
  go_ret3
  exact ⟨rfl, rfl⟩

set_option maxHeartbeats 1000000 in
theorem cutAt_hit (s : ByteArray) (c : UInt8) (hs : s.size ≤ maxLen) (i : Nat) (h : Lib.indexByte s.data.toList c = i) (hi : i < s.size) (w : World) : Calls Tryz.prog 73 #[.string s, .string ⟨#[c]⟩] w fun e w' => e = .returned (.tuple #[.string (s.extract 0 i), .string (s.extract (i + 1) s.size), .bool true]) ∧ w' = w.drew := by
  have h0 := Lib.hid (fun W => cutlite_hit s c hs i h hi W)
  clear h
  go_enter Tryz.func73, Tryz.ntmps73
  go_wp2_with (go_at_call 91; refine (h0.out _).mono ?_; rintro e w' ⟨rfl, hw⟩; subst hw)
  go_ret3
  exact ⟨rfl, rfl⟩

/-- What stands ahead of the first byte c. -/
def aheadOf (c : UInt8) (l : List UInt8) : List UInt8 := l.takeWhile (· != c)
theorem aheadOf_le (c : UInt8) (l : List UInt8) : (aheadOf c l).length ≤ l.length := (List.takeWhile_sublist _).length_le
theorem index_split (c : UInt8) (l : List UInt8) : (Lib.indexByte l c = -1 ∧ aheadOf c l = l) ∨ ∃ i : Nat, Lib.indexByte l c = i ∧ i < l.length ∧ aheadOf c l = l.take i := by
  induction l with
  | nil => exact .inl ⟨rfl, rfl⟩
  | cons x r ih =>
    by_cases hx : x = c
    · subst hx
      exact .inr ⟨0, by simp [Lib.indexByte], by simp, by simp [aheadOf]⟩
    · have hx' : (x == c) = false := by simpa using hx
      have ha : aheadOf c (x :: r) = x :: aheadOf c r := by simp [aheadOf, hx]
      rcases ih with ⟨h1, h2⟩ | ⟨i, h1, h2, h3⟩
      · exact .inl ⟨by simp [Lib.indexByte, hx', h1], by rw [ha, h2]⟩
      · refine .inr ⟨i + 1, ?_, by simpa using h2, by rw [ha, h3]; rfl⟩
        have : ¬ (i : Int) = -1 := by omega
        simp [Lib.indexByte, hx', h1, this]

theorem cutOne_any (s : ByteArray) (c : UInt8) (hs : s.size ≤ maxLen) (w : World) : Calls Tryz.prog 73 #[.string s, .string ⟨#[c]⟩] w fun e w' => ∃ y b, e = .returned (.tuple #[.string ⟨(aheadOf c s.data.toList).toArray⟩, .string y, .bool b]) ∧ Below w.heap.size w w' := by
  rcases index_split c s.data.toList with ⟨h1, h2⟩ | ⟨i, h1, h2, h3⟩
  · refine (cutAt_none s c h1 w).mono ?_
    rintro e w' ⟨rfl, rfl⟩
    refine ⟨⟨#[]⟩, false, ?_, Below.refl _ _⟩
    rw [h2, Lib.mk_data]
  · have hi : i < s.size := by rw [size_len]; exact h2
    refine (cutAt_hit s c hs i h1 hi w).mono ?_
    rintro e w' ⟨rfl, rfl⟩
    refine ⟨s.extract (i + 1) s.size, true, ?_, (Below.refl _ _).drew⟩
    have : s.extract 0 i = ⟨(aheadOf c s.data.toList).toArray⟩ := by
      rw [h3, ← Lib.mk_data (s.extract 0 i), Lib.extract_data]
      simp
    rw [this]
end Go.Proofs.YtalnjlodldhfbaaGreatDoor
