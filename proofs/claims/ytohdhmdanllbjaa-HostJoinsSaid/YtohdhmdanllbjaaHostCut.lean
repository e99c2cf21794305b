/-
  strings.Cut at a dot: what stands ahead of the first dot, what stands behind it, and whether there is one. Conditions: those that each theorem states.
-/
import Derived.Test.YtohdhmdanllbjaaHostPart
namespace Go.Proofs.Ytohdhmdanllbjaa
open Go.RowKit Go.Lib

theorem indexByte_in (s : ByteArray) (c : Int) (w : World) : Calls Try.prog 30 #[.string s, .int .u8 c] w fun e w' => e = .returned (.int .i64 (Lib.indexByte s.data.toList c.toNat.toUInt8)) ∧ w' = w := by
  go_enter Try.func30, Try.ntmps30
  go_wp2
  rw [run_callFunc_extern Try.func34 (by kernel_rfl) (by kernel_rfl) (by kernel_rfl) (e := Extern.BytealgIndexByte.indexByte) (by kernel_rfl), Lib.run_indexByteString]
  simp only [Result.andThen]
  rw [Oper.upon_value]
  go_wp2
  go_ret
  exact ⟨rfl, rfl⟩

set_option maxHeartbeats 2000000 in
set_option maxRecDepth 100000 in
theorem index_in (s : ByteArray) (w : World) : Calls Try.prog 29 #[.string s, .string ⟨#[46]⟩] w fun e w' => e = .returned (.int .i64 (Lib.indexByte s.data.toList 46)) ∧ w' = w := by
  have h0 := indexByte_in s 46
  have e0 : (46 : Int).toNat.toUInt8 = 46 := by decide
  rw [e0] at h0
  clear e0
  generalize hi : Lib.indexByte s.data.toList 46 = i at *
  have hi' := Lib.hid hi
  have h0' := Lib.hid h0
  clear hi h0
  go_enter Try.func29, Try.ntmps29
  go_wp2_with (go_at_call 30; refine (h0'.out _).mono ?_; rintro e w' ⟨rfl, hw⟩; subst hw)
  · go_ret
    have he : ([46] == s.toList) = true := by assumption
    refine ⟨ret_int ?_, rfl⟩
    rw [← hi'.out, ← ByteArray.toList_eq, ← eq_of_beq he]
    decide
  · go_ret
    exact ⟨rfl, rfl⟩

set_option maxHeartbeats 2000000 in
set_option maxRecDepth 100000 in
theorem cutlite_none (s : ByteArray) (h : Lib.indexByte s.data.toList 46 = -1) (w : World) : Calls Try.prog 28 #[.string s, .string ⟨#[46]⟩] w fun e w' => e = .returned (.tuple #[.string s, .string ⟨#[]⟩, .bool false]) ∧ w' = w := by
  have h0 := fun W => index_in s W
  rw [h] at h0
  have h0' := Lib.hid h0
  clear h h0
  go_enter Try.func28, Try.ntmps28
  go_wp2_with (go_at_call 29; refine (h0'.out _).mono ?_; rintro e w' ⟨rfl, hw⟩; subst hw)
  go_ret3
  exact ⟨rfl, rfl⟩

set_option maxHeartbeats 2000000 in
set_option maxRecDepth 100000 in
theorem cutlite_hit (s : ByteArray) (hs : s.size ≤ maxLen) (i : Nat) (h : Lib.indexByte s.data.toList 46 = i) (hi : i < s.size) (w : World) : Calls Try.prog 28 #[.string s, .string ⟨#[46]⟩] w fun e w' => e = .returned (.tuple #[.string (s.extract 0 i), .string (s.extract (i + 1) s.size), .bool true]) ∧ w' = w.drew := by
  have hm : s.size ≤ 9223372036854775807 := by unfold maxLen at hs; exact hs
  have h0 := fun W => index_in s W
  rw [h] at h0
  have h0' := Lib.hid h0
  clear h h0
  have c1 : (0 : Int) ≤ ↑i := by omega
  have c2 : (↑i : Int) ≤ ↑s.size := by omega
  have c3 : (0 : Int) ≤ ↑i + 1 := by omega
  have c4 : (↑i + 1 : Int) ≤ ↑s.size := by omega
  go_enter Try.func28, Try.ntmps28
  go_wp2_with (go_at_call 29; refine (h0'.out _).mono ?_; rintro e w' ⟨rfl, hw⟩; subst hw)
  go_region
  go_wp2
  go_ret3
  exact ⟨rfl, rfl⟩

set_option maxHeartbeats 1000000 in
theorem cut_none (s : ByteArray) (h : Lib.indexByte s.data.toList 46 = -1) (w : World) : Calls Try.prog 22 #[.string s, .string ⟨#[46]⟩] w fun e w' => e = .returned (.tuple #[.string s, .string ⟨#[]⟩, .bool false]) ∧ w' = w := by
  have h0 := Lib.hid (fun W => cutlite_none s h W)
  clear h
  go_enter Try.func22, Try.ntmps22
  go_wp2_with (go_at_call 28; refine (h0.out _).mono ?_; rintro e w' ⟨rfl, hw⟩; subst hw)
  go_ret3
  exact ⟨rfl, rfl⟩

set_option maxHeartbeats 1000000 in
theorem cut_hit (s : ByteArray) (hs : s.size ≤ maxLen) (i : Nat) (h : Lib.indexByte s.data.toList 46 = i) (hi : i < s.size) (w : World) : Calls Try.prog 22 #[.string s, .string ⟨#[46]⟩] w fun e w' => e = .returned (.tuple #[.string (s.extract 0 i), .string (s.extract (i + 1) s.size), .bool true]) ∧ w' = w.drew := by
  have h0 := Lib.hid (fun W => cutlite_hit s hs i h hi W)
  clear h
  go_enter Try.func22, Try.ntmps22
  go_wp2_with (go_at_call 28; refine (h0.out _).mono ?_; rintro e w' ⟨rfl, hw⟩; subst hw)
  go_ret3
  exact ⟨rfl, rfl⟩
end Go.Proofs.Ytohdhmdanllbjaa
