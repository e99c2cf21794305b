/-
  host.Default and host.Port, and the reference's. Conditions: the texts are no longer than any text may be.
-/
import Derived.Test.YtohdhmdanllbjaaHostUnder
import Derived.Test.YtohdhmdanllbjaaAscNum
namespace Go.Proofs.Ytohdhmdanllbjaa
open Go.RowKit Go.Lib Go.Shelf

/-- The port of a scheme. -/
def hdefault (l : List UInt8) : Int := if l = [104, 116, 116, 112] then 80 else if l = [104, 116, 116, 112, 115] then 443 else 0

set_option maxHeartbeats 1000000 in
theorem default_any (s : ByteArray) (w : World) : Calls Try.prog 13 #[.string s] w fun e w' => e = .returned (.int .i64 (hdefault s.data.toList)) ∧ w' = w := by
  have hl : s.toList = s.data.toList := ByteArray.toList_eq s
  rw [← hl]
  clear hl
  generalize hR : hdefault s.toList = R
  have HR := Lib.hid hR
  clear hR
  by_cases h1 : s.toList = [104, 116, 116, 112]
  · have e : R = 80 := by rw [← HR.out, hdefault, if_pos h1]
    have b1 : (s.toList == [104, 116, 116, 112]) = true := by rw [h1]; rfl
    subst e
    clear h1
    go_enter Try.func13, Try.ntmps13
    go_wp2
    go_ret
    exact ⟨rfl, rfl⟩
  · have b1 : (s.toList == [104, 116, 116, 112]) = false := by rw [beq_eq_false_iff_ne]; exact h1
    by_cases h2 : s.toList = [104, 116, 116, 112, 115]
    · have e : R = 443 := by rw [← HR.out, hdefault, if_neg h1, if_pos h2]
      have b2 : (s.toList == [104, 116, 116, 112, 115]) = true := by rw [h2]; rfl
      subst e
      clear h1 h2
      go_enter Try.func13, Try.ntmps13
      go_wp2
      go_ret
      exact ⟨rfl, rfl⟩
    · have e : R = 0 := by rw [← HR.out, hdefault, if_neg h1, if_neg h2]
      have b2 : (s.toList == [104, 116, 116, 112, 115]) = false := by rw [beq_eq_false_iff_ne]; exact h2
      subst e
      clear h1 h2
      go_enter Try.func13, Try.ntmps13
      go_wp2
      go_ret
      exact ⟨rfl, rfl⟩

set_option maxHeartbeats 1000000 in
theorem prefixlite_any (s p : ByteArray) (w : World) :
    Calls Try.prog 25 #[.string s, .string p] w fun e w' => e = .returned (.bool (Lib.hasPrefix s.data.toList p.data.toList)) ∧ w' = w := by
  rw [← Lib.hasPrefix_of_take, ← Lib.size_eq, ← Lib.size_eq]
  go_enter Try.func25, Try.ntmps25
  go_wp2
  · rename_i h
    go_ret
    refine ⟨?_, rfl⟩
    show Ending.returned (Value.bool ((s.extract 0 p.size).toList == p.toList)) = _
    rw [Lib.extract_toList, Lib.toList_data]
    simp [h]
  · rename_i h
    go_ret
    refine ⟨?_, rfl⟩
    show Ending.returned (Value.bool false) = _
    simp [h]
set_option maxHeartbeats 1000000 in
theorem prefix_any (s p : ByteArray) (w : World) :
    Calls Try.prog 19 #[.string s, .string p] w fun e w' => e = .returned (.bool (Lib.hasPrefix s.data.toList p.data.toList)) ∧ w' = w := by
  go_enter Try.func19, Try.ntmps19
  go_wp2_with (go_at_call 25; refine (prefixlite_any _ _ _).mono ?_; rintro e w' ⟨rfl, hw⟩; subst hw)
  go_ret
  exact ⟨rfl, rfl⟩

/-- Is a text a port? -/
def portOk (l : List UInt8) : Bool := !Lib.hasPrefix l [48] && isNumber l && decide (val l ≤ 65535)
/-- The number of a port. -/
def portNum (l : List UInt8) : Nat := if portOk l then val l else 0

theorem port_no {l : List UInt8} (h : portOk l = false) : portNum l = 0 := by rw [portNum, h]; rfl
theorem port_yes {l : List UInt8} (h : portOk l = true) : portNum l = val l := by rw [portNum, h]; rfl

set_option maxRecDepth 100000 in
set_option maxHeartbeats 2000000 in
theorem port_any (s : ByteArray) (hs : s.size ≤ maxLen) (w : World) : Calls Try.prog 11 #[.string s] w fun e w' => e = .returned (.tuple #[.int .i64 (portNum s.data.toList : Nat), .bool (portOk s.data.toList)]) ∧ w' = w := by
  have h1 := fun W => prefix_any s ⟨#[48]⟩ W
  have h2 := fun W => number_any s hs 65536 (by unfold I63; omega) W
  change ∀ W, Calls _ _ _ _ (fun e w' => e = .returned (.bool (Lib.hasPrefix s.data.toList [48])) ∧ w' = W) at h1
  generalize s.data.toList = l at *
  by_cases g1 : Lib.hasPrefix l [48] = true
  · have e : portOk l = false := by rw [portOk, g1]; rfl
    rw [port_no e, e]
    rw [g1] at h1
    have H1 := Lib.hid h1
    clear h1 h2 g1 e
    go_enter Try.func11, Try.ntmps11
    go_wp2_with (go_at_call 19; refine (H1.out _).mono ?_; rintro e w' ⟨rfl, hw⟩; subst hw)
    go_ret2
    exact ⟨rfl, rfl⟩
  · have g1' : Lib.hasPrefix l [48] = false := Bool.eq_false_iff.2 g1
    rw [g1'] at h1
    have H1 := Lib.hid h1
    by_cases g2 : isNumber l = true
    · have hall : l.all digit = true := by rw [isNumber, Bool.and_eq_true] at g2; exact g2.1
      rw [number_full 65536 hall, g2] at h2
      by_cases g3 : val l ≤ 65535
      · have e : portOk l = true := by rw [portOk, g1', g2]; simpa using g3
        have e3 : min (val l) 65536 = val l := by omega
        rw [port_yes e, e]
        rw [e3] at h2
        have H2 := Lib.hid h2
        generalize val l = v at *
        clear h1 h2 g1 g1' g2 e hall e3
        go_enter Try.func11, Try.ntmps11
        go_wp2_with (first
          | (go_at_call 19; refine (H1.out _).mono ?_; rintro e w' ⟨rfl, hw⟩; subst hw)
          | (go_at_call 20; refine (H2.out _).mono ?_; rintro e w' ⟨rfl, hw⟩; subst hw))
        go_ret2
        exact ⟨rfl, rfl⟩
      · have e : portOk l = false := by rw [portOk, g1', g2]; simpa using g3
        have e3 : min (val l) 65536 = 65536 := by omega
        rw [port_no e, e]
        rw [e3] at h2
        have H2 := Lib.hid h2
        clear h1 h2 g1 g1' g2 e hall e3
        go_enter Try.func11, Try.ntmps11
        go_wp2_with (first
          | (go_at_call 19; refine (H1.out _).mono ?_; rintro e w' ⟨rfl, hw⟩; subst hw)
          | (go_at_call 20; refine (H2.out _).mono ?_; rintro e w' ⟨rfl, hw⟩; subst hw))
        go_ret2
        exact ⟨rfl, rfl⟩
    · have g2' : isNumber l = false := Bool.eq_false_iff.2 g2
      have e : portOk l = false := by rw [portOk, g2']; simp
      rw [port_no e, e]
      rw [g2'] at h2
      have H2 := Lib.hid h2
      generalize number l 65536 = v at *
      clear h1 h2 g1 g1' g2 g2' e
      go_enter Try.func11, Try.ntmps11
      go_wp2_with (first
        | (go_at_call 19; refine (H1.out _).mono ?_; rintro e w' ⟨rfl, hw⟩; subst hw)
        | (go_at_call 20; refine (H2.out _).mono ?_; rintro e w' ⟨rfl, hw⟩; subst hw))
      go_ret2
      exact ⟨rfl, rfl⟩
end Go.Proofs.Ytohdhmdanllbjaa
