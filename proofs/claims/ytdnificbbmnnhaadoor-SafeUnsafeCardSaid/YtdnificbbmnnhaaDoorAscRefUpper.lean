/-
  Upper letters as the reference has them. Conditions: those that each theorem states.
-/
import Derived.Test.YtdnificbbmnnhaaDoorAscRefCase
namespace Go.Proofs.YtdnificbbmnnhaaDoor
open Go.RowKit Go.Lib

set_option maxHeartbeats 2000000 in
set_option maxRecDepth 100000 in
theorem refUpper_any (s : ByteArray) (hs : s.size ≤ 140737488351232) (w : World) : Calls Tryd.prog 21 #[.string s] w fun e w' =>
    e = .returned (.string ⟨(s.data.toList.map (turn 97 122 224)).toArray⟩) ∧ Below w.heap.size w w' := by
  obtain ⟨i0, hi, hz0, hz1, hz2⟩ := info_parts Tryd.info8
  have h0 := Lib.hid (owns_lit w w.heap.size 5 #[] [] rfl Leb.Bytes.nil (by simp) (Nat.le_refl _))
  have hsl := Lib.hid (size_len s)
  obtain ⟨l, hl⟩ : ∃ l, l = s.data.toList := ⟨_, rfl⟩
  rw [← hl] at hsl
  obtain ⟨r, hr⟩ : ∃ r : ByteArray, r = ⟨(s.data.toList.map (turn 97 122 224)).toArray⟩ := ⟨_, rfl⟩
  rw [← hr]
  have hl' := Lib.hid hl
  have hr' := Lib.hid hr
  clear hr hl
  go_enter Tryd.func21, Tryd.ntmps21
  go_wp2
  go_loopw [3, 4] (fun v i wr => CaseRel w l (turn 97 122 224) v i wr) (fun _ i _ => s.size - (RowKit.intOf i).toNat)
  case atStart => exact ⟨0, Nat.zero_le _, rfl, h0.out, (Below.refl _ _).alloc (Nat.le_refl _) _⟩
  case round =>
    obtain ⟨k, hk, rfl, hown, hb⟩ := hrel
    rw [← hsl.out] at hk
    have hB := hb.size
    have hlen : (nums ((l.take k).map (turn 97 122 224))).length = k := by rw [nums_len, List.length_map, List.length_take, ← hsl.out]; omega
    have hown' := Lib.hid hown
    generalize hys : nums ((l.take k).map (turn 97 122 224)) = ys at hown hlen
    have hys' := Lib.hid hys
    have hlen' := Lib.hid hlen
    clear hys hlen
    by_cases hkn : k < s.size
    · have hkl : k < l.length := by rw [← hsl.out]; exact hkn
      have hat : ∀ h : k < s.size, s[k] = l[k] := fun h => by rw [byte_at s k h]; simp only [hl'.out]
      have hat' := Lib.hid hat
      have hbl := byte_lt s[k]
      clear hat
      rcases (show s[k].toNat < 97 ∨ (97 ≤ s[k].toNat ∧ s[k].toNat ≤ 122) ∨ 122 < s[k].toNat by omega) with h | ⟨h, h'⟩ | h
      · have hu : (s[k].toNat : Int) = (((turn 97 122 224) l[k]).toNat : Int) := by rw [← hat'.out hkn, turn, if_neg (by omega)]
        have hu' := Lib.hid hu
        have H2 := Lib.hid (holds_new wr 5 #[.int .u8 (s[k].toNat : Int)] [(s[k].toNat : Int)] rfl (one_byte (by omega) (by omega)) (by simp [maxLen]))
        clear hu
        go_wp2_with (at_builtin; refine wpList_append_bytes rfl (.tmp 24) (.tmp 26) 40 rfl w.heap.size 5 i0 Tryd.underlying40 hi hz0 hz1 hz2 _ ys rfl (hown.alloc _) _ 1 1 [(s[k].toNat : Int)] rfl H2.out (by rw [hlen'.out]; omega) (by simp; omega) ?_; intro v1 w1 hown1 hg1 hat1)
        go_roundw
        case rel =>
          rw [← hys'.out] at hown1
          exact case_step _ hkl hu'.out hown'.out hb hown1 hg1
        case measure => simp [RowKit.intOf]; omega
      · have hu : ((s[k].toNat : Int) - 32) = (((turn 97 122 224) l[k]).toNat : Int) := by rw [← hat'.out hkn, turn, if_pos ⟨by omega, by omega⟩, UInt8.toNat_ofNat']; omega
        have hu' := Lib.hid hu
        have H2 := Lib.hid (holds_new wr 5 #[.int .u8 ((s[k].toNat : Int) - 32)] [((s[k].toNat : Int) - 32)] rfl (one_byte (by omega) (by omega)) (by simp [maxLen]))
        clear hu
        go_wp2_with (at_builtin; refine wpList_append_bytes rfl (.tmp 24) (.tmp 26) 40 rfl w.heap.size 5 i0 Tryd.underlying40 hi hz0 hz1 hz2 _ ys rfl (hown.alloc _) _ 1 1 [((s[k].toNat : Int) - 32)] rfl H2.out (by rw [hlen'.out]; omega) (by simp; omega) ?_; intro v1 w1 hown1 hg1 hat1)
        go_roundw
        case rel =>
          rw [← hys'.out] at hown1
          exact case_step _ hkl hu'.out hown'.out hb hown1 hg1
        case measure => simp [RowKit.intOf]; omega
      · have hu : (s[k].toNat : Int) = (((turn 97 122 224) l[k]).toNat : Int) := by rw [← hat'.out hkn, turn, if_neg (by omega)]
        have hu' := Lib.hid hu
        have H2 := Lib.hid (holds_new wr 5 #[.int .u8 (s[k].toNat : Int)] [(s[k].toNat : Int)] rfl (one_byte (by omega) (by omega)) (by simp [maxLen]))
        clear hu
        go_wp2_with (at_builtin; refine wpList_append_bytes rfl (.tmp 24) (.tmp 26) 40 rfl w.heap.size 5 i0 Tryd.underlying40 hi hz0 hz1 hz2 _ ys rfl (hown.alloc _) _ 1 1 [(s[k].toNat : Int)] rfl H2.out (by rw [hlen'.out]; omega) (by simp; omega) ?_; intro v1 w1 hown1 hg1 hat1)
        go_roundw
        case rel =>
          rw [← hys'.out] at hown1
          exact case_step _ hkl hu'.out hown'.out hb hown1 hg1
        case measure => simp [RowKit.intOf]; omega
    · have e : k = s.size := by omega
      subst e
      obtain ⟨X, c, hv, hh⟩ := hown.holds
      subst hv
      have htext := run_text (P := Tryd.prog) 40 9 5 Tryd.underlying40 Tryd.underlying5 Tryd.underlying9 hh
      have hrr : strOfNums ys = r := by
        rw [← hys'.out, hr'.out, ← hl'.out, hsl.out, List.take_length]
        exact bytes_text _
      rw [hrr] at htext
      clear hrr hown hh
      go_wp2
      go_ret
      exact ⟨rfl, hb⟩
end Go.Proofs.YtdnificbbmnnhaaDoor
