/-
  The walk of AsciiTurns: it returns true, and nothing that was there is changed. Conditions: what the frame of the proof hands over.
-/
import Derived.Test.YtgmooccjjpipjaaDoorAscAwake
import Derived.Test.YtgmooccjjpipjaaDoorAscRefCase
import Derived.Test.YtgmooccjjpipjaaDoorAscSign
namespace Go.Proofs.YtgmooccjjpipjaaDoor
open Go.RowKit Go.Lib

theorem text_self (r : ByteArray) : (r.toList == r.toList) = true := by simp

set_option maxHeartbeats 4000000 in
set_option maxRecDepth 100000 in
theorem asciiTurns_law (s : ByteArray) (hs : s.size ≤ 140737488351232) (w : World) (hm : Lim w) : Calls Tryd.prog 3 #[.string s] w (Yes w) := by
  have hmax : s.size ≤ maxLen := by simp only [maxLen]; omega
  have h0 := awake4_any w hm
  have h1 := Lib.hid (fun W => lower_any s hmax W)
  have h2 := Lib.hid (fun W => refLower_any s hs W)
  have e1 := text_self (⟨(s.data.toList.map (turn 65 90 32)).toArray⟩ : ByteArray)
  generalize (⟨(s.data.toList.map (turn 65 90 32)).toArray⟩ : ByteArray) = r1 at h1 h2 e1
  have h3 := Lib.hid (fun W => upper_any s hmax W)
  have h4 := Lib.hid (fun W => refUpper_any s hs W)
  have e2 := text_self (⟨(s.data.toList.map (turn 97 122 224)).toArray⟩ : ByteArray)
  generalize (⟨(s.data.toList.map (turn 97 122 224)).toArray⟩ : ByteArray) = r2 at h3 h4 e2
  have h5 := Lib.hid (fun W => token_any s hmax W)
  have h6 := Lib.hid (fun W => refToken_any sign_any s hmax W)
  have h7 := Lib.hid (fun W => trim_any s hmax W)
  have h8 := Lib.hid (fun W => refTrim_any s hmax W)
  have e3 := text_self (⟨(trim s.data.toList).toArray⟩ : ByteArray)
  generalize (⟨(trim s.data.toList).toArray⟩ : ByteArray) = r3 at h7 h8 e3
  generalize token s.data.toList = tk at h5 h6
  go_enter Tryd.func3, Tryd.ntmps3
  go_wp2_with (first
    | (go_at_call 7; refine h0.mono ?_; rintro e w1 ⟨rfl, hb1⟩)
    | (go_at_call 8; refine (h1.out _).mono ?_; rintro e w2 ⟨rfl, hb2⟩)
    | (go_at_call 9; refine (h2.out _).mono ?_; rintro e w3 ⟨rfl, hb3⟩)
    | (go_at_call 10; refine (h3.out _).mono ?_; rintro e w4 ⟨rfl, hb4⟩)
    | (go_at_call 11; refine (h4.out _).mono ?_; rintro e w5 ⟨rfl, hb5⟩)
    | (go_at_call 12; refine (h5.out _).mono ?_; rintro e w' ⟨rfl, hw⟩; subst hw)
    | (go_at_call 13; refine (h6.out _).mono ?_; rintro e w' ⟨rfl, hw⟩; subst hw)
    | (go_at_call 14; refine (h7.out _).mono ?_; rintro e w7 ⟨rfl, hb7⟩)
    | (go_at_call 15; refine (h8.out _).mono ?_; rintro e w' ⟨rfl, hw⟩; subst hw))
  go_ret
  refine ⟨ret_bool ?_, below_next (below_next (below_next (below_next (below_next hb1 hb2) hb3) hb4) hb5) hb7⟩
  simp
end Go.Proofs.YtgmooccjjpipjaaDoor
