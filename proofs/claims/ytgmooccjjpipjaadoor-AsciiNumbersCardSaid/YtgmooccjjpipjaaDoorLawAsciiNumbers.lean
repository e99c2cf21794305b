/-
  The walk of AsciiNumbers: it returns true, and nothing that was there is changed. Conditions: what the frame of the proof hands over.
-/
import Derived.Test.YtgmooccjjpipjaaDoorAscAwake
import Derived.Test.YtgmooccjjpipjaaDoorAscRefNum
namespace Go.Proofs.YtgmooccjjpipjaaDoor
open Go.RowKit Go.Lib

set_option maxHeartbeats 4000000 in
set_option maxRecDepth 100000 in
theorem asciiNumbers_law (s : ByteArray) (hs : s.size ≤ 140737488351232) (x : Int) (hx : x ≤ 9223372036854775807) (w : World) (hm : Lim w) :
    Calls Tryd.prog 5 #[.string s, .int .i64 x] w (Yes w) := by
  have hmax : s.size ≤ maxLen := by simp only [maxLen]; omega
  have h0 := awake4_any w hm
  by_cases h : x < 0
  · go_enter Tryd.func5, Tryd.ntmps5
    go_wp2_with (go_at_call 7; refine h0.mono ?_; rintro e w1 ⟨rfl, hb1⟩)
    go_ret
    exact ⟨rfl, hb1⟩
  · obtain ⟨M, rfl⟩ : ∃ M : Nat, x = M := ⟨x.toNat, by omega⟩
    have hM : I63 M := by unfold I63; omega
    have h1 := Lib.hid (fun W => number_any s hmax M hM W)
    have h2 := Lib.hid (fun W => refNumber_any s hmax M hM W)
    generalize number s.data.toList M = n at h1 h2
    generalize isNumber s.data.toList = b at h1 h2
    clear hx
    go_enter Tryd.func5, Tryd.ntmps5
    go_wp2_with (first
      | (go_at_call 7; refine h0.mono ?_; rintro e w1 ⟨rfl, hb1⟩)
      | (go_at_call 19; refine (h1.out _).mono ?_; rintro e w' ⟨rfl, hw⟩; have hw2 := hw.symm; subst hw2)
      | (go_at_call 20; refine (h2.out _).mono ?_; rintro e w' ⟨rfl, hw⟩; have hw2 := hw.symm; subst hw2))
    go_ret
    refine ⟨ret_bool ?_, hb1⟩
    simp
end Go.Proofs.YtgmooccjjpipjaaDoor
