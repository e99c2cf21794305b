/-
  The walk of HostPorts: it returns true, and nothing that was there is changed. Conditions: what the frame of the proof hands over.
-/
import Derived.Test.YtohdhmdanllbjaaHostAwake
import Derived.Test.YtohdhmdanllbjaaHostRef
namespace Go.Proofs.Ytohdhmdanllbjaa
open Go.RowKit Go.Lib

set_option maxHeartbeats 4000000 in
set_option maxRecDepth 100000 in
theorem hostPorts_law (s : ByteArray) (hs : s.size ≤ 140737488351232) (t : ByteArray) (_ht : t.size ≤ 140737488351232) (w : World) : Calls Try.prog 4 #[.string s, .string t] w (Yes w) := by
  have hs' : s.size ≤ maxLen := by simp only [maxLen]; omega
  have h0 := awake5_any w
  have h1 := Lib.hid (fun W => port_any s hs' W)
  have h2 := Lib.hid (fun W => refPort_any s hs' W)
  have h3 := Lib.hid (fun W => default_any t W)
  have h4 := Lib.hid (fun W => refDefault_any t W)
  generalize portNum s.data.toList = n at h1 h2
  generalize portOk s.data.toList = b at h1 h2
  generalize hdefault t.data.toList = d at h3 h4
  go_enter Try.func4, Try.ntmps4
  go_wp2_with (first
    | (go_at_call 6; refine h0.mono ?_; rintro e w1 ⟨rfl, hb1⟩)
    | (go_at_call 11; refine (h1.out _).mono ?_; rintro e w' ⟨rfl, hw⟩; have hw2 := hw.symm; subst hw2)
    | (go_at_call 12; refine (h2.out _).mono ?_; rintro e w' ⟨rfl, hw⟩; have hw2 := hw.symm; subst hw2)
    | (go_at_call 13; refine (h3.out _).mono ?_; rintro e w' ⟨rfl, hw⟩; have hw2 := hw.symm; subst hw2)
    | (go_at_call 14; refine (h4.out _).mono ?_; rintro e w' ⟨rfl, hw⟩; have hw2 := hw.symm; subst hw2))
  go_ret
  refine ⟨ret_bool ?_, hb1⟩
  simp
end Go.Proofs.Ytohdhmdanllbjaa
