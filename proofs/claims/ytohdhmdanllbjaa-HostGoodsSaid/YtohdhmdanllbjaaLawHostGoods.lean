/-
  The walk of HostGoods: it returns true, and nothing that was there is changed. Conditions: what the frame of the proof hands over.
-/
import Derived.Test.YtohdhmdanllbjaaHostAwake
import Derived.Test.YtohdhmdanllbjaaHostRefUnder
namespace Go.Proofs.Ytohdhmdanllbjaa
open Go.RowKit Go.Lib

set_option maxHeartbeats 4000000 in
set_option maxRecDepth 100000 in
theorem hostGoods_law (s : ByteArray) (hs : s.size ≤ 140737488351232) (t : ByteArray) (ht : t.size ≤ 140737488351232) (w : World) : Calls Try.prog 3 #[.string s, .string t] w (Yes w) := by
  have hs' : s.size ≤ maxLen := by simp only [maxLen]; omega
  have ht' : t.size ≤ maxLen := by simp only [maxLen]; omega
  have h0 := awake5_any w
  have h1 := Lib.hid (fun W => good_any s hs' W)
  have h2 := Lib.hid (fun W => refGood_any s hs' W)
  have h3 := Lib.hid (fun W => under_any s t hs' ht' W)
  have h4 := Lib.hid (fun W => refUnder_any s t hs' ht' W)
  generalize hgood s.data.toList = g at h1 h2
  generalize hunder s.data.toList t.data.toList = u at h3 h4
  go_enter Try.func3, Try.ntmps3
  go_wp2_with (first
    | (go_at_call 6; refine h0.mono ?_; rintro e w1 ⟨rfl, hb1⟩)
    | (go_at_call 7; refine (h1.out _).mono ?_; rintro e w2 ⟨rfl, hb2⟩)
    | (go_at_call 8; refine (h2.out _).mono ?_; rintro e w' ⟨rfl, hw⟩; have hw2 := hw.symm; subst hw2)
    | (go_at_call 9; refine (h3.out _).mono ?_; rintro e w3 ⟨rfl, hb3⟩)
    | (go_at_call 10; refine (h4.out _).mono ?_; rintro e w' ⟨rfl, hw⟩; have hw2 := hw.symm; subst hw2))
  go_ret
  refine ⟨ret_bool ?_, below_then (below_then hb1 hb2) hb3⟩
  simp
end Go.Proofs.Ytohdhmdanllbjaa
