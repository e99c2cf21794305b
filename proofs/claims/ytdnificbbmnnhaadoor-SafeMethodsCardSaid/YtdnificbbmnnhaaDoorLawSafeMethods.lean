/-
  The walk of the statement SafeMethods: for any string it returns true, and nothing that was there is changed.
-/
import Derived.Test.YtdnificbbmnnhaaDoorSafeAwake
namespace Go.Proofs.YtdnificbbmnnhaaDoor
open Go.RowKit Go.Lib Go.Shelf

set_option maxHeartbeats 4000000 in
set_option maxRecDepth 100000 in
theorem safeMethods_law (s : ByteArray) (hs : s.size ≤ 140737488351232) (w : World) :
    Calls Tryd.prog 3 #[.string s] w (Yes w) := by
  have hm : s.size ≤ maxLen := by simp only [maxLen]; omega
  have h1 := Lib.hid (fun W => method_any s hm W)
  have h2 := Lib.hid (fun W => refMethod_any s hs W)
  have h3 := Lib.hid (fun W => bad_any s hm W)
  have h4 := Lib.hid (fun W => refBad_any s hs W)
  have h5 := Lib.hid (fun W => simple_any s W)
  have h6 := Lib.hid (fun W => refSimple_any s W)
  generalize methodOf s = t at h1 h2
  generalize isIn (mk (hi s)) banned = b1 at h3 h4
  generalize isIn s simple = b2 at h5 h6
  go_enter Tryd.func3, Tryd.ntmps3
  go_wp2_with (first
    | (go_at_call 6; refine (awake10_any _).mono ?_; rintro e w1 ⟨rfl, hb1⟩)
    | (go_at_call 7; refine (h1.out _).mono ?_; rintro e w2 ⟨rfl, hb2⟩)
    | (go_at_call 8; refine (h2.out _).mono ?_; rintro e w3 ⟨rfl, hb3⟩)
    | (go_at_call 9; refine (h3.out _).mono ?_; rintro e w4 ⟨rfl, hb4⟩)
    | (go_at_call 10; refine (h4.out _).mono ?_; rintro e w5 ⟨rfl, hb5⟩)
    | (go_at_call 11; refine (h5.out _).mono ?_; rintro e w' ⟨rfl, hw⟩; subst hw)
    | (go_at_call 12; refine (h6.out _).mono ?_; rintro e w6 ⟨rfl, hb6⟩))
  go_ret
  exact ⟨ret_bool (by simp), below_then (below_then (below_then (below_then (below_then hb1 hb2) hb3) hb4) hb5) hb6⟩
end Go.Proofs.YtdnificbbmnnhaaDoor
