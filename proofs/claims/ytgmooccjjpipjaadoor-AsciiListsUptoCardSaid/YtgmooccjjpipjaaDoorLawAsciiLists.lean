/-
  The walk of AsciiLists: it returns true, and nothing that was there is changed. Conditions: at most 2^32 - 16 bytes (the library's contract of strings.Split), and what the frame of the proof hands over.
-/
import Derived.Test.YtgmooccjjpipjaaDoorAscAwake
import Derived.Test.YtgmooccjjpipjaaDoorAscRefList
namespace Go.Proofs.YtgmooccjjpipjaaDoor
open Go.RowKit Go.Lib

set_option maxHeartbeats 4000000 in
set_option maxRecDepth 100000 in
theorem asciiLists_law (s : ByteArray) (hs : s.size < 4294967281) (w : World) (hm : Lim w) : Calls Tryd.prog 4 #[.string s] w (Yes w) := by
  have h0 := awake4_any w hm
  have h1 := Lib.hid (fun W h => list_any s hs W h)
  have h2 := Lib.hid (fun W => refList_any s hs W)
  have hl : (listOf s.data.toList).length ≤ 9223372036854775807 := by
    have h3 := clean_len (cutAt s.data.toList)
    have h4 := cut_len s.data.toList
    rw [← size_len] at h4
    unfold listOf
    omega
  generalize listOf s.data.toList = L at h1 h2 hl
  obtain ⟨n, hn⟩ : ∃ n, n = L.length := ⟨_, rfl⟩
  have hn' := Lib.hid hn
  clear hn
  go_enter Tryd.func4, Tryd.ntmps4
  go_wp2_with (first
    | (go_at_call 7; refine h0.mono ?_; rintro e w1 ⟨rfl, hb1⟩)
    | (go_at_call 17; refine (h1.out _ (hm.later hb1)).mono ?_; rintro e w2 ⟨v, rfl, hown, hb2⟩; obtain ⟨X, c, hv, hT⟩ := hown.texts; rw [← hn'.out] at hv hT; subst hv; have hT' := Lib.hid hT; clear hown hT)
    | (go_at_call 18; refine (h2.out _).mono ?_; rintro e w3 ⟨v, rfl, hown, hb3⟩; obtain ⟨Y, d, hv, hU⟩ := hown.texts; rw [← hn'.out] at hv hU; subst hv; have hU' := Lib.hid hU; clear hown hU)
    | (go_at_call 16; refine (same_any X Y n n c d L L _ (hT'.out.later hb3) hU'.out (by rw [hn'.out]; exact hl) (by rw [hn'.out]; exact hl)).mono ?_; rintro e w4 ⟨rfl, hb4⟩))
  go_ret
  refine ⟨ret_bool ?_, below_next (below_next (below_next hb1 hb2) hb3) hb4⟩
  simp
end Go.Proofs.YtgmooccjjpipjaaDoor
