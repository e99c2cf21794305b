/-
  The walk of the statement PreAsks: for any origin, method and list of headers it returns true, and nothing that was there is changed. Condition: the names' and values' bytes, together with the number of headers, are at most 1048576, and the library's variable that strings.Split may read holds an int.
-/
import Derived.Test.YtalnjlodldhfbaaGreatDoorPreAwake
import Derived.Test.YtalnjlodldhfbaaGreatDoorPreRefAsk
import Derived.Test.YtalnjlodldhfbaaGreatDoorLow
namespace Go.Proofs.YtalnjlodldhfbaaGreatDoor
open Go.RowKit Go.Lib Go.Shelf

theorem short_in {l : List Hd} {B B' : Nat} (h : bytesIn l ≤ B) (hB : B ≤ B') : Short B' l := fun x hx => by
  have := bytesIn_mem hx
  omega

set_option maxHeartbeats 8000000 in
set_option maxRecDepth 100000 in
theorem preAsks_law (s x : ByteArray) (A : Option Addr) (n0 c : Nat) (l0 : List Hd) (w : World) (_hs : s.size < 4294967281) (_hx : x.size < 4294967281) (h : Hds w A n0 c l0) (hb0 : bytesIn l0 ≤ 1048576) (hm : Lim w) :
    Calls Tryz.prog 3 #[.string s, .string x, .slice A n0 c] w (Yes w) := by
  have h30 := Lib.hid h.few
  have hbl : bytesIn (l0.take 30) ≤ 1048576 := Nat.le_trans (bytesIn_take _ _) hb0
  have hfew := Lib.hid (fun W (hb : Below w.heap.size w W) => (few14_any A n0 c l0 W (h.later hb)).mono fun e w' q => show e = .returned (.slice A (min n0 30) c) ∧ W = w' from And.intro q.1 q.2.symm)
  have hn30 : min n0 30 ≤ 30 := Nat.min_le_right _ _
  clear h hb0
  generalize l0.take 30 = l at h30 hbl
  generalize min n0 30 = n at h30 hfew hn30
  have hN := Lib.hid (fun W (hb : Below w.heap.size w W) => needs_any A n c l x W (h30.out.later hb) (by omega) (short_in hbl (by simp only [maxLen]; omega)))
  have hR := Lib.hid (fun W (hb : Below w.heap.size w W) => refNeeds_any A n c l x W (h30.out.later hb) (short_in hbl (by omega)))
  have hA := Lib.hid (fun W (hb : Below w.heap.size w W) => ask_any A n c l s x W (h30.out.later hb) (by omega) (short_in hbl (by simp only [maxLen]; omega)) (by omega))
  have hQ := Lib.hid (fun W (hb : Below w.heap.size w W) => refAsk_any A n c l s x W (h30.out.later hb) (by omega) (short_in hbl (by omega)) (by omega))
  clear hbl
  generalize needs x l = b at hN hR
  generalize asked s x (uns l) = q at hA hQ
  have hAw := Lib.hid (awake14_any w hm)
  clear hm
  go_enter Tryz.func3, Tryz.ntmps3
  go_wp2_with (first
    | (go_at_call 6; (with_reducible refine hAw.out.mono ?_); rintro e w1 ⟨rfl, hb1⟩; have B1 := Lib.hid hb1)
    | (go_at_call 7; (with_reducible refine (hN.out _ B1.out).mono ?_); rintro e w2 ⟨rfl, hb2⟩; have B2 := Lib.hid (below_then B1.out hb2))
    | (go_at_call 9; (with_reducible refine (hR.out _ B2.out).mono ?_); rintro e w3 ⟨rfl, hb3⟩; have B3 := Lib.hid (below_then B2.out hb3))
    | (go_at_call 11; (with_reducible refine (hA.out _ B3.out).mono ?_); rintro e w4 ⟨v4, rfl, ho4, hb4⟩; have B4 := Lib.hid (below_then B3.out hb4); obtain ⟨A4, n4, c4, rfl, hH4⟩ := ho4.hh; have H4 := Lib.hid hH4; clear ho4 hH4)
    | (go_at_call 12; (with_reducible refine (hQ.out _ B4.out).mono ?_); rintro e w5 ⟨v5, rfl, ho5, hb5⟩; have B5 := Lib.hid (below_then B4.out hb5); obtain ⟨A5, n5, c5, rfl, hH5⟩ := ho5.hh; have H5 := Lib.hid hH5; have H45 := Lib.hid (H4.out.later hb5); clear ho5 hH5)
    | (go_at_call 10; (with_reducible refine (same9_any _ _ _ _ _ _ _ _ H45.out H5.out).mono ?_); rintro e w6 ⟨rfl, hb6⟩; have B6 := Lib.hid (below_then B5.out hb6))
    | (go_at_call 8; (first | (with_reducible refine (hfew.out _ B4.out).mono ?_) | (with_reducible refine (hfew.out _ B3.out).mono ?_) | (with_reducible refine (hfew.out _ B2.out).mono ?_) | (with_reducible refine (hfew.out _ B1.out).mono ?_)); rintro e wf ⟨rfl, hw⟩; subst hw))
  go_ret
  exact ⟨rfl, B6.out⟩
end Go.Proofs.YtalnjlodldhfbaaGreatDoor
