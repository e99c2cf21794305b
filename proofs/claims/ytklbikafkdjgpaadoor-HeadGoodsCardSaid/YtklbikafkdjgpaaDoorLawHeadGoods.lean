/-
  The walk of the statement HeadGoods: for any list of headers and any string it returns true, and nothing that was there is changed.
-/
import Derived.Test.YtklbikafkdjgpaaDoorHeadAwake
namespace Go.Proofs.YtklbikafkdjgpaaDoor
open Go.RowKit Go.Lib Go.Shelf

set_option maxHeartbeats 4000000 in
set_option maxRecDepth 100000 in
theorem headGoods_law (A : Option Addr) (n c : Nat) (l : List Hd) (s : ByteArray) (w : World) (h : Hds w A n c l) (hB : Fits l) (hs : s.size ≤ 140737488351232) :
    Calls Tryd.prog 3 #[.slice A n c, .string s] w (Yes w) := by
  have hm : s.size ≤ maxLen := by simp only [maxLen]; omega
  have hB' : Short maxLen (l.take 30) := (hB.mono (by simp only [maxLen]; omega)).take 30
  have h30 := h.few
  have hfew := Lib.hid (fun W (hb : Below w.heap.size w W) => few_any A n c l W (h.later hb))
  have hg := Lib.hid (fun W (hb : Below w.heap.size w W) => goodList_any A (min n 30) c (l.take 30) W (h30.later hb) hB')
  have hr := Lib.hid (fun W (hb : Below w.heap.size w W) => refGood9_any A (min n 30) c (l.take 30) W (h30.later hb) hB')
  have hn := Lib.hid (fun W => name_any s hm W)
  have hrn := Lib.hid (fun W => refName_any s hm W)
  have hv := Lib.hid (fun W => value_any s hm W)
  have hrv := Lib.hid (fun W => refValue_any s hm W)
  clear h h30 hB hB'
  generalize goodOk (l.take 30) = b1 at hg hr
  generalize nameOk s = b2 at hn hrn
  generalize valueOk s = b3 at hv hrv
  generalize min n 30 = m at hfew hg hr
  go_enter Tryd.func3, Tryd.ntmps3
  go_wp2_with (first
    | (go_at_call 6; refine (awake9_any _).mono ?_; rintro e w1 ⟨rfl, hb1⟩)
    | (go_at_call 8; with_reducible refine (hfew.out w1 hb1).mono ?_; rintro e w' ⟨rfl, hw⟩; subst hw)
    | (go_at_call 7; refine (hg.out _ hb1).mono ?_; rintro e w2 ⟨rfl, hb2⟩; have hb12 := below_then hb1 hb2)
    | (go_at_call 8; refine (hfew.out w2 hb12).mono ?_; rintro e w' ⟨rfl, hw⟩; subst hw)
    | (go_at_call 9; refine (hr.out _ hb12).mono ?_; rintro e w' ⟨rfl, hw⟩; subst hw)
    | (go_at_call 10; refine (hn.out _).mono ?_; rintro e w' ⟨rfl, hw⟩; subst hw)
    | (go_at_call 11; refine (hrn.out _).mono ?_; rintro e w' ⟨rfl, hw⟩; subst hw)
    | (go_at_call 12; refine (hv.out _).mono ?_; rintro e w3 ⟨rfl, hb3⟩)
    | (go_at_call 13; refine (hrv.out _).mono ?_; rintro e w' ⟨rfl, hw⟩; subst hw))
  go_ret
  exact ⟨ret_bool (by simp), below_then hb12 hb3⟩
end Go.Proofs.YtklbikafkdjgpaaDoor
