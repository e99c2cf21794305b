/-
  The reference's SameEvent (layer 18), of equal events. Conditions: those that each theorem states.
-/
import Derived.Test.YtodncamohimmmaaLow3
import Derived.Test.YtodncamohimmmaaLow4
namespace Go.Proofs.Ytodncamohimmmaa
open Go.RowKit Go.Lib Leb

set_option maxHeartbeats 8000000 in
set_option maxRecDepth 100000 in
theorem sameE_any (x : Ev) (A B : Option Addr) (m n c d : Nat) (w : World) (ha : Hds w A m c x.hs) (hb : Hds w B n d x.hs) :
    Calls Try.prog 20 #[evv x A m c, evv x B n d] w fun e w' => e = .returned (.bool true) ∧ Below w.heap.size w w' := by
  have hsame := Lib.hid (fun W (hW : Below w.heap.size w W) => same9_any A B m n c d x.hs W (ha.later hW) (hb.later hW))
  have htwo := Lib.hid (two_boxes w x x A B m c n d 25 25)
  have hbel := Lib.hid (below_then (below_box w (.cells (ecell12 x A m c) 25)) (below_box _ (.cells (ecell12 x B n d) 25)))
  clear ha hb
  obtain ⟨kind, ses, tick, me, url, hs, body, status, code, cred, no, k⟩ := x
  unfold evv
  unfold ecell12 at *
  simp only at *
  go_enter Try.func20, Try.ntmps20
  go_wp2_with (first
    | (go_at_call 29; refine (hsame.out _ hbel.out).mono ?_; rintro e w2 ⟨rfl, hb2⟩; obtain ⟨x1, x2, x3⟩ := htwo.out _ hb2; have a6 := x1.c6; have a7 := x1.c7; have a8 := x1.c8; have a9 := x1.c9; have a10 := x1.c10; have a11 := x1.c11; have b6 := x2.c6; have b7 := x2.c7; have b8 := x2.c8; have b9 := x2.c9; have b10 := x2.c10; have b11 := x2.c11; have hx3 := Lib.hid x3; simp only at a6 a7 a8 a9 a10 a11 b6 b7 b8 b9 b10 b11; clear hb2 x1 x2 x3))
  go_ret
  exact ⟨rfl, hx3.out⟩
end Go.Proofs.Ytodncamohimmmaa
