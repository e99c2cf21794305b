/-
  The fixed fact of layer 21's law holds, under contracts of event's Book and of its Input. Conditions: those that each theorem states.
-/
import Derived.Test.YtodncamohimmmaaLow5
import Derived.Test.YtodncamohimmmaaLow8
namespace Go.Proofs.Ytodncamohimmmaa
open Go.RowKit Go.Lib Leb

theorem putE_tv : putE newB [] tv9 = (([5, 0, 5, 5], 0), k1_9) := by
  rw [putE_ok good_tv (by decide), enc_tv]
  rfl
theorem putE_fv : putE k1_9 [5, 0, 5, 5] fv9 = (([5, 0, 5, 5, 4, 3, 1], 0), k2_9) := by
  rw [putE_ok good_fv (by decide), enc_fv]
  rfl
theorem putE_gv : putE k2_9 [] gv9 = (([], 9), k2_9) := putE_order good_gv late_gv
theorem ok_k2 : k2_9.Ok := ok_k1.tell good_fv
theorem input_tv : inputE tv9 = (⟨4, 0, nil9, nil9, 0, 0, 0, 0, nil9, [], nil9, 0, [], nil9, 5⟩, true) := inputE_5 good_tv rfl
theorem bytes7 : Bytes [5, 0, 5, 5, 4, 3, 1] := by
  intro y hy
  simp at hy
  omega
theorem no_hds {w : World} {A : Option Addr} {m c : Nat} (h : Hds w A m c []) (S : Nat → Prop) : HdO w A m c [] S := ⟨h, fun g off _ h0 => by
  have := h.len
  simp at this
  omega⟩

set_option maxHeartbeats 32000000 in
set_option maxRecDepth 100000 in
theorem awake21_any {PB : World → Nat → (Nat → Prop) → Bk → Prop} (hs : BookTakes PB) (hin : ∀ (x : Ev) (A : Option Addr) (m c : Nat) (W : World), Hds W A m c x.hs → x.code ≤ 9223372036854775807 → Calls Try.prog 7 #[evv x A m c] W (InR W x)) (w : World) :
    Calls Try.prog 10 #[] w fun e w' => e = .returned (.bool true) ∧ Below w.heap.size w w' := by
  have hs' := Lib.hid hs.said
  have hput1 := fun b S W (hp : PB W b S newB) => hs.said.put b S newB Option.none 0 0 [] tv9 Option.none 0 0 W hp Bk.Ok.new (holds_nil W) (fun _ _ e => by cases e) (no_hds (hds_empty W _ _ (Nat.zero_le _) (fun _ => rfl)) _) (show (_ : Nat) < 18446744073709551616 by decide) (by decide) (by decide) (by decide)
  have hput2 := fun b S A c W (hp : PB W b S k1_9) hX ho => hs.said.put b S k1_9 A 4 c [5, 0, 5, 5] fv9 Option.none 0 0 W hp ok_k1 hX ho (no_hds (hds_empty W _ _ (Nat.zero_le _) (fun _ => rfl)) _) (show (_ : Nat) < 18446744073709551616 by decide) (by decide) (by decide) (by decide)
  have hput3 := fun b S W (hp : PB W b S k2_9) => hs.said.put b S k2_9 Option.none 0 0 [] gv9 Option.none 0 0 W hp ok_k2 (holds_nil W) (fun _ _ e => by cases e) (no_hds (hds_empty W _ _ (Nat.zero_le _) (fun _ => rfl)) _) (show (_ : Nat) < 18446744073709551616 by decide) (by decide) (by decide) (by decide)
  have htake1 := fun b S A c W (hp : PB W b S newB) hX ho => hs.take b S newB A 7 c [5, 0, 5, 5, 4, 3, 1] 0 W hp Bk.Ok.new hX ho (by decide) (by decide) (by decide) (by decide)
  have htake2 := fun b S A c W (hp : PB W b S k1_9) hX ho => hs.take b S k1_9 A 7 c [5, 0, 5, 5, 4, 3, 1] 4 W hp ok_k1 hX ho (by decide) (by decide) (by decide) (by decide)
  have hinp := fun A m c W h => hin tv9 A m c W h (by decide)
  rw [putE_tv] at hput1
  rw [putE_fv] at hput2
  rw [putE_gv] at hput3
  rw [take_tv] at htake1
  rw [take_fv] at htake2
  unfold InR at hinp
  rw [input_tv] at hinp
  unfold evv ecell12 at hput1 hput2 hput3 htake1 htake2 hinp
  unfold icell at hinp
  simp only [tv9, fv9, gv9, zev, nil9] at hput1 hput2 hput3 htake1 htake2 hinp
  rw [show ((5 : Nat) : Int) = 5 from rfl] at hput1 htake1 hinp
  rw [show ((0 : Nat) : Int) = 0 from rfl] at hput2 hput3 htake2
  replace hput1 := Lib.hid hput1
  replace hput2 := Lib.hid hput2
  replace hput3 := Lib.hid hput3
  replace htake1 := Lib.hid htake1
  replace htake2 := Lib.hid htake2
  replace hinp := Lib.hid hinp
  clear hs hin
  have t1 : True := trivial
  have t2 : True := trivial
  have t3 : True := trivial
  have t4 : True := trivial
  have t5 : True := trivial
  have t6 : True := trivial
  have t7 : True := trivial
  have t8 : True := trivial
  have t9 : True := trivial
  go_enter Try.func10, Try.ntmps10
  go_wp2_with (first
    | (go_at_call 14; have _t := t1; refine (hs'.out.new w).mono ?_; rintro e w1 ⟨kb, S, rfl, hp1, hlo1, hb1⟩; have hp1' := Lib.hid hp1; have hlo1' := Lib.hid hlo1; have hb1' := Lib.hid hb1; clear hp1 hlo1 hb1 t1 _t)
    | (go_at_call 14; have _t := t2; refine (hs'.out.new w1).mono ?_; rintro e w2 ⟨lb, S2, rfl, hp2, hlo2, hb2⟩; have hb2' := Lib.hid (below_then hb1'.out hb2); have hP2 := Lib.hid (show Pair2 PB w kb lb S S2 newB newB w2 from ⟨hs'.out.alt hp1'.out (alt_below hb2 fun _ => False) (fun _ _ h => h), hp2, Bk.Ok.new, Bk.Ok.new, fun j hj hR => by have h1 := hs'.out.low hp1'.out j hj; have h2 := hlo2 j hR; omega, hlo1'.out, fun j hR => by have h2 := hlo2 j hR; have := hb1'.out.size; omega⟩); clear hp2 hlo2 hb2 t2 _t)
    | (go_at_call 16; have _t := t3; refine (hput1.out kb S _ hP2.out.p).mono ?_; rintro e w3 ⟨r1, S3, rfl, hp3, ha3, hn3, hown3, hof3⟩; have hP3 := Lib.hid (hP2.out.first hs'.out hb2'.out.size hp3 ok_k1 ha3 hn3); have hb3 := Lib.hid (hb2'.out.trans (ha3.below hb2'.out.size hP2.out.newS)); obtain ⟨A1, c1, e1, hX1⟩ := hown3.holds; replace e1 : r1 = .slice A1 4 c1 := e1; subst e1; have hX3 := Lib.hid (show Holds w3 A1 4 c1 [5, 0, 5, 5] from hX1); have hof3' := Lib.hid (show Off S3 A1 4 from hof3.off); clear hp3 ha3 hn3 hown3 hX1 hof3 t3 _t)
    | (go_at_call 16; have _t := t4; refine (hput2.out kb S3 A1 c1 _ hP3.out.p hX3.out hof3'.out).mono ?_; rintro e w4 ⟨r2, S4, rfl, hp4, ha4, hn4, hown4, hof4⟩; have hP4 := Lib.hid (hP3.out.first hs'.out hb3.out.size hp4 ok_k2 ha4 hn4); have hb4 := Lib.hid (hb3.out.trans (ha4.below hb3.out.size hP3.out.newS)); have hr4 := out_pair (w := w) hs'.out hP3.out.p2 hb3.out.size hown4 hof4; obtain ⟨A2, c2, e2, hX2⟩ := hown4.holds; replace e2 : r2 = .slice A2 7 c2 := e2; subst e2; have hr4' := Lib.hid hr4; clear hp4 ha4 hn4 hown4 hX2 hof4 hr4 t4 _t)
    | (go_at_call 18; have _t := t5; refine (htake1.out lb S2 A2 c2 _ hP4.out.p2 hr4'.out.own.holdsAt hr4'.out.offR.off).mono ?_; rintro e w5 ⟨Ax, mx, cx, S5, rfl, hp5, ha5, hn5, hH5, hl5⟩; have hP5 := Lib.hid (hP4.out.second hs'.out hb4.out.size (hp5 (by simp)) ok_k1 ha5 hn5); have hb5 := Lib.hid (hb4.out.trans (ha5.below hb4.out.size hP4.out.newS2)); have hr5 := Lib.hid (hr4'.out.altR ha5 hn5); have hbE := Lib.hid (below_box w5 (.cells (ecell12 tv9 Ax mx cx) 25)); have hrow := Lib.hid (heap_alloc_new w5 (.cells (ecell12 tv9 Ax mx cx) 25)); have hHx := Lib.hid (hH5.later hbE.out); have hP6 := Lib.hid (hP5.out.later hs'.out hbE.out); have hr6 := Lib.hid (hr5.out.later hbE.out); have hb6 := Lib.hid (hb5.out.trans (hbE.out.mono hb5.out.size)); have hlx := Lib.hid (show w5.heap.size < (w5.alloc (.cells (ecell12 tv9 Ax mx cx) 25)).heap.size by simp); unfold ecell12 at hbE hHx hP6 hr6 hb6 hlx; simp only [tv9, zev, nil9] at hbE hHx hP6 hr6 hb6 hlx; rw [show ((5 : Nat) : Int) = 5 from rfl] at hbE hHx hP6 hr6 hb6 hlx; clear hp5 ha5 hn5 hH5 hl5 t5 _t)
    | (go_at_call 18; have _t := t6; refine (htake2.out lb S5 A2 c2 _ hP6.out.p2 hr6.out.own.holdsAt hr6.out.offR.off).mono ?_; rintro e w7 ⟨Ay, my, cy, S7, rfl, hp7, ha7, hn7, hH7, hl7⟩; have hP7 := Lib.hid (hP6.out.second hs'.out hb6.out.size (hp7 (by simp)) ok_k2 ha7 hn7); have hb7 := Lib.hid (hb6.out.trans (ha7.below hb6.out.size hP6.out.newS2)); have hr7 := Lib.hid (hr6.out.altR ha7 hn7); have hrow7 := Lib.hid ((ha7.block w5.heap.size hlx.out (fun hj => by have := hs'.out.low hP5.out.p2 _ hj; omega)).trans hrow.out); have hHx7 := Lib.hid (hHx.out.alt ha7 (no_hds hHx.out S5).off); have hlx7 := Lib.hid (Nat.lt_of_lt_of_le hlx.out ha7.size); have hbF := Lib.hid (below_box w7 (.cells (ecell12 fv9 Ay my cy) 25)); have hrowy := Lib.hid (heap_alloc_new w7 (.cells (ecell12 fv9 Ay my cy) 25)); have hP8 := Lib.hid (hP7.out.later hs'.out hbF.out); have hr8 := Lib.hid (hr7.out.later hbF.out); have hb8 := Lib.hid (hb7.out.trans (hbF.out.mono hb7.out.size)); have hly := Lib.hid (show w7.heap.size < (w7.alloc (.cells (ecell12 fv9 Ay my cy) 25)).heap.size by simp); have hrow8 := Lib.hid ((hbF.out.block w5.heap.size hlx7.out).trans hrow7.out); have hHx8 := Lib.hid (hHx7.out.later hbF.out); unfold ecell12 at hbF hP8 hr8 hb8 hly hrow8 hHx8; simp only [fv9, zev, nil9] at hbF hP8 hr8 hb8 hly hrow8 hHx8; rw [show ((0 : Nat) : Int) = 0 from rfl] at hbF hP8 hr8 hb8 hly hrow8 hHx8; clear hp7 ha7 hn7 hH7 hl7 t6 _t)
    | (go_at_call 16; have _t := t7; refine (hput3.out kb S4 _ hP8.out.p).mono ?_; rintro e w9 ⟨r3, S9, rfl, hp9, ha9, hn9, hown9, hof9⟩; have hb9 := Lib.hid (hb8.out.trans (ha9.below hb8.out.size hP8.out.newS)); have hr9 := Lib.hid (hr8.out.altP ha9 hn9); have hevx9 := Lib.hid (EvAt.row ((ha9.block w5.heap.size (Nat.lt_of_lt_of_le hlx7.out hbF.out.size) (fun hj => by have := hs'.out.low hP5.out.p _ hj; omega)).trans hrow8.out) : EvAt w9 w5.heap.size tv9 Ax mx cx); have hevy9 := Lib.hid (EvAt.row ((ha9.block w7.heap.size hly.out (fun hj => by have := hs'.out.low hP7.out.p _ hj; omega)).trans hrowy.out) : EvAt w9 w7.heap.size fv9 Ay my cy); have hHx9 := Lib.hid (hHx8.out.alt ha9 (no_hds hHx8.out S4).off); clear hp9 ha9 hn9 hown9 hof9 t7 _t)
    | (refine wpList_loadV rfl _ _ rfl (.pointer (some ⟨w5.heap.size, 0, Option.none⟩)) (evv tv9 Ax mx cx) rfl (run_loadE12 _ w5.heap.size tv9 Ax mx cx hevx9.out) ?_; unfold evv ecell12; simp only [tv9, zev, nil9])
    | (go_at_call 7; refine (hinp.out Ax mx cx _ hHx9.out).mono ?_; rintro e w10 ⟨B1, n1, d1, B2, n2, d2, rfl, _, _, hb10⟩; have hbI := Lib.hid (below_then hb10 (below_box w10 (.cells #[.int .i64 4, .int .i64 0, .string ⟨#[]⟩, .string ⟨#[]⟩, .int .i64 0, .int .i64 0, .int .i64 0, .int .i64 0, .string ⟨#[]⟩, .slice B1 n1 d1, .string ⟨#[]⟩, .int .i64 0, .slice B2 n2 d2, .string ⟨#[]⟩, .int .u64 5] 31))); have hX11 := Lib.hid ((hr9.out.later hbI.out).own.holdsAt); have hevx11 := Lib.hid (hevx9.out.later hbI.out); have hevy11 := Lib.hid (hevy9.out.later hbI.out); have hrowI := Lib.hid (heap_alloc_new w10 (.cells #[.int .i64 4, .int .i64 0, .string ⟨#[]⟩, .string ⟨#[]⟩, .int .i64 0, .int .i64 0, .int .i64 0, .int .i64 0, .string ⟨#[]⟩, .slice B1 n1 d1, .string ⟨#[]⟩, .int .i64 0, .slice B2 n2 d2, .string ⟨#[]⟩, .int .u64 5] 31)); have hb11 := Lib.hid (hb9.out.trans (hbI.out.mono hb9.out.size)))
    | (have _t := t8; refine wpList_convV rfl _ _ _ rfl (.slice A2 7 c2) (.string (strOfNums [5, 0, 5, 5, 4, 3, 1])) rfl (run_text _ _ 5 Try.underlying43 Try.underlying5 Try.underlying9 hX11.out) ?_; clear t8 _t)
    | (have _t := t9; refine wpList_convV rfl _ _ _ rfl (.slice (some ⟨w10.heap.size + 1, 0, Option.none⟩) 7 7) (.string (strOfNums [5, 0, 5, 5, 4, 3, 1])) rfl (text_new _ _ 5 Try.underlying43 Try.underlying5 Try.underlying9 (w10.alloc (.cells #[.int .i64 4, .int .i64 0, .string ⟨#[]⟩, .string ⟨#[]⟩, .int .i64 0, .int .i64 0, .int .i64 0, .int .i64 0, .string ⟨#[]⟩, .slice B1 n1 d1, .string ⟨#[]⟩, .int .i64 0, .slice B2 n2 d2, .string ⟨#[]⟩, .int .u64 5] 31)) (w10.heap.size + 1) (by simp) #[.int .u8 5, .int .u8 0, .int .u8 5, .int .u8 5, .int .u8 4, .int .u8 3, .int .u8 1] [5, 0, 5, 5, 4, 3, 1] 7 7 rfl bytes7 rfl rfl (by decide)) ?_; have hbB := Lib.hid (below_box (w10.alloc (.cells #[.int .i64 4, .int .i64 0, .string ⟨#[]⟩, .string ⟨#[]⟩, .int .i64 0, .int .i64 0, .int .i64 0, .int .i64 0, .string ⟨#[]⟩, .slice B1 n1 d1, .string ⟨#[]⟩, .int .i64 0, .slice B2 n2 d2, .string ⟨#[]⟩, .int .u64 5] 31)) (.cells #[.int .u8 5, .int .u8 0, .int .u8 5, .int .u8 5, .int .u8 4, .int .u8 3, .int .u8 1] 5)); have f1 : ((w10.alloc (.cells #[.int .i64 4, .int .i64 0, .string ⟨#[]⟩, .string ⟨#[]⟩, .int .i64 0, .int .i64 0, .int .i64 0, .int .i64 0, .string ⟨#[]⟩, .slice B1 n1 d1, .string ⟨#[]⟩, .int .i64 0, .slice B2 n2 d2, .string ⟨#[]⟩, .int .u64 5] 31)).alloc (.cells #[.int .u8 5, .int .u8 0, .int .u8 5, .int .u8 5, .int .u8 4, .int .u8 3, .int .u8 1] 5)).cell? ⟨w5.heap.size, 11, Option.none⟩ = some (.int .u64 5) := (hevx11.out.later hbB.out).c11; have f2 : ((w10.alloc (.cells #[.int .i64 4, .int .i64 0, .string ⟨#[]⟩, .string ⟨#[]⟩, .int .i64 0, .int .i64 0, .int .i64 0, .int .i64 0, .string ⟨#[]⟩, .slice B1 n1 d1, .string ⟨#[]⟩, .int .i64 0, .slice B2 n2 d2, .string ⟨#[]⟩, .int .u64 5] 31)).alloc (.cells #[.int .u8 5, .int .u8 0, .int .u8 5, .int .u8 5, .int .u8 4, .int .u8 3, .int .u8 1] 5)).cell? ⟨w5.heap.size, 2, Option.none⟩ = some (.int .i64 5) := (hevx11.out.later hbB.out).c2; have f3 : ((w10.alloc (.cells #[.int .i64 4, .int .i64 0, .string ⟨#[]⟩, .string ⟨#[]⟩, .int .i64 0, .int .i64 0, .int .i64 0, .int .i64 0, .string ⟨#[]⟩, .slice B1 n1 d1, .string ⟨#[]⟩, .int .i64 0, .slice B2 n2 d2, .string ⟨#[]⟩, .int .u64 5] 31)).alloc (.cells #[.int .u8 5, .int .u8 0, .int .u8 5, .int .u8 5, .int .u8 4, .int .u8 3, .int .u8 1] 5)).cell? ⟨w7.heap.size, 1, Option.none⟩ = some (.int .i64 3) := (hevy11.out.later hbB.out).c1; have f4 : ((w10.alloc (.cells #[.int .i64 4, .int .i64 0, .string ⟨#[]⟩, .string ⟨#[]⟩, .int .i64 0, .int .i64 0, .int .i64 0, .int .i64 0, .string ⟨#[]⟩, .slice B1 n1 d1, .string ⟨#[]⟩, .int .i64 0, .slice B2 n2 d2, .string ⟨#[]⟩, .int .u64 5] 31)).alloc (.cells #[.int .u8 5, .int .u8 0, .int .u8 5, .int .u8 5, .int .u8 4, .int .u8 3, .int .u8 1] 5)).cell? ⟨w7.heap.size, 2, Option.none⟩ = some (.int .i64 6) := (hevy11.out.later hbB.out).c2; have f5 : ((w10.alloc (.cells #[.int .i64 4, .int .i64 0, .string ⟨#[]⟩, .string ⟨#[]⟩, .int .i64 0, .int .i64 0, .int .i64 0, .int .i64 0, .string ⟨#[]⟩, .slice B1 n1 d1, .string ⟨#[]⟩, .int .i64 0, .slice B2 n2 d2, .string ⟨#[]⟩, .int .u64 5] 31)).alloc (.cells #[.int .u8 5, .int .u8 0, .int .u8 5, .int .u8 5, .int .u8 4, .int .u8 3, .int .u8 1] 5)).cell? ⟨w10.heap.size, 0, Option.none⟩ = some (.int .i64 4) := cell_later hbB.out (by rw [cell_of_row _ _ _ _ _ _ hrowI.out]; rfl); clear t9 _t))
  go_ret
  exact ⟨rfl, hb11.out.trans ((below_box _ _).mono hb11.out.size)⟩
end Go.Proofs.Ytodncamohimmmaa
