/-
  The walk of EventGoods, under contracts of event's Good and Input and of the fixed fact. Conditions: those that each theorem states.
-/
import Derived.Test.YtodncamohimmmaaLow5
import Derived.Test.YtodncamohimmmaaEvSameIn
import Derived.Test.YtodncamohimmmaaLow6
import Derived.Test.YtodncamohimmmaaLow25
namespace Go.Proofs.Ytodncamohimmmaa
open Go.RowKit Go.Lib Leb

structure EvSaid : Prop where
  good : ∀ (x : Ev) (A : Option Addr) (m c : Nat) (W : World), Hds W A m c x.hs → x.code ≤ 9223372036854775807 → Calls Try.prog 11 #[evv x A m c] W fun e w' => e = .returned (.bool (decide (GoodE x))) ∧ Below W.heap.size W w'
  input : ∀ (x : Ev) (A : Option Addr) (m c : Nat) (W : World), Hds W A m c x.hs → x.code ≤ 9223372036854775807 → Calls Try.prog 7 #[evv x A m c] W (InR W x)
  awake : ∀ W : World, Calls Try.prog 10 #[] W fun e w' => e = .returned (.bool true) ∧ Below W.heap.size W w'

theorem EvAt.block {w w' : World} {b : Nat} {x : Ev} {A : Option Addr} {m c : Nat} (h : EvAt w b x A m c) (hb : w'.heap[b]? = w.heap[b]?) : EvAt w' b x A m c := by
  have key : ∀ o, w'.cell? ⟨b, o, Option.none⟩ = w.cell? ⟨b, o, Option.none⟩ := fun o => World.cell?_of_block (a := ⟨b, o, Option.none⟩) hb
  exact ⟨(key _).trans h.c0, (key _).trans h.c1, (key _).trans h.c2, (key _).trans h.c3, (key _).trans h.c4, (key _).trans h.c5, (key _).trans h.c6, (key _).trans h.c7, (key _).trans h.c8, (key _).trans h.c9, (key _).trans h.c10, (key _).trans h.c11⟩
def ReadsE (y : Ev) (v : Value) (w : World) : Prop := ∃ A m c, v = evv y A m c ∧ Hds w A m c y.hs
theorem ReadsE.keeps {y : Ev} {v : Value} {w w' : World} (h : ReadsE y v w) (hk : Keeps w w') : ReadsE y v w' := by
  obtain ⟨A, m, c, e, h⟩ := h
  exact ⟨A, m, c, e, h.keeps hk⟩
theorem enters_awake21 (vs : Array Value) (w : World) : (callFunc 10 vs).run Try.prog w = .ok (.enter 10 vs) w := by kernel_rfl
theorem enters_cut21 (vs : Array Value) (w : World) : (callFunc 8 vs).run Try.prog w = .ok (.enter 8 vs) w := by kernel_rfl
theorem enters_good21 (vs : Array Value) (w : World) : (callFunc 11 vs).run Try.prog w = .ok (.enter 11 vs) w := by kernel_rfl
theorem enters_refgood21 (vs : Array Value) (w : World) : (callFunc 12 vs).run Try.prog w = .ok (.enter 12 vs) w := by kernel_rfl
theorem enters_samein21 (vs : Array Value) (w : World) : (callFunc 13 vs).run Try.prog w = .ok (.enter 13 vs) w := by kernel_rfl
theorem run_eqB21 (x y : Operand) (b : Bool) (w : World) : (do eqGuard .eql 4 x y (.bool b) (.bool b); binOp .eql 4 (.bool b) (.bool b) : Sem Value).run Try.prog w = .ok (.bool true) w := by go_simp
theorem run_loadIn (w : World) (g : Nat) (cs : Array Value) (hg : w.heap[g]? = some (.cells cs 31 (0, 0))) (hs : cs.size = 15) : (Instr.loadAt 31 (.pointer (some ⟨g, 0, Option.none⟩))).run Try.prog w = .ok (.agg cs) w := by
  obtain ⟨fs, hd1⟩ := undIn
  simp only [Instr.loadAt, Instr.sureAddr, Sem.run_bind, Sem.run_pure, Result.andThen_ok, run_loadVar_row w g 31 31 cs (0, 0) (.struct fs) hg hd1 rfl (by rw [hs]; exact infoIn)]
def egF (x : Ev) (A : Option Addr) (m c : Nat) (i1 : In) (ok : Bool) (B1 : Option Addr) (n1 d1 : Nat) (E1 : Option Addr) (k1 q1 : Nat) (B2 : Option Addr) (n2 d2 : Nat) (E2 : Option Addr) (k2 q2 : Nat) (j : Nat) (v : Value) (w : World) : Prop :=
  match j with
  | 0 => v = .bool true
  | 1 => v = .bool true
  | 2 => v = evv x A m c
  | 3 => ReadsE (cutE x) v w
  | 4 => v = .bool (decide (GoodE (cutE x)))
  | 5 => v = evv x A m c
  | 6 => ReadsE (cutE x) v w
  | 7 => v = .bool (decide (GoodE (cutE x)))
  | 8 => v = .bool true
  | 9 => v = .bool true
  | 10 => v = .bool true
  | 11 => v = .agg (icell i1 B1 n1 d1 E1 k1 q1)
  | 12 => v = .agg (icell i1 B2 n2 d2 E2 k2 q2)
  | 13 => v = .bool true
  | 14 => v = .bool true
  | 15 => v = .bool true
  | 16 => v = .bool ok
  | 17 => v = .bool ok
  | 18 => v = .bool true
  | 19 => v = .bool true
  | 20 => v = .bool true
  | _ => True
theorem egF_later {x : Ev} {A : Option Addr} {m c : Nat} {i1 : In} {ok : Bool} {B1 : Option Addr} {n1 d1 : Nat} {E1 : Option Addr} {k1 q1 : Nat} {B2 : Option Addr} {n2 d2 : Nat} {E2 : Option Addr} {k2 q2 : Nat} : Outlives (egF x A m c i1 ok B1 n1 d1 E1 k1 q1 B2 n2 d2 E2 k2 q2) := by
  intro j v w w' h hk
  unfold egF at h ⊢
  split at h
  all_goals first | exact h.keeps hk | exact h

set_option maxHeartbeats 8000000 in
set_option maxRecDepth 100000 in
theorem eventGoods_walk (hP : EvSaid) (x : Ev) (A : Option Addr) (m c : Nat) (w : World) (hx : Hds w A m c x.hs) (hcode : x.code ≤ 9223372036854775807) :
    Calls Try.prog 3 #[evv x A m c] w fun e w' => e = .returned (.bool true) ∧ Below w.heap.size w w' := by
  have hbe := Lib.hid (below_box w (.cells (ecell12 x A m c) 25))
  have hev := Lib.hid (evAt_new w x A m c 25)
  have hbx := Lib.hid (show w.heap.size < (w.alloc (.cells (ecell12 x A m c) 25)).heap.size by simp)
  have hcut := Lib.hid (fun W (hW : Below w.heap.size w W) => cutE_any x A m c W (hx.later hW))
  have hrefin := fun A m c W (h : Hds W A m c (cutE x).hs) => refInput_any (cutE x) A m c W h hcode
  have hin := fun A m c W (h : Hds W A m c (cutE x).hs) => hP.input (cutE x) A m c W h hcode
  unfold InR icell at hrefin hin
  generalize (inputE (cutE x)).1 = i1 at hrefin hin
  generalize (inputE (cutE x)).2 = ok at hrefin hin
  replace hrefin := Lib.hid hrefin
  replace hin := Lib.hid hin
  have hX := Lib.hid hx
  have hC := Lib.hid hcode
  clear hx hcode
  unfold evv at hcut ⊢
  unfold ecell12 at hbe hev hbx hcut ⊢
  go_enter Try.func3, Try.ntmps3
  go_wp2_with (first
    | (go_at_call 8; refine (hcut.out _ hbS.out).mono ?_; rintro e w4 ⟨A1, m1, c1, rfl, hH1, hb1⟩; have hH1' := Lib.hid hH1; have hbw4 := Lib.hid (below_then hbS.out hb1); have hbS4 := Lib.hid (below_then (below_box w3 (.cells #[.int .i64 i1.kind, .int .i64 i1.ses, .string i1.me, .string i1.url, .int .i64 i1.mode, .int .i64 i1.cr, .int .i64 i1.rd, .int .i64 i1.de, .string i1.no, .slice B1 n1 d1, .string i1.body, .int .i64 i1.st, .slice E1 k1 q1, .string i1.rb, .int .u64 (i1.n : Int)] 31)) hb1); have hbK := Lib.hid hb1; clear hH1 hb1 y0 y1 y2 y3 y4 y5 y6 y7 y8 y9 y10 y11)
    | (go_at_call 8; refine (hcut.out _ hbe.out).mono ?_; rintro e w2 ⟨A1, m1, c1, rfl, hH1, hb1⟩; have hH1' := Lib.hid hH1; have hbw2 := Lib.hid (below_then hbe.out hb1); have hev2 := Lib.hid (hev.out.later hb1); clear hH1 hb1)
    | (go_at_call 7; refine (hin.out A1 m1 c1 _ hH1'.out).mono ?_; rintro e w3 ⟨B1, n1, d1, E1, k1, q1, rfl, ha, hb, hbb⟩; have hd1 := Lib.hid ha; have he1 := Lib.hid hb; have hbw3 := Lib.hid (below_then hbw2.out hbb); have hev3 := Lib.hid (hev2.out.later hbb); have hbS := Lib.hid (below_then hbw3.out (below_box w3 (.cells #[.int .i64 i1.kind, .int .i64 i1.ses, .string i1.me, .string i1.url, .int .i64 i1.mode, .int .i64 i1.cr, .int .i64 i1.rd, .int .i64 i1.de, .string i1.no, .slice B1 n1 d1, .string i1.body, .int .i64 i1.st, .slice E1 k1 q1, .string i1.rb, .int .u64 (i1.n : Int)] 31))); have hevS := Lib.hid (hev3.out.later (below_box w3 (.cells #[.int .i64 i1.kind, .int .i64 i1.ses, .string i1.me, .string i1.url, .int .i64 i1.mode, .int .i64 i1.cr, .int .i64 i1.rd, .int .i64 i1.de, .string i1.no, .slice B1 n1 d1, .string i1.body, .int .i64 i1.st, .slice E1 k1 q1, .string i1.rb, .int .u64 (i1.n : Int)] 31))); have row1 := Lib.hid (heap_alloc_new w3 (.cells #[.int .i64 i1.kind, .int .i64 i1.ses, .string i1.me, .string i1.url, .int .i64 i1.mode, .int .i64 i1.cr, .int .i64 i1.rd, .int .i64 i1.de, .string i1.no, .slice B1 n1 d1, .string i1.body, .int .i64 i1.st, .slice E1 k1 q1, .string i1.rb, .int .u64 (i1.n : Int)] 31)); have y0 := hevS.out.c0; have y1 := hevS.out.c1; have y2 := hevS.out.c2; have y3 := hevS.out.c3; have y4 := hevS.out.c4; have y5 := hevS.out.c5; have y6 := hevS.out.c6; have y7 := hevS.out.c7; have y8 := hevS.out.c8; have y9 := hevS.out.c9; have y10 := hevS.out.c10; have y11 := hevS.out.c11; clear ha hb hbb)
    | (go_at_call 9; refine (hrefin.out A1 m1 c1 _ hH1'.out).mono ?_; rintro e w5 ⟨B2, n2, d2, E2, k2, q2, rfl, ha, hb, hbb⟩; have hd2 := Lib.hid ha; have he2 := Lib.hid hb; have hbw5 := Lib.hid (below_then hbw4.out hbb); have hS5 := Lib.hid (below_then hbS4.out hbb); have rowA5 := Lib.hid (((below_then hbK.out hbb).block w3.heap.size (Array.getElem?_eq_some_iff.1 row1.out).1).trans row1.out); have hbT := Lib.hid (below_then hbw5.out (below_box w5 (.cells #[.int .i64 i1.kind, .int .i64 i1.ses, .string i1.me, .string i1.url, .int .i64 i1.mode, .int .i64 i1.cr, .int .i64 i1.rd, .int .i64 i1.de, .string i1.no, .slice B2 n2 d2, .string i1.body, .int .i64 i1.st, .slice E2 k2 q2, .string i1.rb, .int .u64 (i1.n : Int)] 31))); have rowB := Lib.hid (heap_alloc_new w5 (.cells #[.int .i64 i1.kind, .int .i64 i1.ses, .string i1.me, .string i1.url, .int .i64 i1.mode, .int .i64 i1.cr, .int .i64 i1.rd, .int .i64 i1.de, .string i1.no, .slice B2 n2 d2, .string i1.body, .int .i64 i1.st, .slice E2 k2 q2, .string i1.rb, .int .u64 (i1.n : Int)] 31)); clear ha hb hbb))
  have h3W := Lib.hid (below_then hS5.out (below_box w5 (.cells #[.int .i64 i1.kind, .int .i64 i1.ses, .string i1.me, .string i1.url, .int .i64 i1.mode, .int .i64 i1.cr, .int .i64 i1.rd, .int .i64 i1.de, .string i1.no, .slice B2 n2 d2, .string i1.body, .int .i64 i1.st, .slice E2 k2 q2, .string i1.rb, .int .u64 (i1.n : Int)] 31)))
  have hevW := Lib.hid (hev3.out.later h3W.out)
  have rowA := Lib.hid ((Below.heap_alloc w5 (.cells #[.int .i64 i1.kind, .int .i64 i1.ses, .string i1.me, .string i1.url, .int .i64 i1.mode, .int .i64 i1.cr, .int .i64 i1.rd, .int .i64 i1.de, .string i1.no, .slice B2 n2 d2, .string i1.body, .int .i64 i1.st, .slice E2 k2 q2, .string i1.rb, .int .u64 (i1.n : Int)] 31) w3.heap.size (Array.getElem?_eq_some_iff.1 rowA5.out).1).trans rowA5.out)
  have hbw := hbT.out
  refine wp_region_each (RInv 39 [19, 20, 21, 22, 23, 24, 25, 26, 27, 28, 29, 30, 31, 32, 33, 34, 35, 36, 37, 38, 2] _ (egF x A m c i1 ok B1 n1 d1 E1 k1 q1 B2 n2 d2 E2 k2 q2) _ NoMore) (by kernel_rfl) (by kernel_rfl) (RInv.start rfl trivial (Below.refl _ _).drew) ?_ ?_
  · intro i hi D a wy hI hcl hnd hpre
    have hi' : i < 21 := hi
    have hcase : i = 0 ∨ i = 1 ∨ i = 2 ∨ i = 3 ∨ i = 4 ∨ i = 5 ∨ i = 6 ∨ i = 7 ∨ i = 8 ∨ i = 9 ∨ i = 10 ∨ i = 11 ∨ i = 12 ∨ i = 13 ∨ i = 14 ∨ i = 15 ∨ i = 16 ∨ i = 17 ∨ i = 18 ∨ i = 19 ∨ i = 20 := by omega
    have hF := hI.fact
    rcases hcase with rfl | rfl | rfl | rfl | rfl | rfl | rfl | rfl | rfl | rfl | rfl | rfl | rfl | rfl | rfl | rfl | rfl | rfl | rfl | rfl | rfl
    · exact wpOp_call0 rfl (wanted_free rfl) 10 _ rfl (enters_awake21 _ _) (hP.awake wy) (fun e w' h => ⟨_, h.1, hI.add (by decide) egF_later (by decide) h.2 rfl⟩)
    · exact wpOp_move rfl (wanted_free rfl) _ rfl _ (hF 0 (hpre 0 (by kernel_rfl))) (hI.add (by decide) egF_later (by decide) (Below.refl _ _) rfl)
    · have g1 := hF 1 (hpre 1 (by kernel_rfl))
      exact wpOp_load rfl (wanted_by (d := 20) rfl _ rfl rfl g1) _ _ rfl _ _ (hI.same 1 (by decide)) (run_loadE12 wy w.heap.size x A m c (hevW.out.later hI.below)) (hI.add (by decide) egF_later (by decide) (Below.refl _ _) rfl)
    · have g1 := hF 1 (hpre 1 (by kernel_rfl))
      exact wpOp_call1 rfl (wanted_by (d := 20) rfl _ rfl rfl g1) 8 _ _ rfl _ (hF 2 (hpre 2 (by kernel_rfl))) (enters_cut21 _ _) (cutE_any x A m c wy (hX.out.later (below_then hbT.out hI.below))) (fun e w' h => by obtain ⟨A9, m9, c9, e9, h9, hb9⟩ := h; exact ⟨_, e9, hI.add (by decide) egF_later (by decide) hb9 ⟨A9, m9, c9, rfl, h9⟩⟩)
    · have g1 := hF 1 (hpre 1 (by kernel_rfl))
      obtain ⟨A9, m9, c9, e9, h9⟩ := (hF 3 (hpre 3 (by kernel_rfl)))
      exact wpOp_call1 rfl (wanted_by (d := 20) rfl _ rfl rfl g1) 11 _ _ rfl _ e9 (enters_good21 _ _) (hP.good (cutE x) A9 m9 c9 wy h9 hC.out) (fun e w' h => ⟨_, h.1, hI.add (by decide) egF_later (by decide) h.2 rfl⟩)
    · have g1 := hF 1 (hpre 1 (by kernel_rfl))
      exact wpOp_load rfl (wanted_by (d := 20) rfl _ rfl rfl g1) _ _ rfl _ _ (hI.same 1 (by decide)) (run_loadE12 wy w.heap.size x A m c (hevW.out.later hI.below)) (hI.add (by decide) egF_later (by decide) (Below.refl _ _) rfl)
    · have g1 := hF 1 (hpre 1 (by kernel_rfl))
      exact wpOp_call1 rfl (wanted_by (d := 20) rfl _ rfl rfl g1) 8 _ _ rfl _ (hF 5 (hpre 5 (by kernel_rfl))) (enters_cut21 _ _) (cutE_any x A m c wy (hX.out.later (below_then hbT.out hI.below))) (fun e w' h => by obtain ⟨A9, m9, c9, e9, h9, hb9⟩ := h; exact ⟨_, e9, hI.add (by decide) egF_later (by decide) hb9 ⟨A9, m9, c9, rfl, h9⟩⟩)
    · have g1 := hF 1 (hpre 1 (by kernel_rfl))
      obtain ⟨A9, m9, c9, e9, h9⟩ := (hF 6 (hpre 6 (by kernel_rfl)))
      exact wpOp_call1 rfl (wanted_by (d := 20) rfl _ rfl rfl g1) 12 _ _ rfl _ e9 (enters_refgood21 _ _) (refGoodE_any (cutE x) A9 m9 c9 wy h9 hC.out) (fun e w' h => ⟨_, h.1, hI.add (by decide) egF_later (by decide) h.2 rfl⟩)
    · have g1 := hF 1 (hpre 1 (by kernel_rfl))
      exact wpOp_bin rfl (wanted_by (d := 20) rfl _ rfl rfl g1) _ _ _ _ _ rfl _ _ _ (hF 4 (hpre 4 (by kernel_rfl))) (hF 7 (hpre 7 (by kernel_rfl))) (run_eqB21 _ _ _ wy) (hI.add (by decide) egF_later (by decide) (Below.refl _ _) rfl)
    · exact wpOp_pick rfl (wanted_free rfl) _ _ _ rfl true (hF 1 (hpre 1 (by kernel_rfl))) _ (hF 8 (hpre 8 (by kernel_rfl))) (hI.add (by decide) egF_later (by decide) (Below.refl _ _) rfl)
    · exact wpOp_move rfl (wanted_free rfl) _ rfl _ (hF 9 (hpre 9 (by kernel_rfl))) (hI.add (by decide) egF_later (by decide) (Below.refl _ _) rfl)
    · have g10 := hF 10 (hpre 10 (by kernel_rfl))
      exact wpOp_load rfl (wanted_by (d := 29) rfl _ rfl rfl g10) _ _ rfl _ _ (hI.same 3 (by decide)) (run_loadIn wy w3.heap.size _ ((hI.below.block _ (Array.getElem?_eq_some_iff.1 rowA.out).1).trans rowA.out) rfl) (hI.add (by decide) egF_later (by decide) (Below.refl _ _) rfl)
    · have g10 := hF 10 (hpre 10 (by kernel_rfl))
      exact wpOp_load rfl (wanted_by (d := 29) rfl _ rfl rfl g10) _ _ rfl _ _ (hI.same 5 (by decide)) (run_loadIn wy w5.heap.size _ ((hI.below.block _ (Array.getElem?_eq_some_iff.1 rowB.out).1).trans rowB.out) rfl) (hI.add (by decide) egF_later (by decide) (Below.refl _ _) rfl)
    · have g10 := hF 10 (hpre 10 (by kernel_rfl))
      exact wpOp_call2 rfl (wanted_by (d := 29) rfl _ rfl rfl g10) 13 _ _ _ rfl _ _ (hF 11 (hpre 11 (by kernel_rfl))) (hF 12 (hpre 12 (by kernel_rfl))) (enters_samein21 _ _) (sameIn_any i1 B1 B2 E1 E2 n1 n2 k1 k2 d1 d2 q1 q2 wy (hd1.out.later (below_then h3W.out hI.below)) (hd2.out.later (below_then (below_box w5 _) hI.below)) (he1.out.later (below_then h3W.out hI.below)) (he2.out.later (below_then (below_box w5 _) hI.below))) (fun e w' h => ⟨_, h.1, hI.add (by decide) egF_later (by decide) h.2 rfl⟩)
    · exact wpOp_pick rfl (wanted_free rfl) _ _ _ rfl true (hF 10 (hpre 10 (by kernel_rfl))) _ (hF 13 (hpre 13 (by kernel_rfl))) (hI.add (by decide) egF_later (by decide) (Below.refl _ _) rfl)
    · exact wpOp_move rfl (wanted_free rfl) _ rfl _ (hF 14 (hpre 14 (by kernel_rfl))) (hI.add (by decide) egF_later (by decide) (Below.refl _ _) rfl)
    · have g15 := hF 15 (hpre 15 (by kernel_rfl))
      exact wpOp_move rfl (wanted_by (d := 34) rfl _ rfl rfl g15) _ rfl _ (hI.same 4 (by decide)) (hI.add (by decide) egF_later (by decide) (Below.refl _ _) rfl)
    · have g15 := hF 15 (hpre 15 (by kernel_rfl))
      exact wpOp_move rfl (wanted_by (d := 34) rfl _ rfl rfl g15) _ rfl _ (hI.same 6 (by decide)) (hI.add (by decide) egF_later (by decide) (Below.refl _ _) rfl)
    · have g15 := hF 15 (hpre 15 (by kernel_rfl))
      exact wpOp_bin rfl (wanted_by (d := 34) rfl _ rfl rfl g15) _ _ _ _ _ rfl _ _ _ (hF 16 (hpre 16 (by kernel_rfl))) (hF 17 (hpre 17 (by kernel_rfl))) (run_eqB21 _ _ _ wy) (hI.add (by decide) egF_later (by decide) (Below.refl _ _) rfl)
    · exact wpOp_pick rfl (wanted_free rfl) _ _ _ rfl true (hF 15 (hpre 15 (by kernel_rfl))) _ (hF 18 (hpre 18 (by kernel_rfl))) (hI.add (by decide) egF_later (by decide) (Below.refl _ _) rfl)
    · exact wpOp_assign rfl (wanted_free rfl) _ rfl _ (hF 19 (hpre 19 (by kernel_rfl))) (hI.add (by decide) egF_later (by decide) (Below.refl _ _) rfl)
  · intro D a wy hI hall
    have fz : a.eval (.tmp 2) = .bool true := hI.fact 20 (hall 20 (by decide))
    have hd := hI.defs
    have hB := hI.below
    clear hall
    go_wp2
    refine bodyPost_ret (results_tmp rfl a.tmps _ _) hd ⟨?_, hbw.trans (hB.mono hbw.size)⟩
    show Ending.returned (a.eval (.tmp 2)) = _
    rw [fz]
theorem evSaidP : EvSaid := ⟨fun x A m c W h _ => goodP_any x A m c W h, fun x A m c W h _ => inputP_any x A m c W h, awakeP⟩
theorem eventGoods_law (q : Eva) (w : World) (H : Hds w q.A q.m q.c q.ev.hs) (j : Six12 q.ev) :
    Calls Try.prog 3 #[evv q.ev q.A q.m q.c] w fun e w' => e = .returned (.bool true) ∧ Below w.heap.size w w' :=
  eventGoods_walk evSaidP q.ev q.A q.m q.c w H j.2.2.2.2.1.2
end Go.Proofs.Ytodncamohimmmaa
