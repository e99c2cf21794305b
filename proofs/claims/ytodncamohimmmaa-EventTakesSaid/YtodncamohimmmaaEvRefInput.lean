/-
  The reference's Input of layer 21. Conditions: those that each theorem states.
-/
import Derived.Test.YtodncamohimmmaaLow3
import Derived.Test.YtodncamohimmmaaEvRefGood
import Derived.Laws.Tables
import Derived.Laws.CopyOwn
import Derived.Laws.ResultCell
namespace Go.Proofs.Ytodncamohimmmaa
open Go.RowKit Go.Lib Leb

structure In where
  kind : Int
  ses : Int
  me : ByteArray
  url : ByteArray
  mode : Int
  cr : Int
  rd : Int
  de : Int
  no : ByteArray
  hs : List Hd
  body : ByteArray
  st : Int
  rh : List Hd
  rb : ByteArray
  n : Nat
def zin : In := ⟨0, 0, nil9, nil9, 0, 0, 0, 0, nil9, [], nil9, 0, [], nil9, 0⟩
def icell (i : In) (A : Option Addr) (m c : Nat) (A' : Option Addr) (m' c' : Nat) : Array Value := #[.int .i64 i.kind, .int .i64 i.ses, .string i.me, .string i.url, .int .i64 i.mode, .int .i64 i.cr, .int .i64 i.rd, .int .i64 i.de, .string i.no, .slice A m c, .string i.body, .int .i64 i.st, .slice A' m' c', .string i.rb, .int .u64 (i.n : Int)]
def inputE (x : Ev) : In × Bool :=
  if ¬ GoodE x then (zin, false)
  else if x.kind = 1 then (⟨1, x.ses, x.me, x.url, x.code % 4, x.code / 4 % 4, x.code / 16 % 4, x.code / 64, x.no, x.hs, x.body, 0, [], nil9, 0⟩, true)
  else if x.kind = 3 then (⟨2, x.ses, nil9, nil9, 0, 0, 0, 0, nil9, [], nil9, x.status, x.hs, x.body, 0⟩, true)
  else if x.kind = 4 then (⟨3, x.ses, nil9, nil9, 0, 0, 0, 0, nil9, [], nil9, 0, [], nil9, 0⟩, true)
  else if x.kind = 5 then (⟨4, 0, nil9, nil9, 0, 0, 0, 0, nil9, [], nil9, 0, [], nil9, x.n⟩, true)
  else if x.kind = 6 then (⟨5, x.ses, nil9, nil9, 0, 0, 0, 0, nil9, [], nil9, 0, [], nil9, x.n⟩, true)
  else (zin, false)
theorem inputE_bad {x : Ev} (h : ¬ GoodE x) : inputE x = (zin, false) := if_pos h
theorem inputE_1 {x : Ev} (h : GoodE x) (hk : x.kind = 1) : inputE x = (⟨1, x.ses, x.me, x.url, x.code % 4, x.code / 4 % 4, x.code / 16 % 4, x.code / 64, x.no, x.hs, x.body, 0, [], nil9, 0⟩, true) := by unfold inputE; rw [if_neg (fun h' => h' h), if_pos hk]
theorem inputE_3 {x : Ev} (h : GoodE x) (hk : x.kind = 3) : inputE x = (⟨2, x.ses, nil9, nil9, 0, 0, 0, 0, nil9, [], nil9, x.status, x.hs, x.body, 0⟩, true) := by unfold inputE; rw [if_neg (fun h' => h' h), if_neg (by omega), if_pos hk]
theorem inputE_4 {x : Ev} (h : GoodE x) (hk : x.kind = 4) : inputE x = (⟨3, x.ses, nil9, nil9, 0, 0, 0, 0, nil9, [], nil9, 0, [], nil9, 0⟩, true) := by unfold inputE; rw [if_neg (fun h' => h' h), if_neg (by omega), if_neg (by omega), if_pos hk]
theorem inputE_5 {x : Ev} (h : GoodE x) (hk : x.kind = 5) : inputE x = (⟨4, 0, nil9, nil9, 0, 0, 0, 0, nil9, [], nil9, 0, [], nil9, x.n⟩, true) := by unfold inputE; rw [if_neg (fun h' => h' h), if_neg (by omega), if_neg (by omega), if_neg (by omega), if_pos hk]
theorem inputE_6 {x : Ev} (h : GoodE x) (hk : x.kind = 6) : inputE x = (⟨5, x.ses, nil9, nil9, 0, 0, 0, 0, nil9, [], nil9, 0, [], nil9, x.n⟩, true) := by unfold inputE; rw [if_neg (fun h' => h' h), if_neg (by omega), if_neg (by omega), if_neg (by omega), if_neg (by omega), if_pos hk]
theorem inputE_no {x : Ev} (hk : x.kind = 2 ∨ x.kind = 7) : inputE x = (zin, false) := by
  unfold inputE
  split
  · rfl
  · rw [if_neg (by omega), if_neg (by omega), if_neg (by omega), if_neg (by omega), if_neg (by omega)]
def InR (w : World) (x : Ev) (e : Ending) (w' : World) : Prop := ∃ A m c A' m' c', e = .returned (.tuple #[.agg (icell (inputE x).1 A m c A' m' c'), .bool (inputE x).2]) ∧ Hds w' A m c (inputE x).1.hs ∧ Hds w' A' m' c' (inputE x).1.rh ∧ Below w.heap.size w w'

theorem undIn : ∃ fs, Try.prog.underlying 31 = some (.struct fs) := ⟨_, Try.underlying31⟩
theorem infoIn : (Try.prog.info? 31).map (·.size) = some 15 := by kernel_rfl
set_option maxRecDepth 100000 in
theorem in_result {tmps : Array Value} {w : World} {g : Nat} {cs : Array Value} {b : Bool} (hp : tmps.getD 2 undef = .pointer (some ⟨g, 0, Option.none⟩)) (hb : tmps.getD 3 undef = .bool b) (hg : w.heap[g]? = some (.cells cs 31 (0, 0))) (hs : cs.size = 15) :
    (results Try.f9 tmps).run Try.prog w = .ok (.tuple #[.agg cs, .bool b]) w := by
  rw [results_cell_tmp (fn := Try.f9) (p := 2) (u := 3) (ty := 31) rfl, hp, hb]
  obtain ⟨fs, hd1⟩ := undIn
  have h := run_loadVar_row w g 31 31 cs (0, 0) (.struct fs) hg hd1 rfl (by rw [hs]; exact infoIn)
  simp [asAddr, Result.andThen, h]

theorem in_boxes (w : World) (x : Ev) (A : Option Addr) (m c : Nat) (t : TypeId) (o1 o2 : Obj) (W' : World) (hb : Below (((w.alloc (.cells (ecell12 x A m c) t)).alloc o1).alloc o2).heap.size (((w.alloc (.cells (ecell12 x A m c) t)).alloc o1).alloc o2) W') :
    EvAt W' w.heap.size x A m c ∧ W'.heap[w.heap.size + 1]? = some o1 ∧ W'.heap[w.heap.size + 1 + 1]? = some o2 ∧ Below w.heap.size w W' := by
  have h1 := heap_alloc_new (w.alloc (.cells (ecell12 x A m c) t)) o1
  simp only [World.size_alloc] at h1
  have h2 := heap_alloc_new ((w.alloc (.cells (ecell12 x A m c) t)).alloc o1) o2
  simp only [World.size_alloc] at h2
  have h3 := (Below.heap_alloc ((w.alloc (.cells (ecell12 x A m c) t)).alloc o1) o2 (w.heap.size + 1) (by simp)).trans h1
  exact ⟨(((evAt_new w x A m c t).later (below_box _ _)).later (below_box _ _)).later hb, (hb.block _ (by simp)).trans h3, (hb.block _ (by simp)).trans h2, below_then (below_then (below_then (below_box _ _) (below_box _ _)) (below_box _ _)) hb⟩

set_option maxHeartbeats 16000000 in
set_option maxRecDepth 100000 in
theorem refInput_k3 (x : Ev) (A : Option Addr) (m c : Nat) (w : World) (ha : Hds w A m c x.hs) (hcode : x.code ≤ 9223372036854775807) (hg : GoodE x) (hk : x.kind = 3) :
    Calls Try.prog 9 #[evv x A m c] w (InR w x) := by
  have hgood := Lib.hid (fun W (hW : Below w.heap.size w W) => refGoodE_any x A m c W (ha.later hW) hcode)
  rw [decide_eq_true hg] at hgood
  have ha' := Lib.hid ha
  obtain ⟨kind, ses, tick, me, url, hs, body, status, code, cred, no, k⟩ := x
  have hin := Lib.hid (inputE_3 hg hk)
  simp only at hk
  subst hk
  clear hg
  unfold evv at *
  unfold ecell12 at *
  simp only at *
  clear ha hcode
  have hi1 := Lib.hid (show (Try.prog.info? 31).map (·.size) = some (#[.int .i64 2, .int .i64 ses, .string ⟨#[]⟩, .string ⟨#[]⟩, .int .i64 0, .int .i64 0, .int .i64 0, .int .i64 0, .string ⟨#[]⟩, .slice Option.none 0 0, .string ⟨#[]⟩, .int .i64 status, .slice A m c, .string body, .int .u64 0] : Array Value).size from infoIn)
  have ho1 := Lib.hid (show (#[.int .i64 0, .int .i64 0, .string ⟨#[]⟩, .string ⟨#[]⟩, .int .i64 0, .int .i64 0, .int .i64 0, .int .i64 0, .string ⟨#[]⟩, .slice Option.none 0 0, .string ⟨#[]⟩, .int .i64 0, .slice Option.none 0 0, .string ⟨#[]⟩, .int .u64 0] : Array Value).size = (#[.int .i64 2, .int .i64 ses, .string ⟨#[]⟩, .string ⟨#[]⟩, .int .i64 0, .int .i64 0, .int .i64 0, .int .i64 0, .string ⟨#[]⟩, .slice Option.none 0 0, .string ⟨#[]⟩, .int .i64 status, .slice A m c, .string body, .int .u64 0] : Array Value).size from rfl)
  have hone := Lib.hid (show (#[.int .i64 2, .int .i64 ses, .string ⟨#[]⟩, .string ⟨#[]⟩, .int .i64 0, .int .i64 0, .int .i64 0, .int .i64 0, .string ⟨#[]⟩, .slice Option.none 0 0, .string ⟨#[]⟩, .int .i64 status, .slice A m c, .string body, .int .u64 0] : Array Value).all (·.oneCell') = true by simp [Value.oneCell'])
  go_enter Try.func9, Try.ntmps9
  go_wp2_with (first
    | (go_at_call 12; refine (hgood.out _ (below_then (below_then (below_box _ _) (below_box _ _)) (below_box _ _))).mono ?_; rintro e w2 ⟨rfl, hb2⟩; obtain ⟨y, r1, r2, hbw⟩ := in_boxes w ⟨3, ses, tick, me, url, hs, body, status, code, cred, no, k⟩ A m c _ _ _ _ hb2; have y0 := y.c0; have y1 := y.c1; have y5 := y.c5; have y6 := y.c6; have y7 := y.c7; have y11 := y.c11; simp only at y0 y1 y5 y6 y7 y11; have r1' := Lib.hid r1; have r2' := Lib.hid r2; have hbw' := Lib.hid hbw; clear hb2 y r1 r2 hbw)
    | (with_reducible refine wpList_store_row rfl _ _ _ rfl (w.heap.size + 1) #[.int .i64 2, .int .i64 ses, .string ⟨#[]⟩, .string ⟨#[]⟩, .int .i64 0, .int .i64 0, .int .i64 0, .int .i64 0, .string ⟨#[]⟩, .slice Option.none 0 0, .string ⟨#[]⟩, .int .i64 status, .slice A m c, .string body, .int .u64 0] rfl rfl 31 #[.int .i64 0, .int .i64 0, .string ⟨#[]⟩, .string ⟨#[]⟩, .int .i64 0, .int .i64 0, .int .i64 0, .int .i64 0, .string ⟨#[]⟩, .slice Option.none 0 0, .string ⟨#[]⟩, .int .i64 0, .slice Option.none 0 0, .string ⟨#[]⟩, .int .u64 0] r1'.out hi1.out ho1.out hone.out ?_))
  unfold InR
  rw [hin.out]
  refine bodyPost_ret (in_result (g := w.heap.size + 1) (cs := #[.int .i64 2, .int .i64 ses, .string ⟨#[]⟩, .string ⟨#[]⟩, .int .i64 0, .int .i64 0, .int .i64 0, .int .i64 0, .string ⟨#[]⟩, .slice Option.none 0 0, .string ⟨#[]⟩, .int .i64 status, .slice A m c, .string body, .int .u64 0]) rfl rfl (setRow_heap _ _ _ _ _ _ r1'.out) rfl) rfl ?_
  refine ⟨Option.none, 0, 0, A, m, c, rfl, ?_, ?_, below_setRow hbw'.out (by simp) _⟩
  · exact hds_empty _ _ _ (by simp) (fun _ => rfl)
  · exact ha'.out.later (below_setRow hbw'.out (by simp) _)

set_option maxHeartbeats 16000000 in
set_option maxRecDepth 100000 in
theorem refInput_k4 (x : Ev) (A : Option Addr) (m c : Nat) (w : World) (ha : Hds w A m c x.hs) (hcode : x.code ≤ 9223372036854775807) (hg : GoodE x) (hk : x.kind = 4) :
    Calls Try.prog 9 #[evv x A m c] w (InR w x) := by
  have hgood := Lib.hid (fun W (hW : Below w.heap.size w W) => refGoodE_any x A m c W (ha.later hW) hcode)
  rw [decide_eq_true hg] at hgood
  have ha' := Lib.hid ha
  obtain ⟨kind, ses, tick, me, url, hs, body, status, code, cred, no, k⟩ := x
  have hin := Lib.hid (inputE_4 hg hk)
  simp only at hk
  subst hk
  clear hg
  unfold evv at *
  unfold ecell12 at *
  simp only at *
  clear ha hcode
  have hi1 := Lib.hid (show (Try.prog.info? 31).map (·.size) = some (#[.int .i64 3, .int .i64 ses, .string ⟨#[]⟩, .string ⟨#[]⟩, .int .i64 0, .int .i64 0, .int .i64 0, .int .i64 0, .string ⟨#[]⟩, .slice Option.none 0 0, .string ⟨#[]⟩, .int .i64 0, .slice Option.none 0 0, .string ⟨#[]⟩, .int .u64 0] : Array Value).size from infoIn)
  have ho1 := Lib.hid (show (#[.int .i64 0, .int .i64 0, .string ⟨#[]⟩, .string ⟨#[]⟩, .int .i64 0, .int .i64 0, .int .i64 0, .int .i64 0, .string ⟨#[]⟩, .slice Option.none 0 0, .string ⟨#[]⟩, .int .i64 0, .slice Option.none 0 0, .string ⟨#[]⟩, .int .u64 0] : Array Value).size = (#[.int .i64 3, .int .i64 ses, .string ⟨#[]⟩, .string ⟨#[]⟩, .int .i64 0, .int .i64 0, .int .i64 0, .int .i64 0, .string ⟨#[]⟩, .slice Option.none 0 0, .string ⟨#[]⟩, .int .i64 0, .slice Option.none 0 0, .string ⟨#[]⟩, .int .u64 0] : Array Value).size from rfl)
  have hone := Lib.hid (show (#[.int .i64 3, .int .i64 ses, .string ⟨#[]⟩, .string ⟨#[]⟩, .int .i64 0, .int .i64 0, .int .i64 0, .int .i64 0, .string ⟨#[]⟩, .slice Option.none 0 0, .string ⟨#[]⟩, .int .i64 0, .slice Option.none 0 0, .string ⟨#[]⟩, .int .u64 0] : Array Value).all (·.oneCell') = true by simp [Value.oneCell'])
  go_enter Try.func9, Try.ntmps9
  go_wp2_with (first
    | (go_at_call 12; refine (hgood.out _ (below_then (below_then (below_box _ _) (below_box _ _)) (below_box _ _))).mono ?_; rintro e w2 ⟨rfl, hb2⟩; obtain ⟨y, r1, r2, hbw⟩ := in_boxes w ⟨4, ses, tick, me, url, hs, body, status, code, cred, no, k⟩ A m c _ _ _ _ hb2; have y0 := y.c0; have y1 := y.c1; have y5 := y.c5; have y6 := y.c6; have y7 := y.c7; have y11 := y.c11; simp only at y0 y1 y5 y6 y7 y11; have r1' := Lib.hid r1; have r2' := Lib.hid r2; have hbw' := Lib.hid hbw; clear hb2 y r1 r2 hbw)
    | (with_reducible refine wpList_store_row rfl _ _ _ rfl (w.heap.size + 1) #[.int .i64 3, .int .i64 ses, .string ⟨#[]⟩, .string ⟨#[]⟩, .int .i64 0, .int .i64 0, .int .i64 0, .int .i64 0, .string ⟨#[]⟩, .slice Option.none 0 0, .string ⟨#[]⟩, .int .i64 0, .slice Option.none 0 0, .string ⟨#[]⟩, .int .u64 0] rfl rfl 31 #[.int .i64 0, .int .i64 0, .string ⟨#[]⟩, .string ⟨#[]⟩, .int .i64 0, .int .i64 0, .int .i64 0, .int .i64 0, .string ⟨#[]⟩, .slice Option.none 0 0, .string ⟨#[]⟩, .int .i64 0, .slice Option.none 0 0, .string ⟨#[]⟩, .int .u64 0] r1'.out hi1.out ho1.out hone.out ?_))
  unfold InR
  rw [hin.out]
  refine bodyPost_ret (in_result (g := w.heap.size + 1) (cs := #[.int .i64 3, .int .i64 ses, .string ⟨#[]⟩, .string ⟨#[]⟩, .int .i64 0, .int .i64 0, .int .i64 0, .int .i64 0, .string ⟨#[]⟩, .slice Option.none 0 0, .string ⟨#[]⟩, .int .i64 0, .slice Option.none 0 0, .string ⟨#[]⟩, .int .u64 0]) rfl rfl (setRow_heap _ _ _ _ _ _ r1'.out) rfl) rfl ?_
  refine ⟨Option.none, 0, 0, Option.none, 0, 0, rfl, ?_, ?_, below_setRow hbw'.out (by simp) _⟩
  · exact hds_empty _ _ _ (by simp) (fun _ => rfl)
  · exact hds_empty _ _ _ (by simp) (fun _ => rfl)

set_option maxHeartbeats 16000000 in
set_option maxRecDepth 100000 in
theorem refInput_k5 (x : Ev) (A : Option Addr) (m c : Nat) (w : World) (ha : Hds w A m c x.hs) (hcode : x.code ≤ 9223372036854775807) (hg : GoodE x) (hk : x.kind = 5) :
    Calls Try.prog 9 #[evv x A m c] w (InR w x) := by
  have hgood := Lib.hid (fun W (hW : Below w.heap.size w W) => refGoodE_any x A m c W (ha.later hW) hcode)
  rw [decide_eq_true hg] at hgood
  have ha' := Lib.hid ha
  obtain ⟨kind, ses, tick, me, url, hs, body, status, code, cred, no, k⟩ := x
  have hin := Lib.hid (inputE_5 hg hk)
  simp only at hk
  subst hk
  clear hg
  unfold evv at *
  unfold ecell12 at *
  simp only at *
  clear ha hcode
  have hi1 := Lib.hid (show (Try.prog.info? 31).map (·.size) = some (#[.int .i64 4, .int .i64 0, .string ⟨#[]⟩, .string ⟨#[]⟩, .int .i64 0, .int .i64 0, .int .i64 0, .int .i64 0, .string ⟨#[]⟩, .slice Option.none 0 0, .string ⟨#[]⟩, .int .i64 0, .slice Option.none 0 0, .string ⟨#[]⟩, .int .u64 (k : Int)] : Array Value).size from infoIn)
  have ho1 := Lib.hid (show (#[.int .i64 0, .int .i64 0, .string ⟨#[]⟩, .string ⟨#[]⟩, .int .i64 0, .int .i64 0, .int .i64 0, .int .i64 0, .string ⟨#[]⟩, .slice Option.none 0 0, .string ⟨#[]⟩, .int .i64 0, .slice Option.none 0 0, .string ⟨#[]⟩, .int .u64 0] : Array Value).size = (#[.int .i64 4, .int .i64 0, .string ⟨#[]⟩, .string ⟨#[]⟩, .int .i64 0, .int .i64 0, .int .i64 0, .int .i64 0, .string ⟨#[]⟩, .slice Option.none 0 0, .string ⟨#[]⟩, .int .i64 0, .slice Option.none 0 0, .string ⟨#[]⟩, .int .u64 (k : Int)] : Array Value).size from rfl)
  have hone := Lib.hid (show (#[.int .i64 4, .int .i64 0, .string ⟨#[]⟩, .string ⟨#[]⟩, .int .i64 0, .int .i64 0, .int .i64 0, .int .i64 0, .string ⟨#[]⟩, .slice Option.none 0 0, .string ⟨#[]⟩, .int .i64 0, .slice Option.none 0 0, .string ⟨#[]⟩, .int .u64 (k : Int)] : Array Value).all (·.oneCell') = true by simp [Value.oneCell'])
  go_enter Try.func9, Try.ntmps9
  go_wp2_with (first
    | (go_at_call 12; refine (hgood.out _ (below_then (below_then (below_box _ _) (below_box _ _)) (below_box _ _))).mono ?_; rintro e w2 ⟨rfl, hb2⟩; obtain ⟨y, r1, r2, hbw⟩ := in_boxes w ⟨5, ses, tick, me, url, hs, body, status, code, cred, no, k⟩ A m c _ _ _ _ hb2; have y0 := y.c0; have y1 := y.c1; have y5 := y.c5; have y6 := y.c6; have y7 := y.c7; have y11 := y.c11; simp only at y0 y1 y5 y6 y7 y11; have r1' := Lib.hid r1; have r2' := Lib.hid r2; have hbw' := Lib.hid hbw; clear hb2 y r1 r2 hbw)
    | (with_reducible refine wpList_store_row rfl _ _ _ rfl (w.heap.size + 1) #[.int .i64 4, .int .i64 0, .string ⟨#[]⟩, .string ⟨#[]⟩, .int .i64 0, .int .i64 0, .int .i64 0, .int .i64 0, .string ⟨#[]⟩, .slice Option.none 0 0, .string ⟨#[]⟩, .int .i64 0, .slice Option.none 0 0, .string ⟨#[]⟩, .int .u64 (k : Int)] rfl rfl 31 #[.int .i64 0, .int .i64 0, .string ⟨#[]⟩, .string ⟨#[]⟩, .int .i64 0, .int .i64 0, .int .i64 0, .int .i64 0, .string ⟨#[]⟩, .slice Option.none 0 0, .string ⟨#[]⟩, .int .i64 0, .slice Option.none 0 0, .string ⟨#[]⟩, .int .u64 0] r1'.out hi1.out ho1.out hone.out ?_))
  unfold InR
  rw [hin.out]
  refine bodyPost_ret (in_result (g := w.heap.size + 1) (cs := #[.int .i64 4, .int .i64 0, .string ⟨#[]⟩, .string ⟨#[]⟩, .int .i64 0, .int .i64 0, .int .i64 0, .int .i64 0, .string ⟨#[]⟩, .slice Option.none 0 0, .string ⟨#[]⟩, .int .i64 0, .slice Option.none 0 0, .string ⟨#[]⟩, .int .u64 (k : Int)]) rfl rfl (setRow_heap _ _ _ _ _ _ r1'.out) rfl) rfl ?_
  refine ⟨Option.none, 0, 0, Option.none, 0, 0, rfl, ?_, ?_, below_setRow hbw'.out (by simp) _⟩
  · exact hds_empty _ _ _ (by simp) (fun _ => rfl)
  · exact hds_empty _ _ _ (by simp) (fun _ => rfl)

set_option maxHeartbeats 16000000 in
set_option maxRecDepth 100000 in
theorem refInput_k6 (x : Ev) (A : Option Addr) (m c : Nat) (w : World) (ha : Hds w A m c x.hs) (hcode : x.code ≤ 9223372036854775807) (hg : GoodE x) (hk : x.kind = 6) :
    Calls Try.prog 9 #[evv x A m c] w (InR w x) := by
  have hgood := Lib.hid (fun W (hW : Below w.heap.size w W) => refGoodE_any x A m c W (ha.later hW) hcode)
  rw [decide_eq_true hg] at hgood
  have ha' := Lib.hid ha
  obtain ⟨kind, ses, tick, me, url, hs, body, status, code, cred, no, k⟩ := x
  have hin := Lib.hid (inputE_6 hg hk)
  simp only at hk
  subst hk
  clear hg
  unfold evv at *
  unfold ecell12 at *
  simp only at *
  clear ha hcode
  have hi1 := Lib.hid (show (Try.prog.info? 31).map (·.size) = some (#[.int .i64 5, .int .i64 ses, .string ⟨#[]⟩, .string ⟨#[]⟩, .int .i64 0, .int .i64 0, .int .i64 0, .int .i64 0, .string ⟨#[]⟩, .slice Option.none 0 0, .string ⟨#[]⟩, .int .i64 0, .slice Option.none 0 0, .string ⟨#[]⟩, .int .u64 (k : Int)] : Array Value).size from infoIn)
  have ho1 := Lib.hid (show (#[.int .i64 0, .int .i64 0, .string ⟨#[]⟩, .string ⟨#[]⟩, .int .i64 0, .int .i64 0, .int .i64 0, .int .i64 0, .string ⟨#[]⟩, .slice Option.none 0 0, .string ⟨#[]⟩, .int .i64 0, .slice Option.none 0 0, .string ⟨#[]⟩, .int .u64 0] : Array Value).size = (#[.int .i64 5, .int .i64 ses, .string ⟨#[]⟩, .string ⟨#[]⟩, .int .i64 0, .int .i64 0, .int .i64 0, .int .i64 0, .string ⟨#[]⟩, .slice Option.none 0 0, .string ⟨#[]⟩, .int .i64 0, .slice Option.none 0 0, .string ⟨#[]⟩, .int .u64 (k : Int)] : Array Value).size from rfl)
  have hone := Lib.hid (show (#[.int .i64 5, .int .i64 ses, .string ⟨#[]⟩, .string ⟨#[]⟩, .int .i64 0, .int .i64 0, .int .i64 0, .int .i64 0, .string ⟨#[]⟩, .slice Option.none 0 0, .string ⟨#[]⟩, .int .i64 0, .slice Option.none 0 0, .string ⟨#[]⟩, .int .u64 (k : Int)] : Array Value).all (·.oneCell') = true by simp [Value.oneCell'])
  go_enter Try.func9, Try.ntmps9
  go_wp2_with (first
    | (go_at_call 12; refine (hgood.out _ (below_then (below_then (below_box _ _) (below_box _ _)) (below_box _ _))).mono ?_; rintro e w2 ⟨rfl, hb2⟩; obtain ⟨y, r1, r2, hbw⟩ := in_boxes w ⟨6, ses, tick, me, url, hs, body, status, code, cred, no, k⟩ A m c _ _ _ _ hb2; have y0 := y.c0; have y1 := y.c1; have y5 := y.c5; have y6 := y.c6; have y7 := y.c7; have y11 := y.c11; simp only at y0 y1 y5 y6 y7 y11; have r1' := Lib.hid r1; have r2' := Lib.hid r2; have hbw' := Lib.hid hbw; clear hb2 y r1 r2 hbw)
    | (with_reducible refine wpList_store_row rfl _ _ _ rfl (w.heap.size + 1) #[.int .i64 5, .int .i64 ses, .string ⟨#[]⟩, .string ⟨#[]⟩, .int .i64 0, .int .i64 0, .int .i64 0, .int .i64 0, .string ⟨#[]⟩, .slice Option.none 0 0, .string ⟨#[]⟩, .int .i64 0, .slice Option.none 0 0, .string ⟨#[]⟩, .int .u64 (k : Int)] rfl rfl 31 #[.int .i64 0, .int .i64 0, .string ⟨#[]⟩, .string ⟨#[]⟩, .int .i64 0, .int .i64 0, .int .i64 0, .int .i64 0, .string ⟨#[]⟩, .slice Option.none 0 0, .string ⟨#[]⟩, .int .i64 0, .slice Option.none 0 0, .string ⟨#[]⟩, .int .u64 0] r1'.out hi1.out ho1.out hone.out ?_))
  unfold InR
  rw [hin.out]
  refine bodyPost_ret (in_result (g := w.heap.size + 1) (cs := #[.int .i64 5, .int .i64 ses, .string ⟨#[]⟩, .string ⟨#[]⟩, .int .i64 0, .int .i64 0, .int .i64 0, .int .i64 0, .string ⟨#[]⟩, .slice Option.none 0 0, .string ⟨#[]⟩, .int .i64 0, .slice Option.none 0 0, .string ⟨#[]⟩, .int .u64 (k : Int)]) rfl rfl (setRow_heap _ _ _ _ _ _ r1'.out) rfl) rfl ?_
  refine ⟨Option.none, 0, 0, Option.none, 0, 0, rfl, ?_, ?_, below_setRow hbw'.out (by simp) _⟩
  · exact hds_empty _ _ _ (by simp) (fun _ => rfl)
  · exact hds_empty _ _ _ (by simp) (fun _ => rfl)

set_option maxHeartbeats 16000000 in
set_option maxRecDepth 100000 in
theorem refInput_no (x : Ev) (A : Option Addr) (m c : Nat) (w : World) (ha : Hds w A m c x.hs) (hcode : x.code ≤ 9223372036854775807) (hg : GoodE x) (hk : x.kind = 2 ∨ x.kind = 7) :
    Calls Try.prog 9 #[evv x A m c] w (InR w x) := by
  have hgood := Lib.hid (fun W (hW : Below w.heap.size w W) => refGoodE_any x A m c W (ha.later hW) hcode)
  rw [decide_eq_true hg] at hgood
  have ha' := Lib.hid ha
  obtain ⟨kind, ses, tick, me, url, hs, body, status, code, cred, no, k⟩ := x
  have hin := Lib.hid (inputE_no hk)
  unfold evv at *
  unfold ecell12 at *
  simp only at *
  clear ha hcode hg
  obtain ⟨fs, hd1⟩ := undIn
  replace hd1 := Lib.hid hd1
  have hi1 := Lib.hid (show (Try.prog.info? 31).map (·.size) = some (#[.int .i64 0, .int .i64 0, .string ⟨#[]⟩, .string ⟨#[]⟩, .int .i64 0, .int .i64 0, .int .i64 0, .int .i64 0, .string ⟨#[]⟩, .slice Option.none 0 0, .string ⟨#[]⟩, .int .i64 0, .slice Option.none 0 0, .string ⟨#[]⟩, .int .u64 0] : Array Value).size from infoIn)
  have hone := Lib.hid (show (#[.int .i64 0, .int .i64 0, .string ⟨#[]⟩, .string ⟨#[]⟩, .int .i64 0, .int .i64 0, .int .i64 0, .int .i64 0, .string ⟨#[]⟩, .slice Option.none 0 0, .string ⟨#[]⟩, .int .i64 0, .slice Option.none 0 0, .string ⟨#[]⟩, .int .u64 0] : Array Value).all (·.oneCell') = true by simp [Value.oneCell'])
  rcases hk with hk | hk
  · subst hk
    go_enter Try.func9, Try.ntmps9
    go_wp2_with (first
      | (go_at_call 12; refine (hgood.out _ (below_then (below_then (below_box _ _) (below_box _ _)) (below_box _ _))).mono ?_; rintro e w2 ⟨rfl, hb2⟩; obtain ⟨y, r1, r2, hbw⟩ := in_boxes w ⟨2, ses, tick, me, url, hs, body, status, code, cred, no, k⟩ A m c _ _ _ _ hb2; have y0 := y.c0; have y1 := y.c1; have y5 := y.c5; have y6 := y.c6; have y7 := y.c7; have y11 := y.c11; simp only at y0 y1 y5 y6 y7 y11; have r1' := Lib.hid r1; have r2' := Lib.hid r2; have hbw' := Lib.hid hbw; clear hb2 y r1 r2 hbw)
      | (with_reducible refine wpList_store_row rfl _ _ _ rfl (w.heap.size + 1) #[.int .i64 0, .int .i64 0, .string ⟨#[]⟩, .string ⟨#[]⟩, .int .i64 0, .int .i64 0, .int .i64 0, .int .i64 0, .string ⟨#[]⟩, .slice Option.none 0 0, .string ⟨#[]⟩, .int .i64 0, .slice Option.none 0 0, .string ⟨#[]⟩, .int .u64 0] rfl rfl 31 #[.int .i64 0, .int .i64 0, .string ⟨#[]⟩, .string ⟨#[]⟩, .int .i64 0, .int .i64 0, .int .i64 0, .int .i64 0, .string ⟨#[]⟩, .slice Option.none 0 0, .string ⟨#[]⟩, .int .i64 0, .slice Option.none 0 0, .string ⟨#[]⟩, .int .u64 0] r1'.out hi1.out (Eq.refl _) hone.out ?_)
      | (refine wpList_load_row rfl _ _ rfl (w.heap.size + 1 + 1) rfl 31 #[.int .i64 0, .int .i64 0, .string ⟨#[]⟩, .string ⟨#[]⟩, .int .i64 0, .int .i64 0, .int .i64 0, .int .i64 0, .string ⟨#[]⟩, .slice Option.none 0 0, .string ⟨#[]⟩, .int .i64 0, .slice Option.none 0 0, .string ⟨#[]⟩, .int .u64 0] (0, 0) (.struct fs) r2'.out hd1.out rfl hi1.out ?_))
    unfold InR
    rw [hin.out]
    refine bodyPost_ret (in_result (g := w.heap.size + 1) (cs := #[.int .i64 0, .int .i64 0, .string ⟨#[]⟩, .string ⟨#[]⟩, .int .i64 0, .int .i64 0, .int .i64 0, .int .i64 0, .string ⟨#[]⟩, .slice Option.none 0 0, .string ⟨#[]⟩, .int .i64 0, .slice Option.none 0 0, .string ⟨#[]⟩, .int .u64 0]) rfl rfl (setRow_heap _ _ _ _ _ _ r1'.out) rfl) rfl ?_
    refine ⟨Option.none, 0, 0, Option.none, 0, 0, rfl, ?_, ?_, below_setRow hbw'.out (by simp) _⟩
    · exact hds_empty _ _ _ (by simp) (fun _ => rfl)
    · exact hds_empty _ _ _ (by simp) (fun _ => rfl)
  · subst hk
    go_enter Try.func9, Try.ntmps9
    go_wp2_with (first
      | (go_at_call 12; refine (hgood.out _ (below_then (below_then (below_box _ _) (below_box _ _)) (below_box _ _))).mono ?_; rintro e w2 ⟨rfl, hb2⟩; obtain ⟨y, r1, r2, hbw⟩ := in_boxes w ⟨7, ses, tick, me, url, hs, body, status, code, cred, no, k⟩ A m c _ _ _ _ hb2; have y0 := y.c0; have y1 := y.c1; have y5 := y.c5; have y6 := y.c6; have y7 := y.c7; have y11 := y.c11; simp only at y0 y1 y5 y6 y7 y11; have r1' := Lib.hid r1; have r2' := Lib.hid r2; have hbw' := Lib.hid hbw; clear hb2 y r1 r2 hbw)
      | (with_reducible refine wpList_store_row rfl _ _ _ rfl (w.heap.size + 1) #[.int .i64 0, .int .i64 0, .string ⟨#[]⟩, .string ⟨#[]⟩, .int .i64 0, .int .i64 0, .int .i64 0, .int .i64 0, .string ⟨#[]⟩, .slice Option.none 0 0, .string ⟨#[]⟩, .int .i64 0, .slice Option.none 0 0, .string ⟨#[]⟩, .int .u64 0] rfl rfl 31 #[.int .i64 0, .int .i64 0, .string ⟨#[]⟩, .string ⟨#[]⟩, .int .i64 0, .int .i64 0, .int .i64 0, .int .i64 0, .string ⟨#[]⟩, .slice Option.none 0 0, .string ⟨#[]⟩, .int .i64 0, .slice Option.none 0 0, .string ⟨#[]⟩, .int .u64 0] r1'.out hi1.out (Eq.refl _) hone.out ?_)
      | (refine wpList_load_row rfl _ _ rfl (w.heap.size + 1 + 1) rfl 31 #[.int .i64 0, .int .i64 0, .string ⟨#[]⟩, .string ⟨#[]⟩, .int .i64 0, .int .i64 0, .int .i64 0, .int .i64 0, .string ⟨#[]⟩, .slice Option.none 0 0, .string ⟨#[]⟩, .int .i64 0, .slice Option.none 0 0, .string ⟨#[]⟩, .int .u64 0] (0, 0) (.struct fs) r2'.out hd1.out rfl hi1.out ?_))
    unfold InR
    rw [hin.out]
    refine bodyPost_ret (in_result (g := w.heap.size + 1) (cs := #[.int .i64 0, .int .i64 0, .string ⟨#[]⟩, .string ⟨#[]⟩, .int .i64 0, .int .i64 0, .int .i64 0, .int .i64 0, .string ⟨#[]⟩, .slice Option.none 0 0, .string ⟨#[]⟩, .int .i64 0, .slice Option.none 0 0, .string ⟨#[]⟩, .int .u64 0]) rfl rfl (setRow_heap _ _ _ _ _ _ r1'.out) rfl) rfl ?_
    refine ⟨Option.none, 0, 0, Option.none, 0, 0, rfl, ?_, ?_, below_setRow hbw'.out (by simp) _⟩
    · exact hds_empty _ _ _ (by simp) (fun _ => rfl)
    · exact hds_empty _ _ _ (by simp) (fun _ => rfl)

set_option maxHeartbeats 16000000 in
set_option maxRecDepth 100000 in
theorem refInput_bad (x : Ev) (A : Option Addr) (m c : Nat) (w : World) (ha : Hds w A m c x.hs) (hcode : x.code ≤ 9223372036854775807) (hg : ¬ GoodE x) :
    Calls Try.prog 9 #[evv x A m c] w (InR w x) := by
  have hgood := Lib.hid (fun W (hW : Below w.heap.size w W) => refGoodE_any x A m c W (ha.later hW) hcode)
  rw [decide_eq_false hg] at hgood
  have ha' := Lib.hid ha
  obtain ⟨kind, ses, tick, me, url, hs, body, status, code, cred, no, k⟩ := x
  have hin := Lib.hid (inputE_bad hg)
  unfold evv at *
  unfold ecell12 at *
  simp only at *
  clear ha hcode hg
  obtain ⟨fs, hd1⟩ := undIn
  replace hd1 := Lib.hid hd1
  have hi1 := Lib.hid (show (Try.prog.info? 31).map (·.size) = some (#[.int .i64 0, .int .i64 0, .string ⟨#[]⟩, .string ⟨#[]⟩, .int .i64 0, .int .i64 0, .int .i64 0, .int .i64 0, .string ⟨#[]⟩, .slice Option.none 0 0, .string ⟨#[]⟩, .int .i64 0, .slice Option.none 0 0, .string ⟨#[]⟩, .int .u64 0] : Array Value).size from infoIn)
  have hone := Lib.hid (show (#[.int .i64 0, .int .i64 0, .string ⟨#[]⟩, .string ⟨#[]⟩, .int .i64 0, .int .i64 0, .int .i64 0, .int .i64 0, .string ⟨#[]⟩, .slice Option.none 0 0, .string ⟨#[]⟩, .int .i64 0, .slice Option.none 0 0, .string ⟨#[]⟩, .int .u64 0] : Array Value).all (·.oneCell') = true by simp [Value.oneCell'])
  go_enter Try.func9, Try.ntmps9
  go_wp2_with (first
    | (go_at_call 12; refine (hgood.out _ (below_then (below_then (below_box _ _) (below_box _ _)) (below_box _ _))).mono ?_; rintro e w2 ⟨rfl, hb2⟩; obtain ⟨y, r1, r2, hbw⟩ := in_boxes w ⟨kind, ses, tick, me, url, hs, body, status, code, cred, no, k⟩ A m c _ _ _ _ hb2; have y0 := y.c0; have y1 := y.c1; have y5 := y.c5; have y6 := y.c6; have y7 := y.c7; have y11 := y.c11; simp only at y0 y1 y5 y6 y7 y11; have r1' := Lib.hid r1; have r2' := Lib.hid r2; have hbw' := Lib.hid hbw; clear hb2 y r1 r2 hbw)
    | (with_reducible refine wpList_store_row rfl _ _ _ rfl (w.heap.size + 1) #[.int .i64 0, .int .i64 0, .string ⟨#[]⟩, .string ⟨#[]⟩, .int .i64 0, .int .i64 0, .int .i64 0, .int .i64 0, .string ⟨#[]⟩, .slice Option.none 0 0, .string ⟨#[]⟩, .int .i64 0, .slice Option.none 0 0, .string ⟨#[]⟩, .int .u64 0] rfl rfl 31 #[.int .i64 0, .int .i64 0, .string ⟨#[]⟩, .string ⟨#[]⟩, .int .i64 0, .int .i64 0, .int .i64 0, .int .i64 0, .string ⟨#[]⟩, .slice Option.none 0 0, .string ⟨#[]⟩, .int .i64 0, .slice Option.none 0 0, .string ⟨#[]⟩, .int .u64 0] r1'.out hi1.out (Eq.refl _) hone.out ?_)
    | (refine wpList_load_row rfl _ _ rfl (w.heap.size + 1 + 1) rfl 31 #[.int .i64 0, .int .i64 0, .string ⟨#[]⟩, .string ⟨#[]⟩, .int .i64 0, .int .i64 0, .int .i64 0, .int .i64 0, .string ⟨#[]⟩, .slice Option.none 0 0, .string ⟨#[]⟩, .int .i64 0, .slice Option.none 0 0, .string ⟨#[]⟩, .int .u64 0] (0, 0) (.struct fs) r2'.out hd1.out rfl hi1.out ?_))
  unfold InR
  rw [hin.out]
  refine bodyPost_ret (in_result (g := w.heap.size + 1) (cs := #[.int .i64 0, .int .i64 0, .string ⟨#[]⟩, .string ⟨#[]⟩, .int .i64 0, .int .i64 0, .int .i64 0, .int .i64 0, .string ⟨#[]⟩, .slice Option.none 0 0, .string ⟨#[]⟩, .int .i64 0, .slice Option.none 0 0, .string ⟨#[]⟩, .int .u64 0]) rfl rfl (setRow_heap _ _ _ _ _ _ r1'.out) rfl) rfl ?_
  refine ⟨Option.none, 0, 0, Option.none, 0, 0, rfl, ?_, ?_, below_setRow hbw'.out (by simp) _⟩
  · exact hds_empty _ _ _ (by simp) (fun _ => rfl)
  · exact hds_empty _ _ _ (by simp) (fun _ => rfl)
end Go.Proofs.Ytodncamohimmmaa
