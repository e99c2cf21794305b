/-
  event's Input, kind by kind. Conditions: those that each theorem states.
-/
import Derived.Test.YtodncamohimmmaaEvPInput
namespace Go.Proofs.Ytodncamohimmmaa
open Go.RowKit Go.Lib Leb

theorem in_boxesP (w : World) (x : Ev) (A : Option Addr) (m c : Nat) (t : TypeId) (o1 : Obj) (W' : World) (hb : Below ((w.alloc (.cells (ecell12 x A m c) t)).alloc o1).heap.size ((w.alloc (.cells (ecell12 x A m c) t)).alloc o1) W') :
    EvAt W' w.heap.size x A m c ∧ W'.heap[w.heap.size]? = some (.cells (ecell12 x A m c) t (0, 0)) ∧ W'.heap[w.heap.size + 1]? = some o1 ∧ Below w.heap.size w W' := by
  have h1 := heap_alloc_new (w.alloc (.cells (ecell12 x A m c) t)) o1
  simp only [World.size_alloc] at h1
  have h0 := (Below.heap_alloc (w.alloc (.cells (ecell12 x A m c) t)) o1 w.heap.size (by simp)).trans (heap_alloc_new w (.cells (ecell12 x A m c) t))
  exact ⟨((evAt_new w x A m c t).later (below_box _ _)).later hb, (hb.block _ (by simp only [World.size_alloc]; omega)).trans h0, (hb.block _ (by simp only [World.size_alloc]; omega)).trans h1, below_then (below_then (below_box _ _) (below_box _ _)) hb⟩
theorem in_okE {x : Ev} (h : GoodE x) : (x.kind = 1 → x.n = 0) ∧ (x.kind = 3 → x.n = 0) ∧ (x.kind = 4 → x.n = 0) ∧ (x.kind = 5 → x.ses = 0) := by
  rcases h.2 with h | h | h | h | h | h | h
  · exact ⟨fun _ => h.2.2.2.2, by omega, by omega, by omega⟩
  · exact ⟨by omega, by omega, by omega, by omega⟩
  · exact ⟨by omega, fun _ => h.2.2.2.2.2.2.2, by omega, by omega⟩
  · exact ⟨by omega, by omega, fun _ => h.2.2.2.2, by omega⟩
  · exact ⟨by omega, by omega, by omega, fun _ => h.2.2.2.2.2⟩
  · exact ⟨by omega, by omega, by omega, by omega⟩
  · exact ⟨by omega, by omega, by omega, by omega⟩

set_option maxHeartbeats 16000000 in
set_option maxRecDepth 100000 in
theorem inputP_bad (x : Ev) (A : Option Addr) (m c : Nat) (w : World) (ha : Hds w A m c x.hs) (hg : ¬ GoodE x) :
    Calls Try.prog 7 #[evv x A m c] w (InR w x) := by
  have hgood := Lib.hid (fun W (hW : Below w.heap.size w W) => goodP_any x A m c W (ha.later hW))
  rw [decide_eq_false hg] at hgood
  have hin := Lib.hid (inputE_bad hg)
  obtain ⟨kind, ses, tick, me, url, hs, body, status, code, cred, no, k⟩ := x
  clear hg ha
  unfold evv at *
  unfold ecell12 at *
  simp only at *
  obtain ⟨fe, hfe⟩ := undEvP
  replace hfe := Lib.hid hfe
  have hie := Lib.hid (show (Try.prog.info? 25).map (·.size) = some (#[.int .i64 kind, .int .i64 ses, .int .i64 tick, .string me, .string url, .slice A m c, .string body, .int .i64 status, .int .i64 code, .bool cred, .string no, .int .u64 (k : Int)] : Array Value).size from infoEvP)
  have hr0 := Lib.hid ((Below.heap_alloc (w.alloc (.cells #[.int .i64 kind, .int .i64 ses, .int .i64 tick, .string me, .string url, .slice A m c, .string body, .int .i64 status, .int .i64 code, .bool cred, .string no, .int .u64 (k : Int)] 25)) (.cells #[.int .i64 0, .int .i64 0, .string ⟨#[]⟩, .string ⟨#[]⟩, .int .i64 0, .int .i64 0, .int .i64 0, .int .i64 0, .string ⟨#[]⟩, .slice Option.none 0 0, .string ⟨#[]⟩, .int .i64 0, .slice Option.none 0 0, .string ⟨#[]⟩, .int .u64 0] 31) w.heap.size (by simp)).trans (heap_alloc_new w (.cells #[.int .i64 kind, .int .i64 ses, .int .i64 tick, .string me, .string url, .slice A m c, .string body, .int .i64 status, .int .i64 code, .bool cred, .string no, .int .u64 (k : Int)] 25)))
  obtain ⟨fi, hfi⟩ := undIn
  replace hfi := Lib.hid hfi
  have hi1 := Lib.hid (show (Try.prog.info? 31).map (·.size) = some (#[.int .i64 0, .int .i64 0, .string ⟨#[]⟩, .string ⟨#[]⟩, .int .i64 0, .int .i64 0, .int .i64 0, .int .i64 0, .string ⟨#[]⟩, .slice Option.none 0 0, .string ⟨#[]⟩, .int .i64 0, .slice Option.none 0 0, .string ⟨#[]⟩, .int .u64 0] : Array Value).size from infoIn)
  have hone := Lib.hid (show (#[.int .i64 0, .int .i64 0, .string ⟨#[]⟩, .string ⟨#[]⟩, .int .i64 0, .int .i64 0, .int .i64 0, .int .i64 0, .string ⟨#[]⟩, .slice Option.none 0 0, .string ⟨#[]⟩, .int .i64 0, .slice Option.none 0 0, .string ⟨#[]⟩, .int .u64 0] : Array Value).all (·.oneCell') = true by simp [Value.oneCell'])
  go_enter Try.func7, Try.ntmps7
  go_wp2_with (first
    | (go_at_call 11; refine (hgood.out _ (below_then (below_box _ _) (below_box _ _))).mono ?_; rintro e w2 ⟨rfl, hb2⟩; obtain ⟨y, rr, r1, hbw⟩ := in_boxesP w ⟨kind, ses, tick, me, url, hs, body, status, code, cred, no, k⟩ A m c _ _ _ hb2; have y0 := y.c0; have y1 := y.c1; have y11 := y.c11; have z0 := fun o => cell_later (below_box w2 o) y.c0; have z5 := fun o => cell_later (below_box w2 o) y.c5; have z6 := fun o => cell_later (below_box w2 o) y.c6; have z7 := fun o => cell_later (below_box w2 o) y.c7; simp only at y0 y1 y11 z0 z5 z6 z7; have rr' := Lib.hid rr; have r1' := Lib.hid r1; have hbw' := Lib.hid hbw; have r3' := Lib.hid (fun o => ((below_box w2 o).block _ (Array.getElem?_eq_some_iff.1 r1).1).trans r1); clear hb2 y rr r1 hbw)
    | (with_reducible refine wpList_load_row rfl _ _ rfl w.heap.size rfl 25 #[.int .i64 kind, .int .i64 ses, .int .i64 tick, .string me, .string url, .slice A m c, .string body, .int .i64 status, .int .i64 code, .bool cred, .string no, .int .u64 (k : Int)] (0, 0) (.struct fe) hr0.out hfe.out rfl hie.out ?_)
    | (with_reducible refine wpList_store_row rfl _ _ _ rfl (w.heap.size + 1) #[.int .i64 0, .int .i64 0, .string ⟨#[]⟩, .string ⟨#[]⟩, .int .i64 0, .int .i64 0, .int .i64 0, .int .i64 0, .string ⟨#[]⟩, .slice Option.none 0 0, .string ⟨#[]⟩, .int .i64 0, .slice Option.none 0 0, .string ⟨#[]⟩, .int .u64 0] rfl rfl 31 #[.int .i64 0, .int .i64 0, .string ⟨#[]⟩, .string ⟨#[]⟩, .int .i64 0, .int .i64 0, .int .i64 0, .int .i64 0, .string ⟨#[]⟩, .slice Option.none 0 0, .string ⟨#[]⟩, .int .i64 0, .slice Option.none 0 0, .string ⟨#[]⟩, .int .u64 0] r1'.out hi1.out (Eq.refl _) hone.out ?_))
  unfold InR
  rw [hin.out]
  refine bodyPost_ret (in_resultP (g := w.heap.size + 1) (cs := #[.int .i64 0, .int .i64 0, .string ⟨#[]⟩, .string ⟨#[]⟩, .int .i64 0, .int .i64 0, .int .i64 0, .int .i64 0, .string ⟨#[]⟩, .slice Option.none 0 0, .string ⟨#[]⟩, .int .i64 0, .slice Option.none 0 0, .string ⟨#[]⟩, .int .u64 0]) rfl rfl (setRow_heap _ _ _ _ _ _ r1'.out) rfl) rfl ?_
  refine ⟨Option.none, 0, 0, Option.none, 0, 0, rfl, ?_, ?_, below_setRow hbw'.out (by simp) _⟩
  · exact hds_empty _ _ _ (by simp) (fun _ => rfl)
  · exact hds_empty _ _ _ (by simp) (fun _ => rfl)

set_option maxHeartbeats 16000000 in
set_option maxRecDepth 100000 in
theorem inputP_else (x : Ev) (A : Option Addr) (m c : Nat) (w : World) (ha : Hds w A m c x.hs) (hg : GoodE x) (hk : x.kind = 2 ∨ x.kind = 7) :
    Calls Try.prog 7 #[evv x A m c] w (InR w x) := by
  have hgood := Lib.hid (fun W (hW : Below w.heap.size w W) => goodP_any x A m c W (ha.later hW))
  rw [decide_eq_true hg] at hgood
  have hin := Lib.hid (show inputE x = (zin, false) by unfold inputE; rw [if_neg (fun h' => h' hg), if_neg (by omega), if_neg (by omega), if_neg (by omega), if_neg (by omega), if_neg (by omega)])
  obtain ⟨kind, ses, tick, me, url, hs, body, status, code, cred, no, k⟩ := x
  clear hg ha
  unfold evv at *
  unfold ecell12 at *
  simp only at *
  obtain ⟨fe, hfe⟩ := undEvP
  replace hfe := Lib.hid hfe
  have hie := Lib.hid (show (Try.prog.info? 25).map (·.size) = some (#[.int .i64 kind, .int .i64 ses, .int .i64 tick, .string me, .string url, .slice A m c, .string body, .int .i64 status, .int .i64 code, .bool cred, .string no, .int .u64 (k : Int)] : Array Value).size from infoEvP)
  have hr0 := Lib.hid ((Below.heap_alloc (w.alloc (.cells #[.int .i64 kind, .int .i64 ses, .int .i64 tick, .string me, .string url, .slice A m c, .string body, .int .i64 status, .int .i64 code, .bool cred, .string no, .int .u64 (k : Int)] 25)) (.cells #[.int .i64 0, .int .i64 0, .string ⟨#[]⟩, .string ⟨#[]⟩, .int .i64 0, .int .i64 0, .int .i64 0, .int .i64 0, .string ⟨#[]⟩, .slice Option.none 0 0, .string ⟨#[]⟩, .int .i64 0, .slice Option.none 0 0, .string ⟨#[]⟩, .int .u64 0] 31) w.heap.size (by simp)).trans (heap_alloc_new w (.cells #[.int .i64 kind, .int .i64 ses, .int .i64 tick, .string me, .string url, .slice A m c, .string body, .int .i64 status, .int .i64 code, .bool cred, .string no, .int .u64 (k : Int)] 25)))
  obtain ⟨fi, hfi⟩ := undIn
  replace hfi := Lib.hid hfi
  have hi1 := Lib.hid (show (Try.prog.info? 31).map (·.size) = some (#[.int .i64 0, .int .i64 0, .string ⟨#[]⟩, .string ⟨#[]⟩, .int .i64 0, .int .i64 0, .int .i64 0, .int .i64 0, .string ⟨#[]⟩, .slice Option.none 0 0, .string ⟨#[]⟩, .int .i64 0, .slice Option.none 0 0, .string ⟨#[]⟩, .int .u64 0] : Array Value).size from infoIn)
  have hone := Lib.hid (show (#[.int .i64 0, .int .i64 0, .string ⟨#[]⟩, .string ⟨#[]⟩, .int .i64 0, .int .i64 0, .int .i64 0, .int .i64 0, .string ⟨#[]⟩, .slice Option.none 0 0, .string ⟨#[]⟩, .int .i64 0, .slice Option.none 0 0, .string ⟨#[]⟩, .int .u64 0] : Array Value).all (·.oneCell') = true by simp [Value.oneCell'])
  have k1 : ¬ kind = 1 := by omega
  have k3 : ¬ kind = 3 := by omega
  have k4 : ¬ kind = 4 := by omega
  have k5 : ¬ kind = 5 := by omega
  have k6 : ¬ kind = 6 := by omega
  clear hk
  go_enter Try.func7, Try.ntmps7
  go_wp2_with (first
    | (go_at_call 11; refine (hgood.out _ (below_then (below_box _ _) (below_box _ _))).mono ?_; rintro e w2 ⟨rfl, hb2⟩; obtain ⟨y, rr, r1, hbw⟩ := in_boxesP w ⟨kind, ses, tick, me, url, hs, body, status, code, cred, no, k⟩ A m c _ _ _ hb2; have y0 := y.c0; have y1 := y.c1; have y11 := y.c11; have z0 := fun o => cell_later (below_box w2 o) y.c0; have z5 := fun o => cell_later (below_box w2 o) y.c5; have z6 := fun o => cell_later (below_box w2 o) y.c6; have z7 := fun o => cell_later (below_box w2 o) y.c7; simp only at y0 y1 y11 z0 z5 z6 z7; have rr' := Lib.hid rr; have r1' := Lib.hid r1; have hbw' := Lib.hid hbw; have r3' := Lib.hid (fun o => ((below_box w2 o).block _ (Array.getElem?_eq_some_iff.1 r1).1).trans r1); clear hb2 y rr r1 hbw)
    | (with_reducible refine wpList_load_row rfl _ _ rfl w.heap.size rfl 25 #[.int .i64 kind, .int .i64 ses, .int .i64 tick, .string me, .string url, .slice A m c, .string body, .int .i64 status, .int .i64 code, .bool cred, .string no, .int .u64 (k : Int)] (0, 0) (.struct fe) hr0.out hfe.out rfl hie.out ?_)
    | (with_reducible refine wpList_store_row rfl _ _ _ rfl (w.heap.size + 1) #[.int .i64 0, .int .i64 0, .string ⟨#[]⟩, .string ⟨#[]⟩, .int .i64 0, .int .i64 0, .int .i64 0, .int .i64 0, .string ⟨#[]⟩, .slice Option.none 0 0, .string ⟨#[]⟩, .int .i64 0, .slice Option.none 0 0, .string ⟨#[]⟩, .int .u64 0] rfl rfl 31 #[.int .i64 0, .int .i64 0, .string ⟨#[]⟩, .string ⟨#[]⟩, .int .i64 0, .int .i64 0, .int .i64 0, .int .i64 0, .string ⟨#[]⟩, .slice Option.none 0 0, .string ⟨#[]⟩, .int .i64 0, .slice Option.none 0 0, .string ⟨#[]⟩, .int .u64 0] r1'.out hi1.out (Eq.refl _) hone.out ?_)
    | (with_reducible refine wpList_store_row rfl _ _ _ rfl (w.heap.size + 1) #[.int .i64 0, .int .i64 0, .string ⟨#[]⟩, .string ⟨#[]⟩, .int .i64 0, .int .i64 0, .int .i64 0, .int .i64 0, .string ⟨#[]⟩, .slice Option.none 0 0, .string ⟨#[]⟩, .int .i64 0, .slice Option.none 0 0, .string ⟨#[]⟩, .int .u64 0] rfl rfl 31 #[.int .i64 0, .int .i64 0, .string ⟨#[]⟩, .string ⟨#[]⟩, .int .i64 0, .int .i64 0, .int .i64 0, .int .i64 0, .string ⟨#[]⟩, .slice Option.none 0 0, .string ⟨#[]⟩, .int .i64 0, .slice Option.none 0 0, .string ⟨#[]⟩, .int .u64 0] (r3'.out _) hi1.out (Eq.refl _) hone.out ?_))
  unfold InR
  rw [hin.out]
  refine bodyPost_ret (in_resultP (g := w.heap.size + 1) (cs := #[.int .i64 0, .int .i64 0, .string ⟨#[]⟩, .string ⟨#[]⟩, .int .i64 0, .int .i64 0, .int .i64 0, .int .i64 0, .string ⟨#[]⟩, .slice Option.none 0 0, .string ⟨#[]⟩, .int .i64 0, .slice Option.none 0 0, .string ⟨#[]⟩, .int .u64 0]) rfl rfl (setRow_heap _ _ _ _ _ _ (r3'.out _)) rfl) rfl ?_
  refine ⟨Option.none, 0, 0, Option.none, 0, 0, rfl, ?_, ?_, below_setRow (below_then hbw'.out (below_box w2 _)) (by simp) _⟩
  · exact hds_empty _ _ _ (by simp) (fun _ => rfl)
  · exact hds_empty _ _ _ (by simp) (fun _ => rfl)

set_option maxHeartbeats 16000000 in
set_option maxRecDepth 100000 in
theorem inputP_k4 (x : Ev) (A : Option Addr) (m c : Nat) (w : World) (ha : Hds w A m c x.hs) (hg : GoodE x) (hk : x.kind = 4) :
    Calls Try.prog 7 #[evv x A m c] w (InR w x) := by
  have hgood := Lib.hid (fun W (hW : Below w.heap.size w W) => goodP_any x A m c W (ha.later hW))
  rw [decide_eq_true hg] at hgood
  have hin := Lib.hid (inputE_4 hg hk)
  have hz := in_okE hg
  obtain ⟨kind, ses, tick, me, url, hs, body, status, code, cred, no, k⟩ := x
  simp only at hk
  subst hk
  obtain rfl : k = 0 := hz.2.2.1 rfl
  clear hg ha hz
  unfold evv at *
  unfold ecell12 at *
  simp only at *
  obtain ⟨fe, hfe⟩ := undEvP
  replace hfe := Lib.hid hfe
  have hie := Lib.hid (show (Try.prog.info? 25).map (·.size) = some (#[.int .i64 4, .int .i64 ses, .int .i64 tick, .string me, .string url, .slice A m c, .string body, .int .i64 status, .int .i64 code, .bool cred, .string no, .int .u64 0] : Array Value).size from infoEvP)
  have hr0 := Lib.hid ((Below.heap_alloc (w.alloc (.cells #[.int .i64 4, .int .i64 ses, .int .i64 tick, .string me, .string url, .slice A m c, .string body, .int .i64 status, .int .i64 code, .bool cred, .string no, .int .u64 0] 25)) (.cells #[.int .i64 0, .int .i64 0, .string ⟨#[]⟩, .string ⟨#[]⟩, .int .i64 0, .int .i64 0, .int .i64 0, .int .i64 0, .string ⟨#[]⟩, .slice Option.none 0 0, .string ⟨#[]⟩, .int .i64 0, .slice Option.none 0 0, .string ⟨#[]⟩, .int .u64 0] 31) w.heap.size (by simp)).trans (heap_alloc_new w (.cells #[.int .i64 4, .int .i64 ses, .int .i64 tick, .string me, .string url, .slice A m c, .string body, .int .i64 status, .int .i64 code, .bool cred, .string no, .int .u64 0] 25)))
  obtain ⟨fi, hfi⟩ := undIn
  replace hfi := Lib.hid hfi
  have hi1 := Lib.hid (show (Try.prog.info? 31).map (·.size) = some (#[.int .i64 3, .int .i64 ses, .string ⟨#[]⟩, .string ⟨#[]⟩, .int .i64 0, .int .i64 0, .int .i64 0, .int .i64 0, .string ⟨#[]⟩, .slice Option.none 0 0, .string ⟨#[]⟩, .int .i64 0, .slice Option.none 0 0, .string ⟨#[]⟩, .int .u64 0] : Array Value).size from infoIn)
  have hone := Lib.hid (show (#[.int .i64 3, .int .i64 ses, .string ⟨#[]⟩, .string ⟨#[]⟩, .int .i64 0, .int .i64 0, .int .i64 0, .int .i64 0, .string ⟨#[]⟩, .slice Option.none 0 0, .string ⟨#[]⟩, .int .i64 0, .slice Option.none 0 0, .string ⟨#[]⟩, .int .u64 0] : Array Value).all (·.oneCell') = true by simp [Value.oneCell'])
  go_enter Try.func7, Try.ntmps7
  go_wp2_with (first
    | (go_at_call 11; refine (hgood.out _ (below_then (below_box _ _) (below_box _ _))).mono ?_; rintro e w2 ⟨rfl, hb2⟩; obtain ⟨y, rr, r1, hbw⟩ := in_boxesP w ⟨4, ses, tick, me, url, hs, body, status, code, cred, no, 0⟩ A m c _ _ _ hb2; have y0 := y.c0; have y1 := y.c1; have y11 := y.c11; have z0 := fun o => cell_later (below_box w2 o) y.c0; have z5 := fun o => cell_later (below_box w2 o) y.c5; have z6 := fun o => cell_later (below_box w2 o) y.c6; have z7 := fun o => cell_later (below_box w2 o) y.c7; simp only at y0 y1 y11 z0 z5 z6 z7; have rr' := Lib.hid rr; have r1' := Lib.hid r1; have hbw' := Lib.hid hbw; have r3' := Lib.hid (fun o => ((below_box w2 o).block _ (Array.getElem?_eq_some_iff.1 r1).1).trans r1); clear hb2 y rr r1 hbw)
    | (with_reducible refine wpList_load_row rfl _ _ rfl w.heap.size rfl 25 #[.int .i64 4, .int .i64 ses, .int .i64 tick, .string me, .string url, .slice A m c, .string body, .int .i64 status, .int .i64 code, .bool cred, .string no, .int .u64 0] (0, 0) (.struct fe) hr0.out hfe.out rfl hie.out ?_)
    | (with_reducible refine wpList_load_row rfl _ _ rfl w2.heap.size rfl 31 #[.int .i64 3, .int .i64 ses, .string ⟨#[]⟩, .string ⟨#[]⟩, .int .i64 0, .int .i64 0, .int .i64 0, .int .i64 0, .string ⟨#[]⟩, .slice Option.none 0 0, .string ⟨#[]⟩, .int .i64 0, .slice Option.none 0 0, .string ⟨#[]⟩, .int .u64 0] (0, 0) (.struct fi) (heap_alloc_new w2 (.cells #[.int .i64 3, .int .i64 ses, .string ⟨#[]⟩, .string ⟨#[]⟩, .int .i64 0, .int .i64 0, .int .i64 0, .int .i64 0, .string ⟨#[]⟩, .slice Option.none 0 0, .string ⟨#[]⟩, .int .i64 0, .slice Option.none 0 0, .string ⟨#[]⟩, .int .u64 0] 31)) hfi.out rfl hi1.out ?_)
    | (with_reducible refine wpList_store_row rfl _ _ _ rfl (w.heap.size + 1) #[.int .i64 3, .int .i64 ses, .string ⟨#[]⟩, .string ⟨#[]⟩, .int .i64 0, .int .i64 0, .int .i64 0, .int .i64 0, .string ⟨#[]⟩, .slice Option.none 0 0, .string ⟨#[]⟩, .int .i64 0, .slice Option.none 0 0, .string ⟨#[]⟩, .int .u64 0] rfl rfl 31 #[.int .i64 0, .int .i64 0, .string ⟨#[]⟩, .string ⟨#[]⟩, .int .i64 0, .int .i64 0, .int .i64 0, .int .i64 0, .string ⟨#[]⟩, .slice Option.none 0 0, .string ⟨#[]⟩, .int .i64 0, .slice Option.none 0 0, .string ⟨#[]⟩, .int .u64 0] (r3'.out (.cells #[.int .i64 3, .int .i64 ses, .string ⟨#[]⟩, .string ⟨#[]⟩, .int .i64 0, .int .i64 0, .int .i64 0, .int .i64 0, .string ⟨#[]⟩, .slice Option.none 0 0, .string ⟨#[]⟩, .int .i64 0, .slice Option.none 0 0, .string ⟨#[]⟩, .int .u64 0] 31)) hi1.out (Eq.refl _) hone.out ?_))
  unfold InR
  rw [hin.out]
  refine bodyPost_ret (in_resultP (g := w.heap.size + 1) (cs := #[.int .i64 3, .int .i64 ses, .string ⟨#[]⟩, .string ⟨#[]⟩, .int .i64 0, .int .i64 0, .int .i64 0, .int .i64 0, .string ⟨#[]⟩, .slice Option.none 0 0, .string ⟨#[]⟩, .int .i64 0, .slice Option.none 0 0, .string ⟨#[]⟩, .int .u64 0]) rfl rfl (setRow_heap _ _ _ _ _ _ (r3'.out _)) rfl) rfl ?_
  refine ⟨Option.none, 0, 0, Option.none, 0, 0, rfl, ?_, ?_, below_setRow (below_then hbw'.out (below_box w2 _)) (by simp) _⟩
  · exact hds_empty _ _ _ (by simp) (fun _ => rfl)
  · exact hds_empty _ _ _ (by simp) (fun _ => rfl)

set_option maxHeartbeats 16000000 in
set_option maxRecDepth 100000 in
theorem inputP_k5 (x : Ev) (A : Option Addr) (m c : Nat) (w : World) (ha : Hds w A m c x.hs) (hg : GoodE x) (hk : x.kind = 5) :
    Calls Try.prog 7 #[evv x A m c] w (InR w x) := by
  have hgood := Lib.hid (fun W (hW : Below w.heap.size w W) => goodP_any x A m c W (ha.later hW))
  rw [decide_eq_true hg] at hgood
  have hin := Lib.hid (inputE_5 hg hk)
  have hz := in_okE hg
  obtain ⟨kind, ses, tick, me, url, hs, body, status, code, cred, no, k⟩ := x
  simp only at hk
  subst hk
  obtain rfl : ses = 0 := hz.2.2.2 rfl
  clear hg ha hz
  unfold evv at *
  unfold ecell12 at *
  simp only at *
  obtain ⟨fe, hfe⟩ := undEvP
  replace hfe := Lib.hid hfe
  have hie := Lib.hid (show (Try.prog.info? 25).map (·.size) = some (#[.int .i64 5, .int .i64 0, .int .i64 tick, .string me, .string url, .slice A m c, .string body, .int .i64 status, .int .i64 code, .bool cred, .string no, .int .u64 (k : Int)] : Array Value).size from infoEvP)
  have hr0 := Lib.hid ((Below.heap_alloc (w.alloc (.cells #[.int .i64 5, .int .i64 0, .int .i64 tick, .string me, .string url, .slice A m c, .string body, .int .i64 status, .int .i64 code, .bool cred, .string no, .int .u64 (k : Int)] 25)) (.cells #[.int .i64 0, .int .i64 0, .string ⟨#[]⟩, .string ⟨#[]⟩, .int .i64 0, .int .i64 0, .int .i64 0, .int .i64 0, .string ⟨#[]⟩, .slice Option.none 0 0, .string ⟨#[]⟩, .int .i64 0, .slice Option.none 0 0, .string ⟨#[]⟩, .int .u64 0] 31) w.heap.size (by simp)).trans (heap_alloc_new w (.cells #[.int .i64 5, .int .i64 0, .int .i64 tick, .string me, .string url, .slice A m c, .string body, .int .i64 status, .int .i64 code, .bool cred, .string no, .int .u64 (k : Int)] 25)))
  obtain ⟨fi, hfi⟩ := undIn
  replace hfi := Lib.hid hfi
  have hi1 := Lib.hid (show (Try.prog.info? 31).map (·.size) = some (#[.int .i64 4, .int .i64 0, .string ⟨#[]⟩, .string ⟨#[]⟩, .int .i64 0, .int .i64 0, .int .i64 0, .int .i64 0, .string ⟨#[]⟩, .slice Option.none 0 0, .string ⟨#[]⟩, .int .i64 0, .slice Option.none 0 0, .string ⟨#[]⟩, .int .u64 (k : Int)] : Array Value).size from infoIn)
  have hone := Lib.hid (show (#[.int .i64 4, .int .i64 0, .string ⟨#[]⟩, .string ⟨#[]⟩, .int .i64 0, .int .i64 0, .int .i64 0, .int .i64 0, .string ⟨#[]⟩, .slice Option.none 0 0, .string ⟨#[]⟩, .int .i64 0, .slice Option.none 0 0, .string ⟨#[]⟩, .int .u64 (k : Int)] : Array Value).all (·.oneCell') = true by simp [Value.oneCell'])
  go_enter Try.func7, Try.ntmps7
  go_wp2_with (first
    | (go_at_call 11; refine (hgood.out _ (below_then (below_box _ _) (below_box _ _))).mono ?_; rintro e w2 ⟨rfl, hb2⟩; obtain ⟨y, rr, r1, hbw⟩ := in_boxesP w ⟨5, 0, tick, me, url, hs, body, status, code, cred, no, k⟩ A m c _ _ _ hb2; have y0 := y.c0; have y1 := y.c1; have y11 := y.c11; have z0 := fun o => cell_later (below_box w2 o) y.c0; have z5 := fun o => cell_later (below_box w2 o) y.c5; have z6 := fun o => cell_later (below_box w2 o) y.c6; have z7 := fun o => cell_later (below_box w2 o) y.c7; simp only at y0 y1 y11 z0 z5 z6 z7; have rr' := Lib.hid rr; have r1' := Lib.hid r1; have hbw' := Lib.hid hbw; have r3' := Lib.hid (fun o => ((below_box w2 o).block _ (Array.getElem?_eq_some_iff.1 r1).1).trans r1); clear hb2 y rr r1 hbw)
    | (with_reducible refine wpList_load_row rfl _ _ rfl w.heap.size rfl 25 #[.int .i64 5, .int .i64 0, .int .i64 tick, .string me, .string url, .slice A m c, .string body, .int .i64 status, .int .i64 code, .bool cred, .string no, .int .u64 (k : Int)] (0, 0) (.struct fe) hr0.out hfe.out rfl hie.out ?_)
    | (with_reducible refine wpList_load_row rfl _ _ rfl w2.heap.size rfl 31 #[.int .i64 4, .int .i64 0, .string ⟨#[]⟩, .string ⟨#[]⟩, .int .i64 0, .int .i64 0, .int .i64 0, .int .i64 0, .string ⟨#[]⟩, .slice Option.none 0 0, .string ⟨#[]⟩, .int .i64 0, .slice Option.none 0 0, .string ⟨#[]⟩, .int .u64 (k : Int)] (0, 0) (.struct fi) (heap_alloc_new w2 (.cells #[.int .i64 4, .int .i64 0, .string ⟨#[]⟩, .string ⟨#[]⟩, .int .i64 0, .int .i64 0, .int .i64 0, .int .i64 0, .string ⟨#[]⟩, .slice Option.none 0 0, .string ⟨#[]⟩, .int .i64 0, .slice Option.none 0 0, .string ⟨#[]⟩, .int .u64 (k : Int)] 31)) hfi.out rfl hi1.out ?_)
    | (with_reducible refine wpList_store_row rfl _ _ _ rfl (w.heap.size + 1) #[.int .i64 4, .int .i64 0, .string ⟨#[]⟩, .string ⟨#[]⟩, .int .i64 0, .int .i64 0, .int .i64 0, .int .i64 0, .string ⟨#[]⟩, .slice Option.none 0 0, .string ⟨#[]⟩, .int .i64 0, .slice Option.none 0 0, .string ⟨#[]⟩, .int .u64 (k : Int)] rfl rfl 31 #[.int .i64 0, .int .i64 0, .string ⟨#[]⟩, .string ⟨#[]⟩, .int .i64 0, .int .i64 0, .int .i64 0, .int .i64 0, .string ⟨#[]⟩, .slice Option.none 0 0, .string ⟨#[]⟩, .int .i64 0, .slice Option.none 0 0, .string ⟨#[]⟩, .int .u64 0] (r3'.out (.cells #[.int .i64 4, .int .i64 0, .string ⟨#[]⟩, .string ⟨#[]⟩, .int .i64 0, .int .i64 0, .int .i64 0, .int .i64 0, .string ⟨#[]⟩, .slice Option.none 0 0, .string ⟨#[]⟩, .int .i64 0, .slice Option.none 0 0, .string ⟨#[]⟩, .int .u64 (k : Int)] 31)) hi1.out (Eq.refl _) hone.out ?_))
  unfold InR
  rw [hin.out]
  refine bodyPost_ret (in_resultP (g := w.heap.size + 1) (cs := #[.int .i64 4, .int .i64 0, .string ⟨#[]⟩, .string ⟨#[]⟩, .int .i64 0, .int .i64 0, .int .i64 0, .int .i64 0, .string ⟨#[]⟩, .slice Option.none 0 0, .string ⟨#[]⟩, .int .i64 0, .slice Option.none 0 0, .string ⟨#[]⟩, .int .u64 (k : Int)]) rfl rfl (setRow_heap _ _ _ _ _ _ (r3'.out _)) rfl) rfl ?_
  refine ⟨Option.none, 0, 0, Option.none, 0, 0, rfl, ?_, ?_, below_setRow (below_then hbw'.out (below_box w2 _)) (by simp) _⟩
  · exact hds_empty _ _ _ (by simp) (fun _ => rfl)
  · exact hds_empty _ _ _ (by simp) (fun _ => rfl)

set_option maxHeartbeats 16000000 in
set_option maxRecDepth 100000 in
theorem inputP_k6 (x : Ev) (A : Option Addr) (m c : Nat) (w : World) (ha : Hds w A m c x.hs) (hg : GoodE x) (hk : x.kind = 6) :
    Calls Try.prog 7 #[evv x A m c] w (InR w x) := by
  have hgood := Lib.hid (fun W (hW : Below w.heap.size w W) => goodP_any x A m c W (ha.later hW))
  rw [decide_eq_true hg] at hgood
  have hin := Lib.hid (inputE_6 hg hk)
  have hz := in_okE hg
  obtain ⟨kind, ses, tick, me, url, hs, body, status, code, cred, no, k⟩ := x
  simp only at hk
  subst hk
  clear hg ha hz
  unfold evv at *
  unfold ecell12 at *
  simp only at *
  obtain ⟨fe, hfe⟩ := undEvP
  replace hfe := Lib.hid hfe
  have hie := Lib.hid (show (Try.prog.info? 25).map (·.size) = some (#[.int .i64 6, .int .i64 ses, .int .i64 tick, .string me, .string url, .slice A m c, .string body, .int .i64 status, .int .i64 code, .bool cred, .string no, .int .u64 (k : Int)] : Array Value).size from infoEvP)
  have hr0 := Lib.hid ((Below.heap_alloc (w.alloc (.cells #[.int .i64 6, .int .i64 ses, .int .i64 tick, .string me, .string url, .slice A m c, .string body, .int .i64 status, .int .i64 code, .bool cred, .string no, .int .u64 (k : Int)] 25)) (.cells #[.int .i64 0, .int .i64 0, .string ⟨#[]⟩, .string ⟨#[]⟩, .int .i64 0, .int .i64 0, .int .i64 0, .int .i64 0, .string ⟨#[]⟩, .slice Option.none 0 0, .string ⟨#[]⟩, .int .i64 0, .slice Option.none 0 0, .string ⟨#[]⟩, .int .u64 0] 31) w.heap.size (by simp)).trans (heap_alloc_new w (.cells #[.int .i64 6, .int .i64 ses, .int .i64 tick, .string me, .string url, .slice A m c, .string body, .int .i64 status, .int .i64 code, .bool cred, .string no, .int .u64 (k : Int)] 25)))
  obtain ⟨fi, hfi⟩ := undIn
  replace hfi := Lib.hid hfi
  have hi1 := Lib.hid (show (Try.prog.info? 31).map (·.size) = some (#[.int .i64 5, .int .i64 ses, .string ⟨#[]⟩, .string ⟨#[]⟩, .int .i64 0, .int .i64 0, .int .i64 0, .int .i64 0, .string ⟨#[]⟩, .slice Option.none 0 0, .string ⟨#[]⟩, .int .i64 0, .slice Option.none 0 0, .string ⟨#[]⟩, .int .u64 (k : Int)] : Array Value).size from infoIn)
  have hone := Lib.hid (show (#[.int .i64 5, .int .i64 ses, .string ⟨#[]⟩, .string ⟨#[]⟩, .int .i64 0, .int .i64 0, .int .i64 0, .int .i64 0, .string ⟨#[]⟩, .slice Option.none 0 0, .string ⟨#[]⟩, .int .i64 0, .slice Option.none 0 0, .string ⟨#[]⟩, .int .u64 (k : Int)] : Array Value).all (·.oneCell') = true by simp [Value.oneCell'])
  go_enter Try.func7, Try.ntmps7
  go_wp2_with (first
    | (go_at_call 11; refine (hgood.out _ (below_then (below_box _ _) (below_box _ _))).mono ?_; rintro e w2 ⟨rfl, hb2⟩; obtain ⟨y, rr, r1, hbw⟩ := in_boxesP w ⟨6, ses, tick, me, url, hs, body, status, code, cred, no, k⟩ A m c _ _ _ hb2; have y0 := y.c0; have y1 := y.c1; have y11 := y.c11; have z0 := fun o => cell_later (below_box w2 o) y.c0; have z5 := fun o => cell_later (below_box w2 o) y.c5; have z6 := fun o => cell_later (below_box w2 o) y.c6; have z7 := fun o => cell_later (below_box w2 o) y.c7; simp only at y0 y1 y11 z0 z5 z6 z7; have rr' := Lib.hid rr; have r1' := Lib.hid r1; have hbw' := Lib.hid hbw; have r3' := Lib.hid (fun o => ((below_box w2 o).block _ (Array.getElem?_eq_some_iff.1 r1).1).trans r1); clear hb2 y rr r1 hbw)
    | (with_reducible refine wpList_load_row rfl _ _ rfl w.heap.size rfl 25 #[.int .i64 6, .int .i64 ses, .int .i64 tick, .string me, .string url, .slice A m c, .string body, .int .i64 status, .int .i64 code, .bool cred, .string no, .int .u64 (k : Int)] (0, 0) (.struct fe) hr0.out hfe.out rfl hie.out ?_)
    | (with_reducible refine wpList_load_row rfl _ _ rfl w2.heap.size rfl 31 #[.int .i64 5, .int .i64 ses, .string ⟨#[]⟩, .string ⟨#[]⟩, .int .i64 0, .int .i64 0, .int .i64 0, .int .i64 0, .string ⟨#[]⟩, .slice Option.none 0 0, .string ⟨#[]⟩, .int .i64 0, .slice Option.none 0 0, .string ⟨#[]⟩, .int .u64 (k : Int)] (0, 0) (.struct fi) (heap_alloc_new w2 (.cells #[.int .i64 5, .int .i64 ses, .string ⟨#[]⟩, .string ⟨#[]⟩, .int .i64 0, .int .i64 0, .int .i64 0, .int .i64 0, .string ⟨#[]⟩, .slice Option.none 0 0, .string ⟨#[]⟩, .int .i64 0, .slice Option.none 0 0, .string ⟨#[]⟩, .int .u64 (k : Int)] 31)) hfi.out rfl hi1.out ?_)
    | (with_reducible refine wpList_store_row rfl _ _ _ rfl (w.heap.size + 1) #[.int .i64 5, .int .i64 ses, .string ⟨#[]⟩, .string ⟨#[]⟩, .int .i64 0, .int .i64 0, .int .i64 0, .int .i64 0, .string ⟨#[]⟩, .slice Option.none 0 0, .string ⟨#[]⟩, .int .i64 0, .slice Option.none 0 0, .string ⟨#[]⟩, .int .u64 (k : Int)] rfl rfl 31 #[.int .i64 0, .int .i64 0, .string ⟨#[]⟩, .string ⟨#[]⟩, .int .i64 0, .int .i64 0, .int .i64 0, .int .i64 0, .string ⟨#[]⟩, .slice Option.none 0 0, .string ⟨#[]⟩, .int .i64 0, .slice Option.none 0 0, .string ⟨#[]⟩, .int .u64 0] (r3'.out (.cells #[.int .i64 5, .int .i64 ses, .string ⟨#[]⟩, .string ⟨#[]⟩, .int .i64 0, .int .i64 0, .int .i64 0, .int .i64 0, .string ⟨#[]⟩, .slice Option.none 0 0, .string ⟨#[]⟩, .int .i64 0, .slice Option.none 0 0, .string ⟨#[]⟩, .int .u64 (k : Int)] 31)) hi1.out (Eq.refl _) hone.out ?_))
  unfold InR
  rw [hin.out]
  refine bodyPost_ret (in_resultP (g := w.heap.size + 1) (cs := #[.int .i64 5, .int .i64 ses, .string ⟨#[]⟩, .string ⟨#[]⟩, .int .i64 0, .int .i64 0, .int .i64 0, .int .i64 0, .string ⟨#[]⟩, .slice Option.none 0 0, .string ⟨#[]⟩, .int .i64 0, .slice Option.none 0 0, .string ⟨#[]⟩, .int .u64 (k : Int)]) rfl rfl (setRow_heap _ _ _ _ _ _ (r3'.out _)) rfl) rfl ?_
  refine ⟨Option.none, 0, 0, Option.none, 0, 0, rfl, ?_, ?_, below_setRow (below_then hbw'.out (below_box w2 _)) (by simp) _⟩
  · exact hds_empty _ _ _ (by simp) (fun _ => rfl)
  · exact hds_empty _ _ _ (by simp) (fun _ => rfl)

theorem in_new1 (ses : Int) : (#[.int .i64 1, .int .i64 ses, .string ⟨#[]⟩, .string ⟨#[]⟩, .int .i64 0, .int .i64 0, .int .i64 0, .int .i64 0, .string ⟨#[]⟩, .slice Option.none 0 0, .string ⟨#[]⟩, .int .i64 0, .slice Option.none 0 0, .string ⟨#[]⟩, .int .u64 0] : Array Value) = ((#[.int .i64 0, .int .i64 ses, .string ⟨#[]⟩, .string ⟨#[]⟩, .int .i64 0, .int .i64 0, .int .i64 0, .int .i64 0, .string ⟨#[]⟩, .slice Option.none 0 0, .string ⟨#[]⟩, .int .i64 0, .slice Option.none 0 0, .string ⟨#[]⟩, .int .u64 0] : Array Value).toList.take 0 ++ (#[.int .i64 1] : Array Value).toList ++ (#[.int .i64 0, .int .i64 ses, .string ⟨#[]⟩, .string ⟨#[]⟩, .int .i64 0, .int .i64 0, .int .i64 0, .int .i64 0, .string ⟨#[]⟩, .slice Option.none 0 0, .string ⟨#[]⟩, .int .i64 0, .slice Option.none 0 0, .string ⟨#[]⟩, .int .u64 0] : Array Value).toList.drop (0 + (#[.int .i64 1] : Array Value).size)).toArray := rfl
theorem in_new2 (ses code : Int) (me url no body : ByteArray) (A2 : Option Addr) (m2 c2 : Nat) : (#[.int .i64 1, .int .i64 ses, .string me, .string url, .int .i64 (code % 4), .int .i64 (code / 4 % 4), .int .i64 (code / 16 % 4), .int .i64 (code / 64), .string no, .slice A2 m2 c2, .string body, .int .i64 0, .slice Option.none 0 0, .string ⟨#[]⟩, .int .u64 0] : Array Value) = ((#[.int .i64 1, .int .i64 ses, .string ⟨#[]⟩, .string ⟨#[]⟩, .int .i64 0, .int .i64 0, .int .i64 0, .int .i64 0, .string ⟨#[]⟩, .slice Option.none 0 0, .string ⟨#[]⟩, .int .i64 0, .slice Option.none 0 0, .string ⟨#[]⟩, .int .u64 0] : Array Value).toList.take 2 ++ (#[.string me, .string url, .int .i64 (code % 4), .int .i64 (code / 4 % 4), .int .i64 (code / 16 % 4), .int .i64 (code / 64), .string no, .slice A2 m2 c2, .string body] : Array Value).toList ++ (#[.int .i64 1, .int .i64 ses, .string ⟨#[]⟩, .string ⟨#[]⟩, .int .i64 0, .int .i64 0, .int .i64 0, .int .i64 0, .string ⟨#[]⟩, .slice Option.none 0 0, .string ⟨#[]⟩, .int .i64 0, .slice Option.none 0 0, .string ⟨#[]⟩, .int .u64 0] : Array Value).toList.drop (2 + (#[.string me, .string url, .int .i64 (code % 4), .int .i64 (code / 4 % 4), .int .i64 (code / 16 % 4), .int .i64 (code / 64), .string no, .slice A2 m2 c2, .string body] : Array Value).size)).toArray := rfl
theorem in_size1 (v : Value) (ses : Int) : 0 + (#[v] : Array Value).size ≤ (#[.int .i64 0, .int .i64 ses, .string ⟨#[]⟩, .string ⟨#[]⟩, .int .i64 0, .int .i64 0, .int .i64 0, .int .i64 0, .string ⟨#[]⟩, .slice Option.none 0 0, .string ⟨#[]⟩, .int .i64 0, .slice Option.none 0 0, .string ⟨#[]⟩, .int .u64 0] : Array Value).size := by simp
theorem in_size2 (ses code : Int) (me url no body : ByteArray) (A2 : Option Addr) (m2 c2 : Nat) : 2 + (#[.string me, .string url, .int .i64 (code % 4), .int .i64 (code / 4 % 4), .int .i64 (code / 16 % 4), .int .i64 (code / 64), .string no, .slice A2 m2 c2, .string body] : Array Value).size ≤ (#[.int .i64 1, .int .i64 ses, .string ⟨#[]⟩, .string ⟨#[]⟩, .int .i64 0, .int .i64 0, .int .i64 0, .int .i64 0, .string ⟨#[]⟩, .slice Option.none 0 0, .string ⟨#[]⟩, .int .i64 0, .slice Option.none 0 0, .string ⟨#[]⟩, .int .u64 0] : Array Value).size := by simp
theorem in_infoI (v : Value) : (Try.prog.info? 3).map (·.size) = some (#[v] : Array Value).size := by
  have h : (Try.prog.info? 3).map (·.size) = some 1 := by kernel_rfl
  rw [h]
  rfl
theorem in_infoR (code : Int) (me url no body : ByteArray) (A2 : Option Addr) (m2 c2 : Nat) : (Try.prog.info? 27).map (·.size) = some (#[.string me, .string url, .int .i64 (code % 4), .int .i64 (code / 4 % 4), .int .i64 (code / 16 % 4), .int .i64 (code / 64), .string no, .slice A2 m2 c2, .string body] : Array Value).size := infoReq
theorem in_oneI (k : Int) : (#[.int .i64 k] : Array Value).all (·.oneCell') = true := by simp [Value.oneCell']
theorem in_oneR (code : Int) (me url no body : ByteArray) (A2 : Option Addr) (m2 c2 : Nat) : (#[.string me, .string url, .int .i64 (code % 4), .int .i64 (code / 4 % 4), .int .i64 (code / 16 % 4), .int .i64 (code / 64), .string no, .slice A2 m2 c2, .string body] : Array Value).all (·.oneCell') = true := by simp [Value.oneCell']

set_option maxHeartbeats 16000000 in
set_option maxRecDepth 100000 in
theorem inputP_k1 (x : Ev) (A : Option Addr) (m c : Nat) (w : World) (ha : Hds w A m c x.hs) (hg : GoodE x) (hk : x.kind = 1) :
    Calls Try.prog 7 #[evv x A m c] w (InR w x) := by
  have hgood := Lib.hid (fun W (hW : Below w.heap.size w W) => goodP_any x A m c W (ha.later hW))
  have hst := Lib.hid (fun W (hW : Below w.heap.size w W) => started_any x A m c W (ha.later hW) (by have h1 := hg.1.2.2.2.2.2.2.2.2.1; have h2 := ha.len; omega))
  rw [decide_eq_true hg] at hgood
  have hin := Lib.hid (inputE_1 hg hk)
  have hz := in_okE hg
  obtain ⟨kind, ses, tick, me, url, hs, body, status, code, cred, no, k⟩ := x
  simp only at hk
  subst hk
  obtain rfl : k = 0 := hz.1 rfl
  clear hg ha hz
  unfold evv at *
  unfold ecell12 at *
  simp only at *
  obtain ⟨fe, hfe⟩ := undEvP
  replace hfe := Lib.hid hfe
  have hie := Lib.hid (show (Try.prog.info? 25).map (·.size) = some (#[.int .i64 1, .int .i64 ses, .int .i64 tick, .string me, .string url, .slice A m c, .string body, .int .i64 status, .int .i64 code, .bool cred, .string no, .int .u64 0] : Array Value).size from infoEvP)
  have hr0 := Lib.hid ((Below.heap_alloc (w.alloc (.cells #[.int .i64 1, .int .i64 ses, .int .i64 tick, .string me, .string url, .slice A m c, .string body, .int .i64 status, .int .i64 code, .bool cred, .string no, .int .u64 0] 25)) (.cells #[.int .i64 0, .int .i64 0, .string ⟨#[]⟩, .string ⟨#[]⟩, .int .i64 0, .int .i64 0, .int .i64 0, .int .i64 0, .string ⟨#[]⟩, .slice Option.none 0 0, .string ⟨#[]⟩, .int .i64 0, .slice Option.none 0 0, .string ⟨#[]⟩, .int .u64 0] 31) w.heap.size (by simp)).trans (heap_alloc_new w (.cells #[.int .i64 1, .int .i64 ses, .int .i64 tick, .string me, .string url, .slice A m c, .string body, .int .i64 status, .int .i64 code, .bool cred, .string no, .int .u64 0] 25)))
  obtain ⟨fi, hfi⟩ := undIn
  replace hfi := Lib.hid hfi
  go_enter Try.func7, Try.ntmps7
  go_wp2_with (first
    | (go_at_call 11; refine (hgood.out _ (below_then (below_box _ _) (below_box _ _))).mono ?_; rintro e w2 ⟨rfl, hb2⟩; obtain ⟨y, rr, r1, hbw⟩ := in_boxesP w ⟨1, ses, tick, me, url, hs, body, status, code, cred, no, 0⟩ A m c _ _ _ hb2; have y0 := y.c0; have y1 := y.c1; have y11 := y.c11; have z0 := fun o => cell_later (below_box w2 o) y.c0; have z5 := fun o => cell_later (below_box w2 o) y.c5; have z6 := fun o => cell_later (below_box w2 o) y.c6; have z7 := fun o => cell_later (below_box w2 o) y.c7; simp only at y0 y1 y11 z0 z5 z6 z7; have rr' := Lib.hid rr; have r1' := Lib.hid r1; have hbw' := Lib.hid hbw; have r3' := Lib.hid (fun o => ((below_box w2 o).block _ (Array.getElem?_eq_some_iff.1 r1).1).trans r1); have rr3 := Lib.hid (fun o => ((below_box w2 o).block _ (Array.getElem?_eq_some_iff.1 rr).1).trans rr); have hl2 := Lib.hid (Array.getElem?_eq_some_iff.1 r1).1; have hbl := Lib.hid (fun o => below_then hbw (below_box w2 o)); clear hb2 y rr r1 hbw)
    | (go_at_call 21; refine Calls.mono (hst.out _ ?hb) ?_; (case hb => exact hbl.out _); rintro e w3 ⟨A2, m2, c2, rfl, hH, hno, hb3⟩; dsimp only [reqv]; have q3 := Lib.hid ((hb3.block w2.heap.size (by simp)).trans (heap_alloc_new w2 (.cells #[.int .i64 0, .int .i64 ses, .string ⟨#[]⟩, .string ⟨#[]⟩, .int .i64 0, .int .i64 0, .int .i64 0, .int .i64 0, .string ⟨#[]⟩, .slice Option.none 0 0, .string ⟨#[]⟩, .int .i64 0, .slice Option.none 0 0, .string ⟨#[]⟩, .int .u64 0] 31))); have q4 := Lib.hid ((hb3.block (w.heap.size + 1) (by have := hl2.out; simp only [World.size_alloc]; omega)).trans (r3'.out (.cells #[.int .i64 0, .int .i64 ses, .string ⟨#[]⟩, .string ⟨#[]⟩, .int .i64 0, .int .i64 0, .int .i64 0, .int .i64 0, .string ⟨#[]⟩, .slice Option.none 0 0, .string ⟨#[]⟩, .int .i64 0, .slice Option.none 0 0, .string ⟨#[]⟩, .int .u64 0] 31))); have q5 := Lib.hid (setRow_heap w3 w2.heap.size #[.int .i64 0, .int .i64 ses, .string ⟨#[]⟩, .string ⟨#[]⟩, .int .i64 0, .int .i64 0, .int .i64 0, .int .i64 0, .string ⟨#[]⟩, .slice Option.none 0 0, .string ⟨#[]⟩, .int .i64 0, .slice Option.none 0 0, .string ⟨#[]⟩, .int .u64 0] #[.int .i64 1, .int .i64 ses, .string ⟨#[]⟩, .string ⟨#[]⟩, .int .i64 0, .int .i64 0, .int .i64 0, .int .i64 0, .string ⟨#[]⟩, .slice Option.none 0 0, .string ⟨#[]⟩, .int .i64 0, .slice Option.none 0 0, .string ⟨#[]⟩, .int .u64 0] 31 (0, 0) q3.out); have q6 := Lib.hid (setRow_heap (w3.setRow w2.heap.size #[.int .i64 1, .int .i64 ses, .string ⟨#[]⟩, .string ⟨#[]⟩, .int .i64 0, .int .i64 0, .int .i64 0, .int .i64 0, .string ⟨#[]⟩, .slice Option.none 0 0, .string ⟨#[]⟩, .int .i64 0, .slice Option.none 0 0, .string ⟨#[]⟩, .int .u64 0]) w2.heap.size #[.int .i64 1, .int .i64 ses, .string ⟨#[]⟩, .string ⟨#[]⟩, .int .i64 0, .int .i64 0, .int .i64 0, .int .i64 0, .string ⟨#[]⟩, .slice Option.none 0 0, .string ⟨#[]⟩, .int .i64 0, .slice Option.none 0 0, .string ⟨#[]⟩, .int .u64 0] #[.int .i64 1, .int .i64 ses, .string me, .string url, .int .i64 (code % 4), .int .i64 (code / 4 % 4), .int .i64 (code / 16 % 4), .int .i64 (code / 64), .string no, .slice A2 m2 c2, .string body, .int .i64 0, .slice Option.none 0 0, .string ⟨#[]⟩, .int .u64 0] 31 (0, 0) q5.out); have q7 := Lib.hid (((setRow_other (w3.setRow w2.heap.size #[.int .i64 1, .int .i64 ses, .string ⟨#[]⟩, .string ⟨#[]⟩, .int .i64 0, .int .i64 0, .int .i64 0, .int .i64 0, .string ⟨#[]⟩, .slice Option.none 0 0, .string ⟨#[]⟩, .int .i64 0, .slice Option.none 0 0, .string ⟨#[]⟩, .int .u64 0]) w2.heap.size (w.heap.size + 1) #[.int .i64 1, .int .i64 ses, .string me, .string url, .int .i64 (code % 4), .int .i64 (code / 4 % 4), .int .i64 (code / 16 % 4), .int .i64 (code / 64), .string no, .slice A2 m2 c2, .string body, .int .i64 0, .slice Option.none 0 0, .string ⟨#[]⟩, .int .u64 0] (by have := hl2.out; omega)).trans (setRow_other w3 w2.heap.size (w.heap.size + 1) #[.int .i64 1, .int .i64 ses, .string ⟨#[]⟩, .string ⟨#[]⟩, .int .i64 0, .int .i64 0, .int .i64 0, .int .i64 0, .string ⟨#[]⟩, .slice Option.none 0 0, .string ⟨#[]⟩, .int .i64 0, .slice Option.none 0 0, .string ⟨#[]⟩, .int .u64 0] (by have := hl2.out; omega))).trans q4.out); have hi1 := Lib.hid (show (Try.prog.info? 31).map (·.size) = some (#[.int .i64 1, .int .i64 ses, .string me, .string url, .int .i64 (code % 4), .int .i64 (code / 4 % 4), .int .i64 (code / 16 % 4), .int .i64 (code / 64), .string no, .slice A2 m2 c2, .string body, .int .i64 0, .slice Option.none 0 0, .string ⟨#[]⟩, .int .u64 0] : Array Value).size from infoIn); have hone := Lib.hid (show (#[.int .i64 1, .int .i64 ses, .string me, .string url, .int .i64 (code % 4), .int .i64 (code / 4 % 4), .int .i64 (code / 16 % 4), .int .i64 (code / 64), .string no, .slice A2 m2 c2, .string body, .int .i64 0, .slice Option.none 0 0, .string ⟨#[]⟩, .int .u64 0] : Array Value).all (·.oneCell') = true by simp [Value.oneCell']); have hb3' := Lib.hid hb3; have hH' := Lib.hid hH; have hno' := Lib.hid hno; clear hb3 hH hno)
    | (with_reducible refine wpList_load_row rfl _ _ rfl w.heap.size rfl 25 #[.int .i64 1, .int .i64 ses, .int .i64 tick, .string me, .string url, .slice A m c, .string body, .int .i64 status, .int .i64 code, .bool cred, .string no, .int .u64 0] (0, 0) (.struct fe) hr0.out hfe.out rfl hie.out ?_)
    | (with_reducible refine wpList_load_row rfl _ _ rfl w.heap.size rfl 25 #[.int .i64 1, .int .i64 ses, .int .i64 tick, .string me, .string url, .slice A m c, .string body, .int .i64 status, .int .i64 code, .bool cred, .string no, .int .u64 0] (0, 0) (.struct fe) (rr3.out _) hfe.out rfl hie.out ?_)
    | (with_reducible refine wpList_store_at rfl _ _ _ rfl w2.heap.size 0 (.int .i64 1) rfl rfl #[.int .i64 1] (Eq.refl _) 31 #[.int .i64 0, .int .i64 ses, .string ⟨#[]⟩, .string ⟨#[]⟩, .int .i64 0, .int .i64 0, .int .i64 0, .int .i64 0, .string ⟨#[]⟩, .slice Option.none 0 0, .string ⟨#[]⟩, .int .i64 0, .slice Option.none 0 0, .string ⟨#[]⟩, .int .u64 0] #[.int .i64 1, .int .i64 ses, .string ⟨#[]⟩, .string ⟨#[]⟩, .int .i64 0, .int .i64 0, .int .i64 0, .int .i64 0, .string ⟨#[]⟩, .slice Option.none 0 0, .string ⟨#[]⟩, .int .i64 0, .slice Option.none 0 0, .string ⟨#[]⟩, .int .u64 0] q3.out (in_infoI _) (in_new1 _) (in_size1 _ _) (in_oneI _) ?_)
    | (with_reducible refine wpList_store_at rfl _ _ _ rfl w2.heap.size 2 (.agg #[.string me, .string url, .int .i64 (code % 4), .int .i64 (code / 4 % 4), .int .i64 (code / 16 % 4), .int .i64 (code / 64), .string no, .slice A2 m2 c2, .string body]) rfl rfl #[.string me, .string url, .int .i64 (code % 4), .int .i64 (code / 4 % 4), .int .i64 (code / 16 % 4), .int .i64 (code / 64), .string no, .slice A2 m2 c2, .string body] (Eq.refl _) 31 #[.int .i64 1, .int .i64 ses, .string ⟨#[]⟩, .string ⟨#[]⟩, .int .i64 0, .int .i64 0, .int .i64 0, .int .i64 0, .string ⟨#[]⟩, .slice Option.none 0 0, .string ⟨#[]⟩, .int .i64 0, .slice Option.none 0 0, .string ⟨#[]⟩, .int .u64 0] #[.int .i64 1, .int .i64 ses, .string me, .string url, .int .i64 (code % 4), .int .i64 (code / 4 % 4), .int .i64 (code / 16 % 4), .int .i64 (code / 64), .string no, .slice A2 m2 c2, .string body, .int .i64 0, .slice Option.none 0 0, .string ⟨#[]⟩, .int .u64 0] q5.out (in_infoR _ _ _ _ _ _ _ _) (in_new2 _ _ _ _ _ _ _ _ _) (in_size2 _ _ _ _ _ _ _ _ _) (in_oneR _ _ _ _ _ _ _ _) ?_)
    | (with_reducible refine wpList_load_row rfl _ _ rfl w2.heap.size rfl 31 #[.int .i64 1, .int .i64 ses, .string me, .string url, .int .i64 (code % 4), .int .i64 (code / 4 % 4), .int .i64 (code / 16 % 4), .int .i64 (code / 64), .string no, .slice A2 m2 c2, .string body, .int .i64 0, .slice Option.none 0 0, .string ⟨#[]⟩, .int .u64 0] (0, 0) (.struct fi) q6.out hfi.out rfl hi1.out ?_)
    | (with_reducible refine wpList_store_row rfl _ _ _ rfl (w.heap.size + 1) #[.int .i64 1, .int .i64 ses, .string me, .string url, .int .i64 (code % 4), .int .i64 (code / 4 % 4), .int .i64 (code / 16 % 4), .int .i64 (code / 64), .string no, .slice A2 m2 c2, .string body, .int .i64 0, .slice Option.none 0 0, .string ⟨#[]⟩, .int .u64 0] rfl rfl 31 #[.int .i64 0, .int .i64 0, .string ⟨#[]⟩, .string ⟨#[]⟩, .int .i64 0, .int .i64 0, .int .i64 0, .int .i64 0, .string ⟨#[]⟩, .slice Option.none 0 0, .string ⟨#[]⟩, .int .i64 0, .slice Option.none 0 0, .string ⟨#[]⟩, .int .u64 0] q7.out hi1.out (Eq.refl _) hone.out ?_))
  unfold InR
  rw [hin.out]
  have hws := hb3'.out.size
  simp only [World.size_alloc] at hws
  have hwl := hl2.out
  have ha1 : Alt w3 (w3.setRow w2.heap.size #[.int .i64 1, .int .i64 ses, .string ⟨#[]⟩, .string ⟨#[]⟩, .int .i64 0, .int .i64 0, .int .i64 0, .int .i64 0, .string ⟨#[]⟩, .slice Option.none 0 0, .string ⟨#[]⟩, .int .i64 0, .slice Option.none 0 0, .string ⟨#[]⟩, .int .u64 0]) (fun j => j = w2.heap.size) := ⟨rfl, rfl, rfl, by simp [World.setRow], fun k _ hk => setRow_other _ _ _ _ hk⟩
  have hH2 := hH'.out.alt ha1 fun g off e _ he => by have := hno'.out g off e; simp only [World.size_alloc] at this; omega
  have ha2 : Alt (w3.setRow w2.heap.size #[.int .i64 1, .int .i64 ses, .string ⟨#[]⟩, .string ⟨#[]⟩, .int .i64 0, .int .i64 0, .int .i64 0, .int .i64 0, .string ⟨#[]⟩, .slice Option.none 0 0, .string ⟨#[]⟩, .int .i64 0, .slice Option.none 0 0, .string ⟨#[]⟩, .int .u64 0]) ((w3.setRow w2.heap.size #[.int .i64 1, .int .i64 ses, .string ⟨#[]⟩, .string ⟨#[]⟩, .int .i64 0, .int .i64 0, .int .i64 0, .int .i64 0, .string ⟨#[]⟩, .slice Option.none 0 0, .string ⟨#[]⟩, .int .i64 0, .slice Option.none 0 0, .string ⟨#[]⟩, .int .u64 0]).setRow w2.heap.size #[.int .i64 1, .int .i64 ses, .string me, .string url, .int .i64 (code % 4), .int .i64 (code / 4 % 4), .int .i64 (code / 16 % 4), .int .i64 (code / 64), .string no, .slice A2 m2 c2, .string body, .int .i64 0, .slice Option.none 0 0, .string ⟨#[]⟩, .int .u64 0]) (fun j => j = w2.heap.size) := ⟨rfl, rfl, rfl, by simp [World.setRow], fun k _ hk => setRow_other _ _ _ _ hk⟩
  have hH3 := hH2.alt ha2 fun g off e _ he => by have := hno'.out g off e; simp only [World.size_alloc] at this; omega
  refine bodyPost_ret (v := .tuple #[.agg #[.int .i64 1, .int .i64 ses, .string me, .string url, .int .i64 (code % 4), .int .i64 (code / 4 % 4), .int .i64 (code / 16 % 4), .int .i64 (code / 64), .string no, .slice A2 m2 c2, .string body, .int .i64 0, .slice Option.none 0 0, .string ⟨#[]⟩, .int .u64 0], .bool true]) ?hr rfl ?_
  case hr => exact in_resultP (g := w.heap.size + 1) rfl rfl (setRow_heap _ _ _ _ _ _ q7.out) rfl
  refine ⟨A2, m2, c2, Option.none, 0, 0, rfl, hH3.alt (S := fun j => j = w.heap.size + 1) ⟨rfl, rfl, rfl, by simp [World.setRow], fun k _ hk => setRow_other _ _ _ _ hk⟩ fun g off e _ he => ?_, ?_, below_setRow (below_setRow (below_setRow (below_then (below_then hbw'.out (below_box w2 _)) hb3'.out) (by omega) _) (by omega) _) (by omega) _⟩
  · have := hno'.out g off e
    simp only [World.size_alloc] at this
    omega
  · exact hds_empty _ _ _ (by simp) (fun _ => rfl)

set_option maxHeartbeats 16000000 in
set_option maxRecDepth 100000 in
theorem inputP_k3 (x : Ev) (A : Option Addr) (m c : Nat) (w : World) (ha : Hds w A m c x.hs) (hg : GoodE x) (hk : x.kind = 3) :
    Calls Try.prog 7 #[evv x A m c] w (InR w x) := by
  have hgood := Lib.hid (fun W (hW : Below w.heap.size w W) => goodP_any x A m c W (ha.later hW))
  have hcl := Lib.hid (fun W (hW : Below w.heap.size w W) => cloneH21_any A m c x.hs W (ha.later hW) (by have h1 := hg.1.2.2.2.2.2.2.2.2.1; have h2 := ha.len; omega))
  rw [decide_eq_true hg] at hgood
  have hin := Lib.hid (inputE_3 hg hk)
  have hz := in_okE hg
  obtain ⟨kind, ses, tick, me, url, hs, body, status, code, cred, no, k⟩ := x
  simp only at hk
  subst hk
  obtain rfl : k = 0 := hz.2.1 rfl
  clear hg ha hz
  unfold evv at *
  unfold ecell12 at *
  simp only at *
  obtain ⟨fe, hfe⟩ := undEvP
  replace hfe := Lib.hid hfe
  have hie := Lib.hid (show (Try.prog.info? 25).map (·.size) = some (#[.int .i64 3, .int .i64 ses, .int .i64 tick, .string me, .string url, .slice A m c, .string body, .int .i64 status, .int .i64 code, .bool cred, .string no, .int .u64 0] : Array Value).size from infoEvP)
  have hr0 := Lib.hid ((Below.heap_alloc (w.alloc (.cells #[.int .i64 3, .int .i64 ses, .int .i64 tick, .string me, .string url, .slice A m c, .string body, .int .i64 status, .int .i64 code, .bool cred, .string no, .int .u64 0] 25)) (.cells #[.int .i64 0, .int .i64 0, .string ⟨#[]⟩, .string ⟨#[]⟩, .int .i64 0, .int .i64 0, .int .i64 0, .int .i64 0, .string ⟨#[]⟩, .slice Option.none 0 0, .string ⟨#[]⟩, .int .i64 0, .slice Option.none 0 0, .string ⟨#[]⟩, .int .u64 0] 31) w.heap.size (by simp)).trans (heap_alloc_new w (.cells #[.int .i64 3, .int .i64 ses, .int .i64 tick, .string me, .string url, .slice A m c, .string body, .int .i64 status, .int .i64 code, .bool cred, .string no, .int .u64 0] 25)))
  obtain ⟨fi, hfi⟩ := undIn
  replace hfi := Lib.hid hfi
  go_enter Try.func7, Try.ntmps7
  go_wp2_with (first
    | (go_at_call 11; refine (hgood.out _ (below_then (below_box _ _) (below_box _ _))).mono ?_; rintro e w2 ⟨rfl, hb2⟩; obtain ⟨y, rr, r1, hbw⟩ := in_boxesP w ⟨3, ses, tick, me, url, hs, body, status, code, cred, no, 0⟩ A m c _ _ _ hb2; have y0 := y.c0; have y1 := y.c1; have y11 := y.c11; have z0 := fun o => cell_later (below_box w2 o) y.c0; have z5 := fun o => cell_later (below_box w2 o) y.c5; have z6 := fun o => cell_later (below_box w2 o) y.c6; have z7 := fun o => cell_later (below_box w2 o) y.c7; simp only at y0 y1 y11 z0 z5 z6 z7; have rr' := Lib.hid rr; have r1' := Lib.hid r1; have hbw' := Lib.hid hbw; have r3' := Lib.hid (fun o => ((below_box w2 o).block _ (Array.getElem?_eq_some_iff.1 r1).1).trans r1); have rr3 := Lib.hid (fun o => ((below_box w2 o).block _ (Array.getElem?_eq_some_iff.1 rr).1).trans rr); have hl2 := Lib.hid (Array.getElem?_eq_some_iff.1 r1).1; have hbl := Lib.hid (fun o => below_then hbw (below_box w2 o)); have hy := Lib.hid (fun o W' h => (y.later (below_box w2 o)).later (w' := W') h); clear hb2 y rr r1 hbw)
    | (with_reducible refine wpList_load_row rfl _ _ rfl w.heap.size rfl 25 #[.int .i64 3, .int .i64 ses, .int .i64 tick, .string me, .string url, .slice A m c, .string body, .int .i64 status, .int .i64 code, .bool cred, .string no, .int .u64 0] (0, 0) (.struct fe) hr0.out hfe.out rfl hie.out ?_))
  go_region_with (go_at_call 22; refine Calls.mono (hcl.out _ ?hb) ?_; (case hb => first | exact hbl.out _ | exact (hbl.out _).drew | exact (hbl.out _).drew.drew); rintro e w3 ⟨v, rfl, hO, hb3⟩; obtain ⟨A2, m2, c2, rfl, hm2, hH2⟩ := hO.hds'; have hb4 := Lib.hid (show Below (w2.alloc (.cells #[.int .i64 0, .int .i64 ses, .string ⟨#[]⟩, .string ⟨#[]⟩, .int .i64 0, .int .i64 0, .int .i64 0, .int .i64 0, .string ⟨#[]⟩, .slice Option.none 0 0, .string ⟨#[]⟩, .int .i64 0, .slice Option.none 0 0, .string ⟨#[]⟩, .int .u64 0] 31)).heap.size (w2.alloc (.cells #[.int .i64 0, .int .i64 ses, .string ⟨#[]⟩, .string ⟨#[]⟩, .int .i64 0, .int .i64 0, .int .i64 0, .int .i64 0, .string ⟨#[]⟩, .slice Option.none 0 0, .string ⟨#[]⟩, .int .i64 0, .slice Option.none 0 0, .string ⟨#[]⟩, .int .u64 0] 31)) w3 from by first | exact hb3 | exact below_undrew hb3 | exact below_undrew (below_undrew hb3)); have a5' := (hy.out (.cells #[.int .i64 0, .int .i64 ses, .string ⟨#[]⟩, .string ⟨#[]⟩, .int .i64 0, .int .i64 0, .int .i64 0, .int .i64 0, .string ⟨#[]⟩, .slice Option.none 0 0, .string ⟨#[]⟩, .int .i64 0, .slice Option.none 0 0, .string ⟨#[]⟩, .int .u64 0] 31) w3 hb4.out).c5; have a6' := (hy.out (.cells #[.int .i64 0, .int .i64 ses, .string ⟨#[]⟩, .string ⟨#[]⟩, .int .i64 0, .int .i64 0, .int .i64 0, .int .i64 0, .string ⟨#[]⟩, .slice Option.none 0 0, .string ⟨#[]⟩, .int .i64 0, .slice Option.none 0 0, .string ⟨#[]⟩, .int .u64 0] 31) w3 hb4.out).c6; have a7' := (hy.out (.cells #[.int .i64 0, .int .i64 ses, .string ⟨#[]⟩, .string ⟨#[]⟩, .int .i64 0, .int .i64 0, .int .i64 0, .int .i64 0, .string ⟨#[]⟩, .slice Option.none 0 0, .string ⟨#[]⟩, .int .i64 0, .slice Option.none 0 0, .string ⟨#[]⟩, .int .u64 0] 31) w3 hb4.out).c7; simp only at a5' a6' a7'; have hr2 := Lib.hid ((hb4.out.block w2.heap.size (by simp)).trans (heap_alloc_new w2 (.cells #[.int .i64 0, .int .i64 ses, .string ⟨#[]⟩, .string ⟨#[]⟩, .int .i64 0, .int .i64 0, .int .i64 0, .int .i64 0, .string ⟨#[]⟩, .slice Option.none 0 0, .string ⟨#[]⟩, .int .i64 0, .slice Option.none 0 0, .string ⟨#[]⟩, .int .u64 0] 31))); have c0 : w3.cell? ⟨w2.heap.size, 0, Option.none⟩ = some (.int .i64 0) := cell_of_row w3 w2.heap.size 0 _ _ _ hr2.out; have c11 : w3.cell? ⟨w2.heap.size, 11, Option.none⟩ = some (.int .i64 0) := cell_of_row w3 w2.heap.size 11 _ _ _ hr2.out; have c12 : w3.cell? ⟨w2.heap.size, 12, Option.none⟩ = some (.slice Option.none 0 0) := cell_of_row w3 w2.heap.size 12 _ _ _ hr2.out; have c13 : w3.cell? ⟨w2.heap.size, 13, Option.none⟩ = some (.string ⟨#[]⟩) := cell_of_row w3 w2.heap.size 13 _ _ _ hr2.out; have f0 := frozen_of_row w3 w2.heap.size 0 _ _ hr2.out; have f11 := frozen_of_row w3 w2.heap.size 11 _ _ hr2.out; have f12 := frozen_of_row w3 w2.heap.size 12 _ _ hr2.out; have f13 := frozen_of_row w3 w2.heap.size 13 _ _ hr2.out; have hno := Lib.hid (show ∀ g off, A2 = some ⟨g, off, Option.none⟩ → w2.heap.size < g from fun g off e => by subst e; have h9 := (World.ownsRow.lt hO g rfl).1; simp only [World.drew, World.size_alloc] at h9; omega); clear hO hm2 hb3; replace hH2 := Lib.hid hH2)
  all_goals
    have h0 := heap_setCell_same w3 w2.heap.size 0 _ _ (.int .i64 2) hr2.out
    have h1 := heap_setCell_same _ w2.heap.size 11 _ _ (.int .i64 status) h0
    have h2 := heap_setCell_same _ w2.heap.size 12 _ _ (.slice A2 m2 c2) h1
    have h3 := heap_setCell_same _ w2.heap.size 13 _ _ (.string body) h2
    have l0 := alt_set w3 ⟨w2.heap.size, 0, Option.none⟩ (.int .i64 2) (S := fun j => j = w2.heap.size) rfl
    have l1 := l0.trans (alt_set _ ⟨w2.heap.size, 11, Option.none⟩ (.int .i64 status) (S := fun j => j = w2.heap.size) rfl) fun _ _ h => h
    have l2 := l1.trans (alt_set _ ⟨w2.heap.size, 12, Option.none⟩ (.slice A2 m2 c2) (S := fun j => j = w2.heap.size) rfl) fun _ _ h => h
    have hal := l2.trans (alt_set _ ⟨w2.heap.size, 13, Option.none⟩ (.string body) (S := fun j => j = w2.heap.size) rfl) fun _ _ h => h
    have hbw := below_then (hbl.out (.cells #[.int .i64 0, .int .i64 ses, .string ⟨#[]⟩, .string ⟨#[]⟩, .int .i64 0, .int .i64 0, .int .i64 0, .int .i64 0, .string ⟨#[]⟩, .slice Option.none 0 0, .string ⟨#[]⟩, .int .i64 0, .slice Option.none 0 0, .string ⟨#[]⟩, .int .u64 0] 31)) hb4.out
    have hls := hb4.out.size
    simp only [World.size_alloc] at hls
    have hl1 := hl2.out
    have hx := hbw'.out.size
    obtain ⟨V, hV⟩ : ∃ V, V = (((w3.setCell ⟨w2.heap.size, 0, Option.none⟩ (.int .i64 2)).setCell ⟨w2.heap.size, 11, Option.none⟩ (.int .i64 status)).setCell ⟨w2.heap.size, 12, Option.none⟩ (.slice A2 m2 c2)).setCell ⟨w2.heap.size, 13, Option.none⟩ (.string body) := ⟨_, rfl⟩
    rw [← hV] at h3 hal
    have q1 := Lib.hid (show V.heap[w2.heap.size]? = some (.cells #[.int .i64 2, .int .i64 ses, .string ⟨#[]⟩, .string ⟨#[]⟩, .int .i64 0, .int .i64 0, .int .i64 0, .int .i64 0, .string ⟨#[]⟩, .slice Option.none 0 0, .string ⟨#[]⟩, .int .i64 status, .slice A2 m2 c2, .string body, .int .u64 0] 31 (0, 0)) from h3)
    have q2 := Lib.hid (hH2.out.alt hal fun g off e _ he => by have := hno.out g off e; omega)
    have q3 := Lib.hid (below_alt hbw hal hbw.size fun j hj => by omega)
    have q4 := Lib.hid ((hal.block (w.heap.size + 1) (by omega) (by omega)).trans ((hb4.out.block _ (by simp only [World.size_alloc]; omega)).trans (r3'.out (.cells #[.int .i64 0, .int .i64 ses, .string ⟨#[]⟩, .string ⟨#[]⟩, .int .i64 0, .int .i64 0, .int .i64 0, .int .i64 0, .string ⟨#[]⟩, .slice Option.none 0 0, .string ⟨#[]⟩, .int .i64 0, .slice Option.none 0 0, .string ⟨#[]⟩, .int .u64 0] 31))))
    have q5 := hno
    have hV' := Lib.hid hV
    clear h0 h1 h2 h3 l0 l1 l2 hal hbw hls hl1 hx hcl hy hbl hV hb4 hr2
    have hi1 := Lib.hid (show (Try.prog.info? 31).map (·.size) = some (#[.int .i64 2, .int .i64 ses, .string ⟨#[]⟩, .string ⟨#[]⟩, .int .i64 0, .int .i64 0, .int .i64 0, .int .i64 0, .string ⟨#[]⟩, .slice Option.none 0 0, .string ⟨#[]⟩, .int .i64 status, .slice A2 m2 c2, .string body, .int .u64 0] : Array Value).size from infoIn)
    have hone := Lib.hid (show (#[.int .i64 2, .int .i64 ses, .string ⟨#[]⟩, .string ⟨#[]⟩, .int .i64 0, .int .i64 0, .int .i64 0, .int .i64 0, .string ⟨#[]⟩, .slice Option.none 0 0, .string ⟨#[]⟩, .int .i64 status, .slice A2 m2 c2, .string body, .int .u64 0] : Array Value).all (·.oneCell') = true by simp [Value.oneCell'])
    go_wp2_with (first
      | (rw [← hV'.out]; with_reducible refine wpList_load_row rfl _ _ rfl w2.heap.size rfl 31 #[.int .i64 2, .int .i64 ses, .string ⟨#[]⟩, .string ⟨#[]⟩, .int .i64 0, .int .i64 0, .int .i64 0, .int .i64 0, .string ⟨#[]⟩, .slice Option.none 0 0, .string ⟨#[]⟩, .int .i64 status, .slice A2 m2 c2, .string body, .int .u64 0] (0, 0) (.struct fi) q1.out hfi.out rfl hi1.out ?_)
      | (with_reducible refine wpList_store_row rfl _ _ _ rfl (w.heap.size + 1) #[.int .i64 2, .int .i64 ses, .string ⟨#[]⟩, .string ⟨#[]⟩, .int .i64 0, .int .i64 0, .int .i64 0, .int .i64 0, .string ⟨#[]⟩, .slice Option.none 0 0, .string ⟨#[]⟩, .int .i64 status, .slice A2 m2 c2, .string body, .int .u64 0] rfl rfl 31 #[.int .i64 0, .int .i64 0, .string ⟨#[]⟩, .string ⟨#[]⟩, .int .i64 0, .int .i64 0, .int .i64 0, .int .i64 0, .string ⟨#[]⟩, .slice Option.none 0 0, .string ⟨#[]⟩, .int .i64 0, .slice Option.none 0 0, .string ⟨#[]⟩, .int .u64 0] q4.out hi1.out (Eq.refl _) hone.out ?_))
    unfold InR
    rw [hin.out]
    have hl1 := hl2.out
    refine bodyPost_ret (v := .tuple #[.agg #[.int .i64 2, .int .i64 ses, .string ⟨#[]⟩, .string ⟨#[]⟩, .int .i64 0, .int .i64 0, .int .i64 0, .int .i64 0, .string ⟨#[]⟩, .slice Option.none 0 0, .string ⟨#[]⟩, .int .i64 status, .slice A2 m2 c2, .string body, .int .u64 0], .bool true]) ?hr rfl ?_
    case hr => exact in_resultP (g := w.heap.size + 1) rfl rfl (setRow_heap _ _ _ _ _ _ q4.out) rfl
    refine ⟨Option.none, 0, 0, A2, m2, c2, rfl, ?_, q2.out.alt (S := fun j => j = w.heap.size + 1) ⟨rfl, rfl, rfl, by simp [World.setRow], fun k _ hk => setRow_other _ _ _ _ hk⟩ fun g off e _ he => ?_, below_setRow q3.out (by omega) _⟩
    · exact hds_empty _ _ _ (by simp) (fun _ => rfl)
    · have := q5.out g off e
      omega

theorem inputP_any (x : Ev) (A : Option Addr) (m c : Nat) (w : World) (ha : Hds w A m c x.hs) : Calls Try.prog 7 #[evv x A m c] w (InR w x) := by
  by_cases hg : GoodE x
  · rcases hg.kinds with h | h | h | h | h | h | h
    · exact inputP_k1 x A m c w ha hg h
    · exact inputP_else x A m c w ha hg (.inl h)
    · exact inputP_k3 x A m c w ha hg h
    · exact inputP_k4 x A m c w ha hg h
    · exact inputP_k5 x A m c w ha hg h
    · exact inputP_k6 x A m c w ha hg h
    · exact inputP_else x A m c w ha hg (.inr h)
  · exact inputP_bad x A m c w ha hg
end Go.Proofs.Ytodncamohimmmaa
