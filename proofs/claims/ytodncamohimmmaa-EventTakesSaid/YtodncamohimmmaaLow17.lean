/-
  Texts of one sort, one behind the other: numbers, memory, regions, strings, headers. Conditions: those that each theorem states.
-/
import Derived.Test.YtodncamohimmmaaLow7
import Derived.Test.YtodncamohimmmaaLow13
import Derived.Test.YtodncamohimmmaaLow3
import Derived.Test.YtodncamohimmmaaLow15
import Derived.Test.YtodncamohimmmaaLow22

namespace Go.Proofs.Ytodncamohimmmaa
open Go.RowKit Go.Lib Go.Maps Leb

theorem infoPl : (Try.prog.info? 76).map (·.size) = some 2 := by kernel_rfl
set_option maxHeartbeats 8000000 in
set_option maxRecDepth 100000 in
theorem placeOf_any (x : Ev) (A : Option Addr) (m c : Nat) (w : World) :
    Calls Try.prog 33 #[evv x A m c] w fun e w' => e = .returned (streamV x.ses (decide (x.kind = 3))) ∧ Below w.heap.size w w' := by
  obtain ⟨kind, ses, tick, me, url, hs, body, status, code, cred, no, k⟩ := x
  unfold evv
  unfold ecell12 at *
  simp only at *
  go_enter Try.func33, Try.ntmps33
  go_wp2
  have hr := heap_alloc_new (w.alloc (.cells #[.int .i64 kind, .int .i64 ses, .int .i64 tick, .string me, .string url, .slice A m c, .string body, .int .i64 status, .int .i64 code, .bool cred, .string no, .int .u64 (k : Int)] 25)) (.cells #[.int .i64 ses, .bool (kind == 3)] 76)
  simp only [World.size_alloc] at hr
  refine bodyPost_ret (results_cell_row rfl _ _ (w.heap.size + 1) _ _ _ _ rfl hr Try.underlying76 rfl infoPl) rfl ⟨?_, below_then (below_box w _) (below_box _ _)⟩
  unfold streamV
  rw [show (kind == 3) = decide (kind = 3) from rfl]
theorem run_loadEvP (w : World) (g : Nat) (cs : Array Value) (hg : w.heap[g]? = some (.cells cs 25 (0, 0))) (hs : cs.size = 12) : (Instr.loadAt 25 (.pointer (some ⟨g, 0, Option.none⟩))).run Try.prog w = .ok (.agg cs) w := by
  obtain ⟨fs, hd1⟩ := undEvP
  simp only [Instr.loadAt, Instr.sureAddr, Sem.run_bind, Sem.run_pure, Result.andThen_ok, run_loadVar_row w g 25 25 cs (0, 0) (.struct fs) hg hd1 rfl (by rw [hs]; exact infoEvP)]
set_option maxRecDepth 100000 in
theorem run_fieldK0 (w : World) (b : Nat) : (Instr.fieldAt 66 (.pointer (some ⟨b, 0, Option.none⟩)) 0).run Try.prog w = .ok (.pointer (some ⟨b, 0, Option.none⟩)) w := by go_simp
set_option maxRecDepth 100000 in
theorem run_fieldK2 (w : World) (b : Nat) : (Instr.fieldAt 66 (.pointer (some ⟨b, 0, Option.none⟩)) 2).run Try.prog w = .ok (.pointer (some ⟨b, 2, Option.none⟩)) w := by go_simp
set_option maxRecDepth 100000 in
theorem run_fieldEv5 (w : World) (g : Nat) : (Instr.fieldAt 25 (.pointer (some ⟨g, 0, Option.none⟩)) 5).run Try.prog w = .ok (.pointer (some ⟨g, 5, Option.none⟩)) w := by go_simp
set_option maxRecDepth 100000 in
theorem run_loadKM (w : World) (p : Addr) (v : Value) (hc : w.cell? p = some v) : (Instr.loadAt 64 (.pointer (some p))).run Try.prog w = .ok v w := by go_simp
set_option maxRecDepth 100000 in
theorem run_loadKH (w : World) (p : Addr) (v : Value) (hc : w.cell? p = some v) : (Instr.loadAt 22 (.pointer (some p))).run Try.prog w = .ok v w := by go_simp
theorem enters_place (vs : Array Value) (w : World) : (callFunc 33 vs).run Try.prog w = .ok (.enter 33 vs) w := by kernel_rfl
theorem enters_cloneH (vs : Array Value) (w : World) : (callFunc 22 vs).run Try.prog w = .ok (.enter 22 vs) w := by kernel_rfl
theorem wpOp_list {P : Program} {ops : Array Oper} {Q : Exit → Act → World → Prop} {i : Nat} {o : Oper} {a : Act} {w : World} (ho : ops[i]? = some o) (h : wpList P ops Q [o] a w) : wpOp P ops Q i (wpOps P ops Q []) a w := by
  unfold wpOp
  rw [ho]
  exact h
def NewH (B : Nat) (l : List Hd) (v : Value) (w : World) : Prop := ∃ A n c, v = .slice A n c ∧ Hds w A n c l ∧ ∀ g off, A = some ⟨g, off, Option.none⟩ → B ≤ g
theorem NewH.keeps {B : Nat} {l : List Hd} {v : Value} {w w' : World} (h : NewH B l v w) (hk : Keeps w w') : NewH B l v w' := by
  obtain ⟨A, n, c, e, h1, h2⟩ := h
  exact ⟨A, n, c, e, h1.keeps hk, h2⟩
theorem OwnsH.newH {B : Nat} {l : List Hd} {v : Value} {w : World} (h : OwnsH w B v l) : NewH B l v w := by
  obtain ⟨A, c, e, h1⟩ := h.hds
  refine ⟨A, _, c, e, h1, fun g off h2 => ?_⟩
  subst e
  exact (World.ownsRow.lt h g (by rw [h2]; rfl)).1
def kp9 (b mb g B : Nat) (ev : Value) (s : Int) (q : Bool) (A : Option Addr) (m c : Nat) (hs : List Hd) (j : Nat) (v : Value) (w : World) : Prop :=
  match j with
  | 0 => v = .pointer (some ⟨b, 0, Option.none⟩)
  | 1 => v = .pointer (some ⟨b, 0, Option.none⟩)
  | 2 => v = .pointer (some ⟨b, 2, Option.none⟩)
  | 3 => v = .map (some mb)
  | 4 => v = ev
  | 5 => v = streamV s q
  | 6 => v = .pointer (some ⟨g, 5, Option.none⟩)
  | 7 => v = .slice A m c
  | 8 => NewH B hs v w
  | _ => True
theorem kp9_later {b mb g B : Nat} {ev : Value} {s : Int} {q : Bool} {A : Option Addr} {m c : Nat} {hs : List Hd} : Outlives (kp9 b mb g B ev s q A m c hs) := by
  intro j v w w' h hk
  unfold kp9 at h ⊢
  split at h
  all_goals first | exact h.keeps hk | exact h

set_option maxHeartbeats 32000000 in
set_option maxRecDepth 100000 in
theorem keep_list (b tb mb : Nat) (T0 L : Nat → Prop) (ks : List (Int × Bool)) (val : Int → Bool → Value) (k : Bk) (x : Ev) (A : Option Addr) (m c : Nat) (w : World) (hB : BkP w b tb mb T0 L ks val k) (hA : HdO w A m c x.hs (inK b mb T0 L)) (hm : m ≤ 1000000) (hk : x.kind = 1 ∨ x.kind = 2 ∨ x.kind = 3) (hs : 0 ≤ x.ses ∧ x.ses ≤ 1048576) :
    Calls Try.prog 36 #[.pointer (some ⟨b, 0, Option.none⟩), evv x A m c] w fun e w' => e = .returned (.tuple #[]) ∧ ∃ L' ks' val', BkP w' b tb mb T0 L' ks' val' { k with tick := x.tick, look := lookE k.look x } ∧ Alt w w' (inK b mb T0 L) ∧ ∀ j, L' j → L j ∨ w.heap.size ≤ j := by
  have hblt := hB.lt
  have hrb := hB.blk
  have hbox := below_box (w.setCell ⟨b, 1, Option.none⟩ (.int .i64 x.tick)) (.cells (ecell12 x A m c) 25)
  obtain ⟨V, hV⟩ : ∃ V, V = ((w.setCell ⟨b, 1, Option.none⟩ (.int .i64 x.tick)).alloc (.cells (ecell12 x A m c) 25)) := ⟨_, rfl⟩
  have hBV := (hB.tick x.tick).later hbox
  have hset := alt_set w ⟨b, 1, Option.none⟩ (.int .i64 x.tick) (S := fun j => j = b) rfl
  have haV := (hset.mono (S' := inK b mb T0 L) fun j _ e => .inl e).behind hbox
  have hnb : ∀ g off, A = some ⟨g, off, Option.none⟩ → 0 < m → g < w.heap.size := fun g off e h0 => by have h9 := hA.rd; rw [e] at h9; exact h9.block h0
  have hev : V.heap[w.heap.size]? = some (.cells (ecell12 x A m c) 25 (0, 0)) := by rw [hV]; have := heap_alloc_new (w.setCell ⟨b, 1, Option.none⟩ (.int .i64 x.tick)) (.cells (ecell12 x A m c) 25); simpa [World.setCell] using this
  rw [← hV] at hBV haV
  have hlt := (Array.getElem?_eq_some_iff.1 hev).1
  have c1 := hB.cell.2.1
  have f1 := hB.free 1
  have hAV := Lib.hid ((hA.rd.alt hset (Off.mono hA.off fun j e => .inl e)).later hbox)
  rw [← hV] at hAV
  replace hBV := Lib.hid hBV
  replace haV := Lib.hid haV
  replace hev := Lib.hid hev
  replace hlt := Lib.hid hlt
  have hV' := Lib.hid hV
  have hlow := Lib.hid hB.low
  have hk' := Lib.hid hk
  have hs' := Lib.hid hs
  clear hrb hbox hset hnb hV hA hB hs
  have hA := hAV
  clear hAV
  have y2 := (evAt_new w x A m c 25).c2
  have y0 := (evAt_new (w.setCell ⟨b, 1, Option.none⟩ (.int .i64 x.tick)) x A m c 25).c0
  rw [show (w.setCell ⟨b, 1, Option.none⟩ (.int .i64 x.tick)).heap.size = w.heap.size by simp [World.setCell]] at y0
  unfold evv
  unfold ecell12 at *
  rcases hk with q1 | q1 | q1
  all_goals
    have b1 : (x.kind == 1) = decide (x.kind = 1) := rfl
    have b2 : (x.kind == 2) = decide (x.kind = 2) := rfl
    have b3 : (x.kind == 3) = decide (x.kind = 3) := rfl
    first
      | (have d1 : decide (x.kind = 1) = true := decide_eq_true q1; rw [d1] at b1)
      | (have d2 : decide (x.kind = 2) = true := decide_eq_true q1; have d1 : decide (x.kind = 1) = false := decide_eq_false (by omega); rw [d1] at b1; rw [d2] at b2)
      | (have d3 : decide (x.kind = 3) = true := decide_eq_true q1; have d1 : decide (x.kind = 1) = false := decide_eq_false (by omega); have d2 : decide (x.kind = 2) = false := decide_eq_false (by omega); rw [d1] at b1; rw [d2] at b2; rw [d3] at b3)
    replace q1 := Lib.hid q1
    go_enter Try.func36, Try.ntmps36
    go_wp2
    rw [← hV'.out]
    clear y0 y2 c1 f1
    refine wp_region_tail 9 3 (by decide) (by kernel_rfl) (RInv 24 [15, 16, 17, 18, 19, 20, 21, 22, 23] _ (kp9 b mb w.heap.size V.heap.size (evv x A m c) x.ses (decide (x.kind = 3)) A m c x.hs) V NoMore) (by kernel_rfl) (by kernel_rfl) (RInv.start rfl trivial (Below.refl _ _).drew) ?_ ?_
    · intro i hi D a w9 hI hcl hnd hpre
      have hi' : i < 9 := hi
      have hcase : i = 0 ∨ i = 1 ∨ i = 2 ∨ i = 3 ∨ i = 4 ∨ i = 5 ∨ i = 6 ∨ i = 7 ∨ i = 8 := by omega
      have hF := hI.fact
      rcases hcase with rfl | rfl | rfl | rfl | rfl | rfl | rfl | rfl | rfl
      · exact wpOp_move rfl (wanted_free rfl) _ rfl _ (hI.same 0 (by decide)) (hI.add (by decide) kp9_later (by decide) (Below.refl _ _) rfl)
      · exact wpOp_nil9 rfl (wanted_free rfl) _ rfl _ (hF 0 (hpre 0 (by kernel_rfl))) (hI.add (by decide) kp9_later (by decide) (Below.refl _ _) rfl)
      · exact wpOp_field rfl (wanted_free rfl) _ _ _ rfl _ _ (hF 1 (hpre 1 (by kernel_rfl))) (run_fieldK2 w9 b) (hI.add (by decide) kp9_later (by decide) (Below.refl _ _) rfl)
      · exact wpOp_load rfl (wanted_free rfl) _ _ rfl _ _ (hF 2 (hpre 2 (by kernel_rfl))) (run_loadKM w9 _ _ (hBV.out.later hI.below).cell.2.2) (hI.add (by decide) kp9_later (by decide) (Below.refl _ _) rfl)
      · exact wpOp_load rfl (wanted_free rfl) _ _ rfl _ _ (hI.same 3 (by decide)) (run_loadEvP w9 _ _ ((hI.below.block _ hlt.out).trans hev.out) rfl) (hI.add (by decide) kp9_later (by decide) (Below.refl _ _) rfl)
      · exact wpOp_call1 rfl (wanted_free rfl) 33 _ _ rfl _ (hF 4 (hpre 4 (by kernel_rfl))) (enters_place _ _) (placeOf_any x A m c w9) (fun e w' h => ⟨_, h.1, hI.add (by decide) kp9_later (by decide) h.2 rfl⟩)
      · exact wpOp_field rfl (wanted_free rfl) _ _ _ rfl _ _ (hI.same 3 (by decide)) (run_fieldEv5 w9 w.heap.size) (hI.add (by decide) kp9_later (by decide) (Below.refl _ _) rfl)
      · exact wpOp_load rfl (wanted_free rfl) _ _ rfl _ _ (hF 6 (hpre 6 (by kernel_rfl))) (run_loadKH w9 _ _ (EvAt.row ((hI.below.block _ hlt.out).trans hev.out) : EvAt w9 w.heap.size x A m c).c5) (hI.add (by decide) kp9_later (by decide) (Below.refl _ _) rfl)
      · exact wpOp_call1 rfl (wanted_free rfl) 22 _ _ rfl _ (hF 7 (hpre 7 (by kernel_rfl))) (enters_cloneH _ _) (cloneH21_any A m c x.hs w9 (hA.out.later hI.below) hm) (fun e w' h9 => by
      obtain ⟨r, rfl, hO, hb⟩ := h9
      exact ⟨_, rfl, hI.add (by decide) kp9_later (by decide) hb (OwnsH.newH (OwnsH.low hO hI.below.size))⟩)
    · intro D a w5 hI hall
      have e18 : a.eval (.tmp 18) = _ := hI.fact 3 (hall 3 (by decide))
      have e20 : a.eval (.tmp 20) = _ := hI.fact 5 (hall 5 (by decide))
      obtain ⟨A2, m2, c2, e23, hH2, hn2⟩ := hI.fact 8 (hall 8 (by decide))
      have hbl := Lib.hid hI.below
      have hdf := hI.defs
      clear hI hall
      show wpOps _ _ _ [9] a w5
      rw [wpOps_cons]
      have hB5 := Lib.hid (hBV.out.later hbl.out)
      refine wpOp_list rfl ?_
      refine wpList_store_V rfl _ _ _ 64 22 rfl keyW_stream Try.underlying64 e18 hB5.out.map x.ses (decide (x.kind = 3)) (by have := hs'.out; unfold inDom; exact this) e20 _ e23 fun w6 hM hg => ?_
      have hls := hbl.out.size
      have hlw := Nat.le_of_lt hlt.out
      have hst := Lib.hid (hB5.out.store hM hg hH2 fun g off e h0 hj => by have h1 := hn2 g off e; have h2 := hlow.out g hj; omega)
      have hal : Alt V w6 (inK b mb T0 L) := Alt.ahead hbl.out (alt_grown hg (S := inK b mb T0 L) fun j e => by injection e with e; exact .inr (.inr (.inl e.symm)))
      have hal2 := Lib.hid (haV.out.trans hal fun _ _ h => h)
      have hnew := Lib.hid (fun j (hj : L j ∨ ∃ off, A2 = some ⟨j, off, Option.none⟩ ∧ 0 < m2) => (hj.elim .inl fun ⟨off, e, _⟩ => .inr (by have := hn2 j off e; omega) : L j ∨ w.heap.size ≤ j))
      have q9 := q1.out
      have hlk : (fun s a => if s = x.ses ∧ a = decide (x.kind = 3) then x.hs else k.look s a) = lookE k.look x := by
        funext s a
        unfold lookE
        have h9 : x.kind ≤ 3 := by omega
        simp [h9]
      have hst' := Lib.hid (show BkP w6 b tb mb T0 (fun j => L j ∨ ∃ off, A2 = some ⟨j, off, Option.none⟩ ∧ 0 < m2) _ _ { k with tick := x.tick, look := lookE k.look x } by rw [← hlk]; exact hst.out)
      clear hst hal hls hlw hM hg hH2 hn2 hlk q9
      go_wp2
      refine bodyPost_end (results_none rfl _ _ _) (by first | exact hdf | rfl) ⟨rfl, ?_⟩
      exact ⟨_, ⟨_, _, hst'.out⟩, hal2.out, hnew.out⟩

set_option maxHeartbeats 16000000 in
set_option maxRecDepth 100000 in
theorem keep_none (b tb mb : Nat) (T0 L : Nat → Prop) (ks : List (Int × Bool)) (val : Int → Bool → Value) (k : Bk) (x : Ev) (A : Option Addr) (m c : Nat) (w : World) (hB : BkP w b tb mb T0 L ks val k) (hk : 3 < x.kind) :
    Calls Try.prog 36 #[.pointer (some ⟨b, 0, Option.none⟩), evv x A m c] w fun e w' => e = .returned (.tuple #[]) ∧ BkP w' b tb mb T0 L ks val { k with tick := x.tick, look := lookE k.look x } ∧ Alt w w' (inK b mb T0 L) := by
  have hbox := below_box (w.setCell ⟨b, 1, Option.none⟩ (.int .i64 x.tick)) (.cells (ecell12 x A m c) 25)
  have hBV := Lib.hid ((hB.tick x.tick).later hbox)
  have hset := alt_set w ⟨b, 1, Option.none⟩ (.int .i64 x.tick) (S := fun j => j = b) rfl
  have haV := Lib.hid ((hset.mono (S' := inK b mb T0 L) fun j _ e => .inl e).behind hbox)
  have c1 := hB.cell.2.1
  have f1 := hB.free 1
  have hblt := hB.lt
  have hlk : lookE k.look x = k.look := by
    funext s a
    unfold lookE
    rw [if_neg (fun h => by omega)]
  rw [hlk]
  have y2 := (evAt_new w x A m c 25).c2
  have y0 := (evAt_new (w.setCell ⟨b, 1, Option.none⟩ (.int .i64 x.tick)) x A m c 25).c0
  rw [show (w.setCell ⟨b, 1, Option.none⟩ (.int .i64 x.tick)).heap.size = w.heap.size by simp [World.setCell]] at y0
  have b1 : (x.kind == 1) = false := by simp; omega
  have b2 : (x.kind == 2) = false := by simp; omega
  have b3 : (x.kind == 3) = false := by simp; omega
  have d1 : decide (x.kind = 1) = false := decide_eq_false (by omega)
  have d2 : decide (x.kind = 2) = false := decide_eq_false (by omega)
  have d3 : decide (x.kind = 3) = false := decide_eq_false (by omega)
  clear hB hbox hset hk hlk
  unfold evv
  unfold ecell12 at *
  go_enter Try.func36, Try.ntmps36
  go_wp2
  exact bodyPost_end (results_none rfl _ _ _) rfl ⟨rfl, hBV.out, haV.out⟩
theorem keep_any (b tb mb : Nat) (T0 L : Nat → Prop) (ks : List (Int × Bool)) (val : Int → Bool → Value) (k : Bk) (x : Ev) (A : Option Addr) (m c : Nat) (w : World) (hB : BkP w b tb mb T0 L ks val k) (hA : HdO w A m c x.hs (inK b mb T0 L)) (hm : m ≤ 1000000) (hk : 1 ≤ x.kind) (hs : 0 ≤ x.ses ∧ x.ses ≤ 1048576) :
    Calls Try.prog 36 #[.pointer (some ⟨b, 0, Option.none⟩), evv x A m c] w fun e w' => e = .returned (.tuple #[]) ∧ ∃ L' ks' val', BkP w' b tb mb T0 L' ks' val' { k with tick := x.tick, look := lookE k.look x } ∧ Alt w w' (inK b mb T0 L) ∧ ∀ j, L' j → L j ∨ w.heap.size ≤ j := by
  by_cases h3 : 3 < x.kind
  · refine (keep_none b tb mb T0 L ks val k x A m c w hB h3).mono ?_
    rintro e w' ⟨rfl, h1, h2⟩
    exact ⟨rfl, _, _, _, h1, h2, fun j hj => .inl hj⟩
  · exact keep_list b tb mb T0 L ks val k x A m c w hB hA hm (by omega) hs
end Go.Proofs.Ytodncamohimmmaa

namespace Go.Proofs.Ytodncamohimmmaa
open Go.RowKit Go.Lib Go.Maps Leb

theorem infoW : (Try.prog.info? 79).map (·.size) = some 3 := by kernel_rfl
set_option maxRecDepth 100000 in
theorem run_allocW (w : World) : (Instr.alloc 79 true (.tuple #[])).run Try.prog w = .ok (.pointer (some ⟨w.heap.size, 0, Option.none⟩)) (w.alloc (.cells #[.slice Option.none 0 0, .pointer Option.none, .slice Option.none 0 0] 79)) := by go_simp
set_option maxRecDepth 100000 in
theorem run_buildW (w : World) (A B : Option Addr) (n c n' c' : Nat) (p : Option Addr) : (Instr.build 79 #[(0, .slice A n c), (1, .pointer p), (2, .slice B n' c')]).run Try.prog w = .ok (.agg #[.slice A n c, .pointer p, .slice B n' c']) w := by go_simp
theorem run_storeRowW (w : World) (h : Nat) (old cs : Array Value) (hg : w.heap[h]? = some (.cells old 79 (0, 0))) (ho : old.size = 3) (hs : cs.size = 3) (h1 : cs.all (·.oneCell') = true) : (Instr.storeAt 79 (.pointer (some ⟨h, 0, Option.none⟩)) (.agg cs)).run Try.prog w = .ok () (w.setRow h cs) := by
  simp only [Instr.storeAt, Instr.sureAddr, Sem.run_bind, Sem.run_pure, Result.andThen_ok, run_storeVar_row w h 79 79 old cs hg (by rw [hs]; exact infoW) (by omega) h1]
theorem wpOp_alloc {P : Program} {ops : Array Oper} {Q : Exit → Act → World → Prop} {i : Nat} {o : Oper} {a : Act} {w w' : World} {K : Act → World → Prop} (ho : ops[i]? = some o) (hw : Region.wanted o (yielded ops a.tmps) = true) (t : TypeId) (hop : o.op = .alloc t) (v : Value) (hr : (Instr.alloc t true (.tuple #[])).run P w = .ok v w') (hK : K (a.put o.dst v) w') : wpOp P ops Q i K a w :=
  wpOp_value ho hw (v := v) (w' := w') (by simp only [execOp, hop, Sem.run_bind, hr]; rfl) hK
theorem wpOp_lookup {P : Program} {ops : Array Oper} {Q : Exit → Act → World → Prop} {i : Nat} {o : Oper} {a : Act} {w : World} {K : Act → World → Prop} (ho : ops[i]? = some o) (hw : Region.wanted o (yielded ops a.tmps) = true) (t : TypeId) (m x : Operand) (hop : o.op = .lookup t m x false) (u u' v : Value) (hm : a.eval m = u) (hx : a.eval x = u') (hr : (Instr.lookup t u u' false).run P w = .ok v w) (hK : K (a.put o.dst v) w) : wpOp P ops Q i K a w :=
  wpOp_value ho hw (v := v) (w' := w) (by simp only [execOp, hop, hm, hx, Sem.run_bind, hr]; rfl) hK
theorem enters_cloneB (vs : Array Value) (w : World) : (callFunc 32 vs).run Try.prog w = .ok (.enter 32 vs) w := by kernel_rfl
structure RX (B : Nat) (X : List Int) (tb : Nat) (Aw : Option Addr) (nw cw : Nat) (D : Nat → Prop) (a : Act) (w : World) : Prop where
  low : B ≤ w.heap.size
  own : D 1 → Owns w B 5 (a.eval (.tmp 26)) X
  bld : D 13 → a.eval (.tmp 38) = .agg #[a.eval (.tmp 26), .pointer (some ⟨tb, 0, Option.none⟩), .slice Aw nw cw]
  alc : D 14 → ∃ h, a.eval (.tmp 8) = .pointer (some ⟨h, 0, Option.none⟩) ∧ w.heap[h]? = some (.cells #[.slice Option.none 0 0, .pointer Option.none, .slice Option.none 0 0] 79 (0, 0)) ∧ B ≤ h ∧ (D 1 → (a.eval (.tmp 26)).ownBlock ≠ some h)
section
variable {B : Nat} {X : List Int} {tb : Nat} {Aw : Option Addr} {nw cw : Nat} {D : Nat → Prop} {a : Act} {w w' : World}
theorem RX.start (h : B ≤ w.heap.size) : RX B X tb Aw nw cw (fun _ => False) a w := ⟨h, fun h => h.elim, fun h => h.elim, fun h => h.elim⟩
theorem RX.pure (h : RX B X tb Aw nw cw D a w) {i s : Nat} (z : Value) (hb : Below w.heap.size w w') (hi : i ≠ 1 ∧ i ≠ 13 ∧ i ≠ 14) (hs : s ≠ 26 ∧ s ≠ 38 ∧ s ≠ 8) : RX B X tb Aw nw cw (fun j => D j ∨ j = i) (a.put (some s) z) w' := by
  refine ⟨Nat.le_trans h.low hb.size, fun h1 => ?_, fun h1 => ?_, fun h1 => ?_⟩
  · rw [eval_put_other _ _ (Ne.symm hs.1)]
    exact (h.own (h1.resolve_right (Ne.symm hi.1))).kept hb (Nat.le_refl _)
  · rw [eval_put_other _ _ (Ne.symm hs.2.1), eval_put_other _ _ (Ne.symm hs.1)]
    exact h.bld (h1.resolve_right (Ne.symm hi.2.1))
  · obtain ⟨p, e, hp, hB, hn⟩ := h.alc (h1.resolve_right (Ne.symm hi.2.2))
    refine ⟨p, by rw [eval_put_other _ _ (Ne.symm hs.2.2)]; exact e, (hb.block p (Array.getElem?_eq_some_iff.1 hp).1).trans hp, hB, fun h2 => ?_⟩
    rw [eval_put_other _ _ (Ne.symm hs.1)]
    exact hn (h2.resolve_right (Ne.symm hi.1))
theorem RX.op1 (h : RX B X tb Aw nw cw D a w) {r : Value} (hb : Below w.heap.size w w') (ho : Owns w' w.heap.size 5 r X) (hn : ¬ D 13) (hsz : 26 < a.tmps.size) : RX B X tb Aw nw cw (fun j => D j ∨ j = 1) (a.put (some 26) r) w' := by
  refine ⟨Nat.le_trans h.low hb.size, fun _ => ?_, fun h1 => (hn (h1.resolve_right (by decide))).elim, fun h1 => ?_⟩
  · rw [eval_put_same _ _ _ hsz]
    exact ho.low h.low
  · obtain ⟨p, e, hp, hB, _⟩ := h.alc (h1.resolve_right (by decide))
    have hlt := (Array.getElem?_eq_some_iff.1 hp).1
    refine ⟨p, by rw [eval_put_other _ _ (by decide)]; exact e, (hb.block p hlt).trans hp, hB, fun _ => ?_⟩
    rw [eval_put_same _ _ _ hsz]
    intro e2
    have := (ho.2.lt p e2).1
    omega
theorem RX.op13 (h : RX B X tb Aw nw cw D a w) (hsz : 38 < a.tmps.size) : RX B X tb Aw nw cw (fun j => D j ∨ j = 13) (a.put (some 38) (.agg #[a.eval (.tmp 26), .pointer (some ⟨tb, 0, Option.none⟩), .slice Aw nw cw])) w := by
  refine ⟨h.low, fun h1 => ?_, fun _ => ?_, fun h1 => ?_⟩
  · rw [eval_put_other _ _ (by decide)]
    exact h.own (h1.resolve_right (by decide))
  · rw [eval_put_same _ _ _ hsz, eval_put_other _ _ (by decide)]
  · obtain ⟨p, e, hp, hB, hn⟩ := h.alc (h1.resolve_right (by decide))
    refine ⟨p, by rw [eval_put_other _ _ (by decide)]; exact e, hp, hB, fun h2 => ?_⟩
    rw [eval_put_other _ _ (by decide)]
    exact hn (h2.resolve_right (by decide))
theorem RX.op14 (h : RX B X tb Aw nw cw D a w) (hsz : 8 < a.tmps.size) : RX B X tb Aw nw cw (fun j => D j ∨ j = 14) (a.put (some 8) (.pointer (some ⟨w.heap.size, 0, Option.none⟩))) (w.alloc (.cells #[.slice Option.none 0 0, .pointer Option.none, .slice Option.none 0 0] 79)) := by
  have hb := below_box w (.cells #[.slice Option.none 0 0, .pointer Option.none, .slice Option.none 0 0] 79)
  refine ⟨Nat.le_trans h.low hb.size, fun h1 => ?_, fun h1 => ?_, fun _ => ⟨w.heap.size, by rw [eval_put_same _ _ _ hsz], heap_alloc_new w _, h.low, fun h1 => ?_⟩⟩
  · rw [eval_put_other _ _ (by decide)]
    exact (h.own (h1.resolve_right (by decide))).kept hb (Nat.le_refl _)
  · rw [eval_put_other _ _ (by decide), eval_put_other _ _ (by decide)]
    exact h.bld (h1.resolve_right (by decide))
  · rw [eval_put_other _ _ (by decide)]
    intro e
    have := ((h.own (h1.resolve_right (by decide))).2.lt _ e).2
    omega
end
structure WM (w : World) (tb g h : Nat) (x : Ev) (A : Option Addr) (m c : Nat) (X : List Int) (Aw : Option Addr) (nw cw : Nat) (out : Value) (W : World) : Prop where
  below : Below w.heap.size w W
  own : Owns W w.heap.size 5 out X
  away : ∀ q, out.ownBlock = some q → q ≠ g ∧ q ≠ h
  bh : W.heap[h]? = some (.cells #[out, .pointer (some ⟨tb, 0, Option.none⟩), .slice Aw nw cw] 79 (0, 0))
  bg : W.heap[g]? = some (.cells (ecell12 x A m c) 25 (0, 0))
  gw : w.heap.size ≤ g
  hw : w.heap.size ≤ h
  gh : g ≠ h
theorem WM.wr {w W : World} {b tb mb : Nat} {T0 L : Nat → Prop} {ks : List (Int × Bool)} {val : Int → Bool → Value} {k : Bk} {g h : Nat} {x : Ev} {A : Option Addr} {m c : Nat} {X : List Int} {Aw : Option Addr} {nw cw : Nat} {out : Value} (H : WM w tb g h x A m c X Aw nw cw out W) (hB : BkP w b tb mb T0 L ks val k) (d : Int) :
    WR w b tb mb T0 L ks val k g h W.heap.size x A m c d Aw nw cw k.tab X out out (W.alloc (.cells #[.int .i64 d] 3)) := by
  have hb := below_box W (.cells #[.int .i64 d] 3)
  have l1 := (Array.getElem?_eq_some_iff.1 H.bg).1
  have l2 := (Array.getElem?_eq_some_iff.1 H.bh).1
  have hsz := H.below.size
  have hg := H.gw
  have hh := H.hw
  refine ⟨⟨T0, (hB.later H.below).later hb, fun j hj => .inl hj, fun q e hq => ?_, fun hq => ?_, fun hq => ?_, fun hq => ?_⟩, (alt_below H.below T0).behind hb, H.own.kept hb (Nat.le_refl _), fun q e => ⟨(H.away q e).1, (H.away q e).2, ?_⟩, (hb.block _ l2).trans H.bh, (hb.block _ l1).trans H.bg, heap_alloc_new W _, hg, hh, hsz, H.gh, by omega, hB.lt, hB.map.lt, hB.lowL⟩
  · have h1 := (H.own.2.lt q e).1
    have h2 := hB.tab.low q hq
    omega
  · have := hB.tab.low g hq
    omega
  · have := hB.tab.low h hq
    omega
  · have := hB.tab.low _ hq
    omega
  · have := (H.own.2.lt q e).2
    omega
set_option maxRecDepth 100000 in
theorem unusable_no (b tb : Nat) (w : World) (hc : w.cell? ⟨b, 0, Option.none⟩ = some (.pointer (some ⟨tb, 0, Option.none⟩))) : Calls Try.prog 31 #[.pointer (some ⟨b, 0, Option.none⟩)] w fun e w' => e = .returned (.bool false) ∧ w' = w := by
  go_enter Try.func31, Try.ntmps31
  go_wp2
  go_ret
  exact ⟨rfl, rfl⟩
end Go.Proofs.Ytodncamohimmmaa
