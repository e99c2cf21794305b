/-
  The reference's Take of layer 21, where the first number is a kind. Conditions: those that each theorem states.
-/
import Derived.Test.YtodncamohimmmaaLow21
import Derived.Deep.CutBlock
import Derived.StillTailTactics
namespace Go.Proofs.Ytodncamohimmmaa
open Go.RowKit Go.Lib Go.Maps Leb

def TakEE (W : World) (b t : Nat) (T0 : Nat → Prop) (u : Value) (ls : List Ln) (r : TookE) (e : Ending) (w' : World) : Prop :=
  ∃ Ax m cx T1 u' ls', e = .returned (.tuple #[evv r.1.1 Ax m cx, .int .i64 r.1.2.1, .int .i64 r.1.2.2]) ∧
    (r.1.2.2 = 0 → RBk w' b t T1 u' ls' r.2.tab r.2.tick ∧ (∀ s a, findL ls' s a = r.2.look s a) ∧ ls'.length ≤ ls.length + 1 ∧ ∀ l ∈ ls', (∃ l0 ∈ ls, l.A = l0.A ∧ l.n = l0.n) ∨ (∀ g off, l.A = some ⟨g, off, Option.none⟩ → 0 < l.n → W.heap.size ≤ g)) ∧
      Alt W w' (inB b T0 u) ∧ (∀ j, inB b T1 u' j → inB b T0 u j ∨ W.heap.size ≤ j) ∧ Hds w' Ax m cx r.1.1.hs
theorem alt_setRow {w W : World} {S : Nat → Prop} (h : Alt w W S) {g : Nat} (hg : w.heap.size ≤ g) (cs : Array Value) : Alt w (W.setRow g cs) S :=
  h.trans (S' := fun k => k = g) ⟨rfl, rfl, rfl, by simp [World.setRow], fun k _ hk => setRow_other W g k cs hk⟩ fun j hj e => by omega
theorem takEE_err {W w' : World} {b t : Nat} {T0 : Nat → Prop} {u : Value} {ls : List Ln} {k : Bk} {e : Int} (he : e ≠ 0) (ha : Alt W w' (inB b T0 u)) : TakEE W b t T0 u ls (errE k e) (.returned (.tuple #[evv zev Option.none 0 0, .int .i64 0, .int .i64 e])) w' :=
  ⟨Option.none, 0, 0, T0, u, ls, rfl, fun h => absurd h he, ha, fun _ h => .inl h, hds_empty w' _ _ (Nat.zero_le _) (fun _ => rfl)⟩
theorem manyN_cell (kd : Nat) (h : 1 ≤ kd ∧ kd ≤ 7) : (#[.int .i64 0, .int .i64 3, .int .i64 5, .int .i64 3, .int .i64 2, .int .i64 3, .int .i64 3, .int .i64 4] : Array Value)[kd]? = some (.int .i64 (manyN kd : Nat)) := by
  obtain rfl | rfl | rfl | rfl | rfl | rfl | rfl : kd = 1 ∨ kd = 2 ∨ kd = 3 ∨ kd = 4 ∨ kd = 5 ∨ kd = 6 ∨ kd = 7 := by omega
  all_goals rfl
def kev (kd : Nat) : Ev := ⟨kd, 0, 0, nil9, nil9, [], nil9, 0, 0, false, nil9, 0⟩
structure NumS (w : World) (gx kd : Nat) (lv : Value) (l : List Nat) (W : World) : Prop where
  bw : Below w.heap.size w W
  br : W.heap[w.heap.size]? = some (.cells (ecell12 zev Option.none 0 0) 25 (0, 0))
  b9 : W.heap[w.heap.size + 1]? = some (.cells (ecell12 zev Option.none 0 0) 25 (0, 0))
  bx : W.heap[gx]? = some (.cells (ecell12 (kev kd) Option.none 0 0) 25 (0, 0))
  ns : OwnsN W (gx + 1) lv l
  hi : w.heap.size + 1 < gx
section
variable {w W W' : World} {gx kd : Nat} {lv lv' : Value} {l l' : List Nat}
theorem NumS.later (h : NumS w gx kd lv l W) (hb : Below W.heap.size W W') : NumS w gx kd lv l W' := by
  have low : ∀ {k o}, W.heap[k]? = some o → k < W.heap.size := fun e => (Array.getElem?_eq_some_iff.1 e).1
  exact ⟨below_then h.bw hb, (hb.block _ (low h.br)).trans h.br, (hb.block _ (low h.b9)).trans h.b9, (hb.block _ (low h.bx)).trans h.bx, h.ns.later hb, h.hi⟩
theorem NumS.lt (h : NumS w gx kd lv l W) : gx < W.heap.size := (Array.getElem?_eq_some_iff.1 h.bx).1
theorem NumS.app (h : NumS w gx kd lv l W) (hown : OwnsN W' (gx + 1) lv' l') (hg : W.grownBy W' lv.ownBlock) : NumS w gx kd lv' l' W' := by
  have ha : Alt W W' (fun k => lv.ownBlock = some k) := alt_grown hg fun _ hk => hk
  have hlt : ∀ k, lv.ownBlock = some k → gx + 1 ≤ k := fun k e => (World.ownsRow.lt h.ns k e).1
  have hi := h.hi
  have low : ∀ {k o}, W.heap[k]? = some o → k < W.heap.size := fun e => (Array.getElem?_eq_some_iff.1 e).1
  have hsz := h.bw.size
  refine ⟨⟨ha.os.trans h.bw.os, ha.tape.trans h.bw.tape, ha.output.trans h.bw.output, Nat.le_trans hsz ha.size, fun k hk => (ha.block k (by omega) fun e => by have := hlt k e; omega).trans (h.bw.block k hk)⟩, (ha.block _ (low h.br) fun e => by have := hlt _ e; omega).trans h.br, (ha.block _ (low h.b9) fun e => by have := hlt _ e; omega).trans h.b9, (ha.block _ (low h.bx) fun e => by have := hlt _ e; omega).trans h.bx, hown, h.hi⟩
theorem OwnsN.low {base base' : Nat} (h : OwnsN W base lv l) (hB : base' ≤ base) : OwnsN W base' lv l := by
  refine ⟨h.1, ?_⟩
  rcases h.2 with h0 | ⟨g, cap, cur, e1, hb, rest⟩
  · exact .inl h0
  · exact .inr ⟨g, cap, cur, e1, Nat.le_trans hB hb, rest⟩
theorem OwnsN.cell {base g len cap : Nat} (h : OwnsN W base (.slice (some ⟨g, 0, Option.none⟩) len cap) l) {p a : Nat} (ha : l[p]? = some a) : W.cell? ⟨g, p, Option.none⟩ = some (.int .u64 (a : Int)) := by
  obtain ⟨A, c, e, hc⟩ := h.slice
  have hp := (List.getElem?_eq_some_iff.1 ha).1
  obtain ⟨g', rfl, hcs⟩ := hc (by omega)
  injection e with e1 _ _
  injection e1 with e1
  injection e1 with e1 _
  subst e1
  exact hcs p a ha
end
section
variable {w W : World} {b t : Nat} {T0 : Nat → Prop} {u : Value} {ls : List Ln} {tick : Int} {gr g9 gx : Nat} {A : Option Addr} {n c : Nat} {X : List Int} {lv : Value} {l : List Nat} {T : List (List UInt8)} {x : Ev} {Ax : Option Addr} {m cx : Nat}
theorem TakS.set1 (h : TakS w b t T0 u ls tick gr g9 gx A n c X lv l T x Ax m cx W) (s : Int) : TakS w b t T0 u ls tick gr g9 gx A n c X lv l T { x with ses := s } Ax m cx (W.setCell ⟨gx, 1, Option.none⟩ (.int .i64 s)) := h.stored 1 _ (heap_setCell_same W gx 1 _ _ _ h.bx) (fun _ _ hh => hh) h.hne
theorem TakS.set2 (h : TakS w b t T0 u ls tick gr g9 gx A n c X lv l T x Ax m cx W) (s : Int) : TakS w b t T0 u ls tick gr g9 gx A n c X lv l T { x with tick := s } Ax m cx (W.setCell ⟨gx, 2, Option.none⟩ (.int .i64 s)) := h.stored 2 _ (heap_setCell_same W gx 2 _ _ _ h.bx) (fun _ _ hh => hh) h.hne
theorem TakS.set3 (h : TakS w b t T0 u ls tick gr g9 gx A n c X lv l T x Ax m cx W) (s : ByteArray) : TakS w b t T0 u ls tick gr g9 gx A n c X lv l T { x with me := s } Ax m cx (W.setCell ⟨gx, 3, Option.none⟩ (.string s)) := h.stored 3 _ (heap_setCell_same W gx 3 _ _ _ h.bx) (fun _ _ hh => hh) h.hne
theorem TakS.set4 (h : TakS w b t T0 u ls tick gr g9 gx A n c X lv l T x Ax m cx W) (s : ByteArray) : TakS w b t T0 u ls tick gr g9 gx A n c X lv l T { x with url := s } Ax m cx (W.setCell ⟨gx, 4, Option.none⟩ (.string s)) := h.stored 4 _ (heap_setCell_same W gx 4 _ _ _ h.bx) (fun _ _ hh => hh) h.hne
theorem TakS.set6 (h : TakS w b t T0 u ls tick gr g9 gx A n c X lv l T x Ax m cx W) (s : ByteArray) : TakS w b t T0 u ls tick gr g9 gx A n c X lv l T { x with body := s } Ax m cx (W.setCell ⟨gx, 6, Option.none⟩ (.string s)) := h.stored 6 _ (heap_setCell_same W gx 6 _ _ _ h.bx) (fun _ _ hh => hh) h.hne
theorem TakS.set7 (h : TakS w b t T0 u ls tick gr g9 gx A n c X lv l T x Ax m cx W) (s : Int) : TakS w b t T0 u ls tick gr g9 gx A n c X lv l T { x with status := s } Ax m cx (W.setCell ⟨gx, 7, Option.none⟩ (.int .i64 s)) := h.stored 7 _ (heap_setCell_same W gx 7 _ _ _ h.bx) (fun _ _ hh => hh) h.hne
theorem TakS.set8 (h : TakS w b t T0 u ls tick gr g9 gx A n c X lv l T x Ax m cx W) (s : Int) : TakS w b t T0 u ls tick gr g9 gx A n c X lv l T { x with code := s } Ax m cx (W.setCell ⟨gx, 8, Option.none⟩ (.int .i64 s)) := h.stored 8 _ (heap_setCell_same W gx 8 _ _ _ h.bx) (fun _ _ hh => hh) h.hne
theorem TakS.set9 (h : TakS w b t T0 u ls tick gr g9 gx A n c X lv l T x Ax m cx W) (s : Bool) : TakS w b t T0 u ls tick gr g9 gx A n c X lv l T { x with cred := s } Ax m cx (W.setCell ⟨gx, 9, Option.none⟩ (.bool s)) := h.stored 9 _ (heap_setCell_same W gx 9 _ _ _ h.bx) (fun _ _ hh => hh) h.hne
theorem TakS.set10 (h : TakS w b t T0 u ls tick gr g9 gx A n c X lv l T x Ax m cx W) (s : ByteArray) : TakS w b t T0 u ls tick gr g9 gx A n c X lv l T { x with no := s } Ax m cx (W.setCell ⟨gx, 10, Option.none⟩ (.string s)) := h.stored 10 _ (heap_setCell_same W gx 10 _ _ _ h.bx) (fun _ _ hh => hh) h.hne
theorem TakS.set11 (h : TakS w b t T0 u ls tick gr g9 gx A n c X lv l T x Ax m cx W) (s : Nat) : TakS w b t T0 u ls tick gr g9 gx A n c X lv l T { x with n := s } Ax m cx (W.setCell ⟨gx, 11, Option.none⟩ (.int .u64 (s : Int))) := h.stored 11 _ (heap_setCell_same W gx 11 _ _ _ h.bx) (fun _ _ hh => hh) h.hne
theorem TakS.free (h : TakS w b t T0 u ls tick gr g9 gx A n c X lv l T x Ax m cx W) (j : Nat) : W.frozen? ⟨gx, j, Option.none⟩ = false := frozen_of_row W gx j _ _ h.bx
end
theorem num9_at {l : List Nat} {p : Nat} (h : p < l.length) : l[p]? = some (num9 l p) := by
  unfold num9
  rw [List.getElem?_eq_getElem h]
  rfl
theorem wpList_load_rowg {P : Program} {ops : Array Oper} {rest : List Oper} {a : Act} {w : World} {Q : Exit → Act → World → Prop} {dst : Option Tmp} {ty t0 : TypeId} {x : Operand} {pos : String} {after : Array Edge} {i : Nat} {yes : Bool}
    (hw : Region.wanted { dst := dst, op := .load ty x, type := t0, pos := pos, after := after, guard := some (i, yes) } (yielded ops a.tmps) = true)
    (g : Nat) (hx : a.eval x = .pointer (some ⟨g, 0, Option.none⟩)) (t : TypeId) (cs : Array Value) (fr : Nat × Nat) (d : TypeDesc) (hg : w.heap[g]? = some (.cells cs t fr))
    (hu : P.underlying ty = some d) (hd : (match d with | .struct _ | .array _ _ => true | _ => false) = true) (hi : (P.info? ty).map (·.size) = some cs.size)
    (h : wpList P ops Q rest (a.put dst (.agg cs)) w) : wpList P ops Q ({ dst := dst, op := .load ty x, type := t0, pos := pos, after := after, guard := some (i, yes) } :: rest) a w :=
  wpList_step fun K hK => by rw [if_pos hw]; exact wp_load_row ty x rfl g hx t cs fr d hg hu hd hi (hK _ _ h)
theorem takEE_errN {W w' : World} {b t : Nat} {T0 : Nat → Prop} {u : Value} {ls : List Ln} {k : Bk} {X : List Int} {n : Nat} {l : List Nat} {q e : Int} (he : e ≠ 0) (ha : Alt W w' (inB b T0 u)) : TakEE W b t T0 u ls (ntakeE k X n ⟨l, q, e⟩) (.returned (.tuple #[evv zev Option.none 0 0, .int .i64 0, .int .i64 e])) w' := by
  have h : ntakeE k X n ⟨l, q, e⟩ = errE k e := if_pos he
  rw [h]
  exact takEE_err he ha
def J1 (kd : Nat) : Nat := if kd ≤ 2 then 2 else 0
def J2 (kd : Nat) : Nat := if kd = 1 then 3 else if kd = 2 then 2 else 0
theorem tstep0 (X : List Int) (s : TS) (j : Nat) : tsteps X s (j + 1) = tstep X (tsteps X s j) := rfl
theorem len2 {α : Type} {l : List α} (h : l.length = 2) : ∃ a b, l = [a, b] := by
  match l, h with
  | [a, b], _ => exact ⟨a, b, rfl⟩
theorem len3 {α : Type} {l : List α} (h : l.length = 3) : ∃ a b c, l = [a, b, c] := by
  match l, h with
  | [a, b, c], _ => exact ⟨a, b, c, rfl⟩
theorem tsteps_len {X : List Int} {s : TS} {j : Nat} (h : (tsteps X s j).e = 0) : (tsteps X s j).l.length = s.l.length + j := by
  induction j with
  | zero => rfl
  | succ j ih =>
    by_cases e : (tsteps X s j).e = 0
    · have ih := ih e
      have h1 : (tstep X (tsteps X s j)).e = 0 := h
      show (tstep X (tsteps X s j)).l.length = _
      unfold tstep at h1 ⊢
      rw [if_neg (fun h' => h' e)] at h1 ⊢
      split at h1
      · exact absurd h1 (by assumption)
      · rw [if_neg (by assumption)]
        simp only [List.length_append, List.length_cons, List.length_nil]
        omega
    · have h1 : (tstep X (tsteps X s j)).e = 0 := h
      rw [tstep_bad e] at h1
      exact absurd h1 e
theorem ev_no {tick : Int} {kd : Nat} {l : List Nat} {sl : List (List UInt8)} {sx : List UInt8} (hk : kd = 1) (h : sl.length = 2) : ({ evOf tick kd l sl [] with no := Go.Proofs.Ytodncamohimmmaa.mk sx } : Ev) = evOf tick kd l (sl ++ [sx]) [] := by
  subst hk
  obtain ⟨a, b, rfl⟩ := len2 h
  rfl
theorem ev_body {tick : Int} {kd : Nat} {l : List Nat} {sl : List (List UInt8)} {sx : List UInt8} (hk : kd = 1 ∨ kd = 2 ∨ kd = 3) (h : sl.length = J2 kd) : ({ evOf tick kd l sl [] with body := Go.Proofs.Ytodncamohimmmaa.mk sx } : Ev) = evOf tick kd l (sl ++ [sx]) [] := by
  rcases hk with rfl | rfl | rfl
  · obtain ⟨a, b, c, rfl⟩ := len3 (h.trans (show J2 1 = 3 from rfl))
    rfl
  · obtain ⟨a, b, rfl⟩ := len2 (h.trans (show J2 2 = 2 from rfl))
    rfl
  · have := List.length_eq_zero_iff.1 (h.trans (show J2 3 = 0 from rfl))
    subst this
    rfl
set_option maxHeartbeats 64000000 in
set_option maxRecDepth 100000 in
theorem refTakeE_main (b t : Nat) (T0 : Nat → Prop) (u : Value) (ls : List Ln) (k : Bk) (A : Option Addr) (n c : Nat) (X : List Int) (p : Int) (w : World) (h : RBk w b t T0 u ls k.tab k.tick) (hlook : ∀ s a, findL ls s a = k.look s a) (hk : k.Ok) (hX : Holds w A n c X) (hXo : Off (inB b T0 u) A n) (hT : k.tab.length ≤ 200000) (hn : n ≤ 900000000) (hls : ls.length ≤ 1000000)
    (hold : ∀ q ∈ ls, ∀ g off, q.A = some ⟨g, off, Option.none⟩ → 0 < q.n → g < w.heap.size) {kd : Nat} {q1 : Int} (h1 : take X p = (kd, q1, 0)) (hk1 : 1 ≤ kd) (hk7 : kd ≤ 7) :
    Calls Try.prog 19 #[.pointer (some ⟨b, 0, Option.none⟩), .slice A n c, .int .i64 p] w (TakEE w b t T0 u ls (ntakeE k X kd (nsteps X (decide (kd = 2)) ⟨[], q1, 0⟩ (manyN kd)))) := by
  have htake := Lib.hid (fun W (h : Holds W A n c X) => refTake_any A n c X p W h)
  rw [h1] at htake
  have hX' := Lib.hid hX
  have hXo' := Lib.hid hXo
  have hB' := Lib.hid h
  have hlook' := Lib.hid hlook
  have hk' := Lib.hid hk
  have hT' := Lib.hid hT
  have hn' := Lib.hid hn
  have hls' := Lib.hid hls
  have hold' := Lib.hid hold
  obtain ⟨fs, hd1⟩ := undEv
  replace hd1 := Lib.hid hd1
  have hi1 := Lib.hid (show (Try.prog.info? 25).map (·.size) = some (#[.int .i64 0, .int .i64 0, .int .i64 0, .string ⟨#[]⟩, .string ⟨#[]⟩, .slice Option.none 0 0, .string ⟨#[]⟩, .int .i64 0, .int .i64 0, .bool false, .string ⟨#[]⟩, .int .u64 0] : Array Value).size from infoEv21)
  have hone := Lib.hid (show (#[.int .i64 0, .int .i64 0, .int .i64 0, .string ⟨#[]⟩, .string ⟨#[]⟩, .slice Option.none 0 0, .string ⟨#[]⟩, .int .i64 0, .int .i64 0, .bool false, .string ⟨#[]⟩, .int .u64 0] : Array Value).all (·.oneCell') = true by simp [Value.oneCell'])
  have hik := Lib.hid (show (Try.prog.info? 25).map (·.size) = some (#[.int .i64 (kd : Int), .int .i64 0, .int .i64 0, .string ⟨#[]⟩, .string ⟨#[]⟩, .slice Option.none 0 0, .string ⟨#[]⟩, .int .i64 0, .int .i64 0, .bool false, .string ⟨#[]⟩, .int .u64 0] : Array Value).size from infoEv21)
  have honk := Lib.hid (show (#[.int .i64 (kd : Int), .int .i64 0, .int .i64 0, .string ⟨#[]⟩, .string ⟨#[]⟩, .slice Option.none 0 0, .string ⟨#[]⟩, .int .i64 0, .int .i64 0, .bool false, .string ⟨#[]⟩, .int .u64 0] : Array Value).all (·.oneCell') = true by simp [Value.oneCell'])
  have g1 : decide ((kd : Int) < 1) = false := decide_eq_false (by omega)
  have g2 : decide (kd < 1) = false := decide_eq_false (by omega)
  have g3 : decide ((7 : Int) < (kd : Int)) = false := decide_eq_false (by omega)
  have g4 : decide (7 < kd) = false := decide_eq_false (by omega)
  have hwk : IntKind.i64.wrap (kd : Int) = (kd : Int) := IntWalk.i64_in _ ⟨by omega, by omega⟩
  have hmany := manyN_cell kd ⟨hk1, hk7⟩
  have hidx : kd < 8 := by omega
  clear h hX hXo hlook hk hT hn hls hold h1
  go_enter Try.func19, Try.ntmps19
  go_upto_block 0 with (first
    | (go_at_call 46; refine (htake.out _ ((hX'.out.later (below_box w (.cells #[.int .i64 0, .int .i64 0, .int .i64 0, .string ⟨#[]⟩, .string ⟨#[]⟩, .slice Option.none 0 0, .string ⟨#[]⟩, .int .i64 0, .int .i64 0, .bool false, .string ⟨#[]⟩, .int .u64 0] 25))).later (below_box _ (.cells #[.int .i64 0, .int .i64 0, .int .i64 0, .string ⟨#[]⟩, .string ⟨#[]⟩, .slice Option.none 0 0, .string ⟨#[]⟩, .int .i64 0, .int .i64 0, .bool false, .string ⟨#[]⟩, .int .u64 0] 25)))).mono ?_; rintro e4 w4 ⟨rfl, hb4⟩; obtain ⟨r6, r9, hbw⟩ := take_boxes w _ _ _ hb4; have hsz4 := Lib.hid (show w.heap.size + 1 < w4.heap.size by have := hb4.size; simp only [World.size_alloc] at this; omega); obtain ⟨W7, hW7⟩ : ∃ W7, W7 = (w4.alloc (.cells #[.int .i64 0, .int .i64 0, .int .i64 0, .string ⟨#[]⟩, .string ⟨#[]⟩, .slice Option.none 0 0, .string ⟨#[]⟩, .int .i64 0, .int .i64 0, .bool false, .string ⟨#[]⟩, .int .u64 0] 25)).setRow w4.heap.size #[.int .i64 (kd : Int), .int .i64 0, .int .i64 0, .string ⟨#[]⟩, .string ⟨#[]⟩, .slice Option.none 0 0, .string ⟨#[]⟩, .int .i64 0, .int .i64 0, .bool false, .string ⟨#[]⟩, .int .u64 0] := ⟨_, rfl⟩; have hNa := Lib.hid (heap_alloc_new w4 (.cells #[.int .i64 0, .int .i64 0, .int .i64 0, .string ⟨#[]⟩, .string ⟨#[]⟩, .slice Option.none 0 0, .string ⟨#[]⟩, .int .i64 0, .int .i64 0, .bool false, .string ⟨#[]⟩, .int .u64 0] 25)); have rx := Lib.hid (show W7.heap[w4.heap.size]? = some (.cells #[.int .i64 (kd : Int), .int .i64 0, .int .i64 0, .string ⟨#[]⟩, .string ⟨#[]⟩, .slice Option.none 0 0, .string ⟨#[]⟩, .int .i64 0, .int .i64 0, .bool false, .string ⟨#[]⟩, .int .u64 0] 25 (0, 0)) by rw [hW7]; exact setRow_heap _ _ _ _ _ _ hNa.out); have hb7 := Lib.hid (show Below w4.heap.size w4 W7 by rw [hW7]; exact below_setRow (below_box w4 _) (Nat.le_refl _) _); have r6' := Lib.hid ((hb7.out.block _ (by have := hsz4.out; omega)).trans r6); have r9' := Lib.hid ((hb7.out.block _ (by have := hsz4.out; omega)).trans r9); have hbw' := Lib.hid (below_then hbw hb7.out); have hW7' := Lib.hid hW7; clear hb4 r6 r9 hbw hW7)
    | (with_reducible refine wpList_store_row rfl _ _ _ rfl w4.heap.size #[.int .i64 (kd : Int), .int .i64 0, .int .i64 0, .string ⟨#[]⟩, .string ⟨#[]⟩, .slice Option.none 0 0, .string ⟨#[]⟩, .int .i64 0, .int .i64 0, .bool false, .string ⟨#[]⟩, .int .u64 0] rfl rfl 25 #[.int .i64 0, .int .i64 0, .int .i64 0, .string ⟨#[]⟩, .string ⟨#[]⟩, .slice Option.none 0 0, .string ⟨#[]⟩, .int .i64 0, .int .i64 0, .bool false, .string ⟨#[]⟩, .int .u64 0] hNa.out hik.out (Eq.refl _) honk.out ?_; rw [← hW7'.out]; clear hNa hW7'; have c0 : (W7.alloc (.cells #[.int .i64 0, .int .i64 3, .int .i64 5, .int .i64 3, .int .i64 2, .int .i64 3, .int .i64 3, .int .i64 4] 3)).cell? ⟨w4.heap.size, 0, Option.none⟩ = some (.int .i64 (kd : Int)) := cell_later (below_box W7 (.cells #[.int .i64 0, .int .i64 3, .int .i64 5, .int .i64 3, .int .i64 2, .int .i64 3, .int .i64 3, .int .i64 4] 3)) (EvAt.row (x := kev kd) (A := Option.none) (m := 0) (c := 0) rx.out).c0; have cm : (W7.alloc (.cells #[.int .i64 0, .int .i64 3, .int .i64 5, .int .i64 3, .int .i64 2, .int .i64 3, .int .i64 3, .int .i64 4] 3)).cell? ⟨W7.heap.size, kd, Option.none⟩ = some (.int .i64 (manyN kd : Nat)) := by rw [cell_of_row _ _ _ _ _ _ (heap_alloc_new W7 _)]; exact hmany))
  go_cut [2, 7, 8, 10, 11, 14, 15] from 47 to 78 (fun qv _ _ _ ev lv _ wr => ∃ (l : List Nat) (q : Int), qv = .int .i64 q ∧ ev = .int .i64 0 ∧ Hid (nsteps X (decide (kd = 2)) ⟨[], q1, 0⟩ (manyN kd) = ⟨l, q, 0⟩) ∧ l.length = manyN kd ∧ Hid (NumS w w4.heap.size kd lv l wr))
  case first =>
    as_aux_lemma =>
    have hcm : manyN kd ≤ 5 := by unfold manyN; split <;> (try split) <;> (try split) <;> omega
    have hS0 := Lib.hid (show NumS w w4.heap.size kd (.slice (some ⟨W7.heap.size + 1, 0, Option.none⟩) 0 0) [] ((W7.alloc (.cells #[.int .i64 0, .int .i64 3, .int .i64 5, .int .i64 3, .int .i64 2, .int .i64 3, .int .i64 3, .int .i64 4] 3)).alloc (.cells #[] 23)) from
      ⟨below_then hbw'.out (below_then (below_box _ _) (below_box _ _)), (Below.block (below_then (below_box W7 _) (below_box _ _)) _ (by have := hbw'.out.size; have := (Array.getElem?_eq_some_iff.1 r6'.out).1; omega)).trans r6'.out, (Below.block (below_then (below_box W7 _) (below_box _ _)) _ (Array.getElem?_eq_some_iff.1 r9'.out).1).trans r9'.out, (Below.block (below_then (below_box W7 _) (below_box _ _)) _ (Array.getElem?_eq_some_iff.1 rx.out).1).trans rx.out, by
        have := ownsN_none (W7.alloc (.cells #[.int .i64 0, .int .i64 3, .int .i64 5, .int .i64 3, .int .i64 2, .int .i64 3, .int .i64 3, .int .i64 4] 3)) (w4.heap.size + 1) (by have := (Array.getElem?_eq_some_iff.1 rx.out).1; simp only [World.size_alloc]; omega)
        simpa only [World.size_alloc] using this, by have := hsz4.out; omega⟩)
    obtain ⟨iu, hiu⟩ : ∃ i, Try.prog.info? 23 = some i := Option.isSome_iff_exists.1 (by kernel_rfl)
    have hiu3 := infoU64
    rw [hiu] at hiu3
    simp only [Option.map_some, Option.some.injEq, Prod.mk.injEq] at hiu3
    obtain ⟨hzu, hzu1, hzu2⟩ := hiu3
    have hmm := Lib.hid hcm
    obtain ⟨mk9, hmk9⟩ : ∃ m, m = manyN kd := ⟨_, rfl⟩
    rw [← hmk9] at hcm hmm ⊢
    have hmk := Lib.hid hmk9
    clear hmk9 g1 g2 g3 g4 hmany cm c0 r6' r9' rx hcm
    go_wp2_with fail
    go_loopw [2, 10, 11, 14, 15] (fun qv _ ev lv iv wr => ∃ (i : Nat) (l : List Nat) (q : Int), i ≤ mk9 ∧ iv = .int .i64 i ∧ qv = .int .i64 q ∧ ev = .int .i64 0 ∧ Hid (nsteps X (decide (kd = 2)) ⟨[], q1, 0⟩ i = ⟨l, q, 0⟩) ∧ l.length = i ∧ NumS w w4.heap.size kd lv l wr) (fun _ _ _ _ iv _ => mk9 - (RowKit.intOf iv).toNat)
    case atStart => exact ⟨0, [], q1, Nat.zero_le _, rfl, rfl, rfl, Lib.hid rfl, rfl, hS0.out⟩
    case round =>
      obtain ⟨i, l, q, hi9, rfl, rfl, rfl, hst, hli, hS⟩ := hrel
      replace hS := Lib.hid hS
      replace hli := Lib.hid hli
      have hib : i ≤ 5 := by have := hmm.out; omega
      by_cases hlt : i < mk9
      · have hnext : nsteps X (decide (kd = 2)) ⟨[], q1, 0⟩ (i + 1) = nstep X (decide (kd = 2)) ⟨l, q, 0⟩ := by show nstep X _ (nsteps X _ ⟨[], q1, 0⟩ i) = _; rw [hst.out]
        replace hnext := Lib.hid hnext
        obtain ⟨a, q2, e, htk⟩ : ∃ a q2 e, take X q = (a, q2, e) := ⟨_, _, _, rfl⟩
        have hcall := Lib.hid (fun W (h : Holds W A n c X) => refTake_any A n c X q W h)
        rw [htk] at hcall
        replace htk := Lib.hid htk
        by_cases he : e = 0
        · subst he
          by_cases k2 : kd = 2
          · by_cases i3 : i = 3
            · by_cases a1 : 1 < a
              · subst i3
                have hfin := Lib.hid (show nsteps X (decide (kd = 2)) ⟨[], q1, 0⟩ mk9 = ⟨l, 0, 4⟩ by
                  have e := hnext.out.trans (nstep_four (s := ⟨l, q, 0⟩) rfl htk.out ⟨decide_eq_true k2, hli.out, a1⟩)
                  rw [nsteps_end (k := 3 + 1) (by rw [e]; simp) (by omega), e])
                have tka : ((kd : Int) == 2) = true := by simp only [beq_iff_eq]; omega
                have tkb : (kd == 2) = true := by simp only [beq_iff_eq]; omega
                have tkc : decide ((kd : Int) = 2) = true := decide_eq_true (by omega)
                have tkd : decide (kd = 2) = true := decide_eq_true (by omega)
                have ti1 : ((3 : Int) == 3) = true := by decide
                have ta : decide ((1 : Int) < (a : Int)) = true := decide_eq_true (by omega)
                have tb : decide (1 < a) = true := decide_eq_true (by omega)
                clear hnext hst
                replace k2 := Lib.hid k2
                go_wp2_with (first
                  | (go_at_call 46; refine (hcall.out wr (hX'.out.later hS.out.bw)).mono ?_; rintro e5 w5 ⟨rfl, hb5⟩; have hS5 := Lib.hid (hS.out.later hb5); have r6 := Lib.hid (show w5.heap[w.heap.size]? = some (.cells #[.int .i64 0, .int .i64 0, .int .i64 0, .string ⟨#[]⟩, .string ⟨#[]⟩, .slice Option.none 0 0, .string ⟨#[]⟩, .int .i64 0, .int .i64 0, .bool false, .string ⟨#[]⟩, .int .u64 0] 25 (0, 0)) from hS5.out.br); have r9 := Lib.hid (show w5.heap[w.heap.size + 1]? = some (.cells #[.int .i64 0, .int .i64 0, .int .i64 0, .string ⟨#[]⟩, .string ⟨#[]⟩, .slice Option.none 0 0, .string ⟨#[]⟩, .int .i64 0, .int .i64 0, .bool false, .string ⟨#[]⟩, .int .u64 0] 25 (0, 0)) from hS5.out.b9); have ck : w5.cell? ⟨w4.heap.size, 0, Option.none⟩ = some (.int .i64 (kd : Int)) := (EvAt.row (x := kev kd) (A := Option.none) (m := 0) (c := 0) hS5.out.bx).c0; clear hb5)
                  | (refine wpList_load_row rfl _ _ rfl (w.heap.size + 1) rfl 25 #[.int .i64 0, .int .i64 0, .int .i64 0, .string ⟨#[]⟩, .string ⟨#[]⟩, .slice Option.none 0 0, .string ⟨#[]⟩, .int .i64 0, .int .i64 0, .bool false, .string ⟨#[]⟩, .int .u64 0] (0, 0) (.struct fs) r9.out hd1.out rfl hi1.out ?_)
                  | (with_reducible refine wpList_store_row rfl _ _ _ rfl w.heap.size #[.int .i64 0, .int .i64 0, .int .i64 0, .string ⟨#[]⟩, .string ⟨#[]⟩, .slice Option.none 0 0, .string ⟨#[]⟩, .int .i64 0, .int .i64 0, .bool false, .string ⟨#[]⟩, .int .u64 0] rfl rfl 25 #[.int .i64 0, .int .i64 0, .int .i64 0, .string ⟨#[]⟩, .string ⟨#[]⟩, .slice Option.none 0 0, .string ⟨#[]⟩, .int .i64 0, .int .i64 0, .bool false, .string ⟨#[]⟩, .int .u64 0] r6.out hi1.out (Eq.refl _) hone.out ?_))
                exact bodyPost_ret (take_result (g := w.heap.size) (cs := #[.int .i64 0, .int .i64 0, .int .i64 0, .string ⟨#[]⟩, .string ⟨#[]⟩, .slice Option.none 0 0, .string ⟨#[]⟩, .int .i64 0, .int .i64 0, .bool false, .string ⟨#[]⟩, .int .u64 0]) rfl rfl rfl (setRow_heap _ _ _ _ _ _ r6.out) rfl) rfl (by rw [hfin.out]; exact takEE_errN (by decide) (alt_setRow (alt_below hS5.out.bw _) (Nat.le_refl _) _))
              · subst i3
                have tka : ((kd : Int) == 2) = true := by simp only [beq_iff_eq]; omega
                have tkb : (kd == 2) = true := by simp only [beq_iff_eq]; omega
                have tkc : decide ((kd : Int) = 2) = true := decide_eq_true (by omega)
                have tkd : decide (kd = 2) = true := decide_eq_true (by omega)
                have ti1 : ((3 : Int) == 3) = true := by decide
                have ta : decide ((1 : Int) < (a : Int)) = false := decide_eq_false (by omega)
                have tb : decide (1 < a) = false := decide_eq_false (by omega)
                have hs9 := Lib.hid (show nsteps X (decide (kd = 2)) ⟨[], q1, 0⟩ (3 + 1) = ⟨l ++ [a], q2, 0⟩ by rw [hnext, nstep_ok (s := ⟨l, q, 0⟩) rfl htk.out (by simp only [decide_eq_true_eq, hli.out]; omega)])
                clear hnext hst
                replace k2 := Lib.hid k2
                go_wp2_with (first
                  | (go_at_call 46; refine (hcall.out wr (hX'.out.later hS.out.bw)).mono ?_; rintro e5 w5 ⟨rfl, hb5⟩; have hS5 := Lib.hid (hS.out.later hb5); have r6 := Lib.hid (show w5.heap[w.heap.size]? = some (.cells #[.int .i64 0, .int .i64 0, .int .i64 0, .string ⟨#[]⟩, .string ⟨#[]⟩, .slice Option.none 0 0, .string ⟨#[]⟩, .int .i64 0, .int .i64 0, .bool false, .string ⟨#[]⟩, .int .u64 0] 25 (0, 0)) from hS5.out.br); have r9 := Lib.hid (show w5.heap[w.heap.size + 1]? = some (.cells #[.int .i64 0, .int .i64 0, .int .i64 0, .string ⟨#[]⟩, .string ⟨#[]⟩, .slice Option.none 0 0, .string ⟨#[]⟩, .int .i64 0, .int .i64 0, .bool false, .string ⟨#[]⟩, .int .u64 0] 25 (0, 0)) from hS5.out.b9); have ck : w5.cell? ⟨w4.heap.size, 0, Option.none⟩ = some (.int .i64 (kd : Int)) := (EvAt.row (x := kev kd) (A := Option.none) (m := 0) (c := 0) hS5.out.bx).c0; clear hb5)
                  | (at_builtin; refine wpList_append_num rfl (.tmp 75) (.tmp 77) 100 rfl (w4.heap.size + 1) iu Try.underlying100 hiu hzu hzu1 hzu2 _ l rfl (hS5.out.later (below_box w5 _)).ns w5.heap.size a rfl (by rw [cell_of_row _ _ 0 _ _ _ (heap_alloc_new w5 _)]; rfl) (by have := hli.out; have := hmm.out; omega) (Nat.le_trans (Nat.succ_le_of_lt hS5.out.lt) (below_box w5 _).size) ?_; intro v9 w9 hown9 hg9 _; have hS9 := Lib.hid ((hS5.out.later (below_box w5 (.cells #[.int .u64 (a : Int)] 23))).app hown9 hg9); clear hown9 hg9))
                go_roundw
                case rel => first | exact ⟨3 + 1, l ++ [a], q2, by omega, by go_num, rfl, rfl, hs9.out, by rw [List.length_append, hli.out]; rfl, hS9.out⟩ | ((repeat apply Exists.intro); exact ⟨⟨3 + 1, l ++ [a], q2, by omega, by go_num, rfl, rfl, hs9.out, by rw [List.length_append, hli.out]; rfl, hS9.out⟩, rfl⟩)
                case measure => simp [RowKit.intOf]; omega
            · have t9 : True := trivial
              have tka : ((kd : Int) == 2) = true := by simp only [beq_iff_eq]; omega
              have tkb : (kd == 2) = true := by simp only [beq_iff_eq]; omega
              have tkc : decide ((kd : Int) = 2) = true := decide_eq_true (by omega)
              have tkd : decide (kd = 2) = true := decide_eq_true (by omega)
              have tia : ((i : Int) == 3) = false := by simp only [beq_eq_false_iff_ne, ne_eq]; omega
              have tib : (i == 3) = false := by simp only [beq_eq_false_iff_ne, ne_eq]; omega
              have tic : decide ((i : Int) = 3) = false := decide_eq_false (by omega)
              have tid : decide (i = 3) = false := decide_eq_false (by omega)
              have hs9 := Lib.hid (show nsteps X (decide (kd = 2)) ⟨[], q1, 0⟩ (i + 1) = ⟨l ++ [a], q2, 0⟩ by rw [hnext, nstep_ok (s := ⟨l, q, 0⟩) rfl htk.out (by simp only [decide_eq_true_eq, hli.out]; omega)])
              clear hnext hst
              replace k2 := Lib.hid k2
              go_wp2_with (first
                | (go_at_call 46; refine (hcall.out wr (hX'.out.later hS.out.bw)).mono ?_; rintro e5 w5 ⟨rfl, hb5⟩; have hS5 := Lib.hid (hS.out.later hb5); have r6 := Lib.hid (show w5.heap[w.heap.size]? = some (.cells #[.int .i64 0, .int .i64 0, .int .i64 0, .string ⟨#[]⟩, .string ⟨#[]⟩, .slice Option.none 0 0, .string ⟨#[]⟩, .int .i64 0, .int .i64 0, .bool false, .string ⟨#[]⟩, .int .u64 0] 25 (0, 0)) from hS5.out.br); have r9 := Lib.hid (show w5.heap[w.heap.size + 1]? = some (.cells #[.int .i64 0, .int .i64 0, .int .i64 0, .string ⟨#[]⟩, .string ⟨#[]⟩, .slice Option.none 0 0, .string ⟨#[]⟩, .int .i64 0, .int .i64 0, .bool false, .string ⟨#[]⟩, .int .u64 0] 25 (0, 0)) from hS5.out.b9); have ck : w5.cell? ⟨w4.heap.size, 0, Option.none⟩ = some (.int .i64 (kd : Int)) := (EvAt.row (x := kev kd) (A := Option.none) (m := 0) (c := 0) hS5.out.bx).c0; clear hb5)
                | (at_builtin; refine wpList_append_num rfl (.tmp 75) (.tmp 77) 100 rfl (w4.heap.size + 1) iu Try.underlying100 hiu hzu hzu1 hzu2 _ l rfl (hS5.out.later (below_box w5 _)).ns w5.heap.size a rfl (by rw [cell_of_row _ _ 0 _ _ _ (heap_alloc_new w5 _)]; rfl) (by have := hli.out; have := hmm.out; omega) (Nat.le_trans (Nat.succ_le_of_lt hS5.out.lt) (below_box w5 _).size) ?_; intro v9 w9 hown9 hg9 _; have hS9 := Lib.hid ((hS5.out.later (below_box w5 (.cells #[.int .u64 (a : Int)] 23))).app hown9 hg9); clear hown9 hg9))
              go_roundw
              case rel => first | exact ⟨i + 1, l ++ [a], q2, by omega, by go_num, rfl, rfl, hs9.out, by rw [List.length_append, hli.out]; rfl, hS9.out⟩ | ((repeat apply Exists.intro); exact ⟨⟨i + 1, l ++ [a], q2, by omega, by go_num, rfl, rfl, hs9.out, by rw [List.length_append, hli.out]; rfl, hS9.out⟩, rfl⟩)
              case measure => simp [RowKit.intOf]; omega
          · have t9 : True := trivial
            have tka : ((kd : Int) == 2) = false := by simp only [beq_eq_false_iff_ne, ne_eq]; omega
            have tkb : (kd == 2) = false := by simp only [beq_eq_false_iff_ne, ne_eq]; omega
            have tkc : decide ((kd : Int) = 2) = false := decide_eq_false (by omega)
            have tkd : decide (kd = 2) = false := decide_eq_false (by omega)
            have hs9 := Lib.hid (show nsteps X (decide (kd = 2)) ⟨[], q1, 0⟩ (i + 1) = ⟨l ++ [a], q2, 0⟩ by rw [hnext, nstep_ok (s := ⟨l, q, 0⟩) rfl htk.out (by simp only [decide_eq_true_eq, hli.out]; omega)])
            clear hnext hst
            replace k2 := Lib.hid k2
            go_wp2_with (first
              | (go_at_call 46; refine (hcall.out wr (hX'.out.later hS.out.bw)).mono ?_; rintro e5 w5 ⟨rfl, hb5⟩; have hS5 := Lib.hid (hS.out.later hb5); have r6 := Lib.hid (show w5.heap[w.heap.size]? = some (.cells #[.int .i64 0, .int .i64 0, .int .i64 0, .string ⟨#[]⟩, .string ⟨#[]⟩, .slice Option.none 0 0, .string ⟨#[]⟩, .int .i64 0, .int .i64 0, .bool false, .string ⟨#[]⟩, .int .u64 0] 25 (0, 0)) from hS5.out.br); have r9 := Lib.hid (show w5.heap[w.heap.size + 1]? = some (.cells #[.int .i64 0, .int .i64 0, .int .i64 0, .string ⟨#[]⟩, .string ⟨#[]⟩, .slice Option.none 0 0, .string ⟨#[]⟩, .int .i64 0, .int .i64 0, .bool false, .string ⟨#[]⟩, .int .u64 0] 25 (0, 0)) from hS5.out.b9); have ck : w5.cell? ⟨w4.heap.size, 0, Option.none⟩ = some (.int .i64 (kd : Int)) := (EvAt.row (x := kev kd) (A := Option.none) (m := 0) (c := 0) hS5.out.bx).c0; clear hb5)
              | (at_builtin; refine wpList_append_num rfl (.tmp 75) (.tmp 77) 100 rfl (w4.heap.size + 1) iu Try.underlying100 hiu hzu hzu1 hzu2 _ l rfl (hS5.out.later (below_box w5 _)).ns w5.heap.size a rfl (by rw [cell_of_row _ _ 0 _ _ _ (heap_alloc_new w5 _)]; rfl) (by have := hli.out; have := hmm.out; omega) (Nat.le_trans (Nat.succ_le_of_lt hS5.out.lt) (below_box w5 _).size) ?_; intro v9 w9 hown9 hg9 _; have hS9 := Lib.hid ((hS5.out.later (below_box w5 (.cells #[.int .u64 (a : Int)] 23))).app hown9 hg9); clear hown9 hg9))
            go_roundw
            case rel => first | exact ⟨i + 1, l ++ [a], q2, by omega, by go_num, rfl, rfl, hs9.out, by rw [List.length_append, hli.out]; rfl, hS9.out⟩ | ((repeat apply Exists.intro); exact ⟨⟨i + 1, l ++ [a], q2, by omega, by go_num, rfl, rfl, hs9.out, by rw [List.length_append, hli.out]; rfl, hS9.out⟩, rfl⟩)
            case measure => simp [RowKit.intOf]; omega
        · have hz := show (e == 0) = false from beq_eq_false_iff_ne.2 he
          have he2 : (e != 0) = true := by simpa using he
          have hfin := Lib.hid (show nsteps X (decide (kd = 2)) ⟨[], q1, 0⟩ mk9 = ⟨l, 0, e⟩ by
            have e9 := hnext.out.trans (nstep_e (s := ⟨l, q, 0⟩) rfl htk.out he)
            rw [nsteps_end (k := i + 1) (by rw [e9]; exact he) (by omega), e9])
          replace he := Lib.hid he
          clear hnext hst
          go_wp2_with (first
            | (go_at_call 46; refine (hcall.out wr (hX'.out.later hS.out.bw)).mono ?_; rintro e5 w5 ⟨rfl, hb5⟩; have hS5 := Lib.hid (hS.out.later hb5); have r6 := Lib.hid (show w5.heap[w.heap.size]? = some (.cells #[.int .i64 0, .int .i64 0, .int .i64 0, .string ⟨#[]⟩, .string ⟨#[]⟩, .slice Option.none 0 0, .string ⟨#[]⟩, .int .i64 0, .int .i64 0, .bool false, .string ⟨#[]⟩, .int .u64 0] 25 (0, 0)) from hS5.out.br); have r9 := Lib.hid (show w5.heap[w.heap.size + 1]? = some (.cells #[.int .i64 0, .int .i64 0, .int .i64 0, .string ⟨#[]⟩, .string ⟨#[]⟩, .slice Option.none 0 0, .string ⟨#[]⟩, .int .i64 0, .int .i64 0, .bool false, .string ⟨#[]⟩, .int .u64 0] 25 (0, 0)) from hS5.out.b9); have ck : w5.cell? ⟨w4.heap.size, 0, Option.none⟩ = some (.int .i64 (kd : Int)) := (EvAt.row (x := kev kd) (A := Option.none) (m := 0) (c := 0) hS5.out.bx).c0; clear hb5)
            | (refine wpList_load_row rfl _ _ rfl (w.heap.size + 1) rfl 25 #[.int .i64 0, .int .i64 0, .int .i64 0, .string ⟨#[]⟩, .string ⟨#[]⟩, .slice Option.none 0 0, .string ⟨#[]⟩, .int .i64 0, .int .i64 0, .bool false, .string ⟨#[]⟩, .int .u64 0] (0, 0) (.struct fs) r9.out hd1.out rfl hi1.out ?_)
            | (with_reducible refine wpList_store_row rfl _ _ _ rfl w.heap.size #[.int .i64 0, .int .i64 0, .int .i64 0, .string ⟨#[]⟩, .string ⟨#[]⟩, .slice Option.none 0 0, .string ⟨#[]⟩, .int .i64 0, .int .i64 0, .bool false, .string ⟨#[]⟩, .int .u64 0] rfl rfl 25 #[.int .i64 0, .int .i64 0, .int .i64 0, .string ⟨#[]⟩, .string ⟨#[]⟩, .slice Option.none 0 0, .string ⟨#[]⟩, .int .i64 0, .int .i64 0, .bool false, .string ⟨#[]⟩, .int .u64 0] r6.out hi1.out (Eq.refl _) hone.out ?_))
          exact bodyPost_ret (take_result (g := w.heap.size) (cs := #[.int .i64 0, .int .i64 0, .int .i64 0, .string ⟨#[]⟩, .string ⟨#[]⟩, .slice Option.none 0 0, .string ⟨#[]⟩, .int .i64 0, .int .i64 0, .bool false, .string ⟨#[]⟩, .int .u64 0]) rfl rfl rfl (setRow_heap _ _ _ _ _ _ r6.out) rfl) rfl (by rw [hfin.out]; exact takEE_errN he.out (alt_setRow (alt_below hS5.out.bw _) (Nat.le_refl _) _))
      · obtain rfl : i = mk9 := by omega
        replace hst := Lib.hid hst.out
        have hmk0 := hmk.out
        subst hmk0
        clear hib hi9
        go_wp2
        go_meet
        case rel => exact ⟨l, q, rfl, rfl, hst, hli.out, hS⟩
  case rest =>
    obtain ⟨l, q, rfl, rfl, hst, hll, hS⟩ := hcut
    have hll' := Lib.hid hll
    clear c0 cm g1 g2 g3 g4 rx r6' r9' hb7 hwk hmany hidx hik honk htake
    obtain ⟨An, cn, rfl, hnc⟩ := hS.out.ns.slice
    have hmp : 2 ≤ manyN kd := by unfold manyN; split <;> (try split) <;> (try split) <;> omega
    obtain ⟨gn, rfl, _⟩ := hnc (by omega)
    rw [hll] at hS ⊢
    have hP := Lib.hid (TakS.start (x := kev kd) (l := l) hB'.out hX'.out hXo'.out hS.out.bw hS.out.br hS.out.b9 hS.out.bx rfl (hS.out.ns.low (by have := hS.out.hi; omega)) ⟨fun e => by have := (World.ownsRow.lt hS.out.ns _ e).1; have := hS.out.hi; omega, fun e => by have := (World.ownsRow.lt hS.out.ns _ e).1; have := hS.out.hi; omega, fun e => by have := (World.ownsRow.lt hS.out.ns _ e).1; omega, by have := hS.out.hi; omega, by have := hS.out.hi; omega, by omega⟩ ⟨Nat.le_refl _, by omega, by have := hS.out.hi; omega⟩ hold'.out)
    have hgx := Lib.hid hS.out.hi
    clear hS hnc hsz4 hbw'
    obtain ⟨gx, hgx9⟩ : ∃ g, g = w4.heap.size := ⟨_, rfl⟩
    rw [← hgx9] at hP hgx ⊢
    clear hgx9
    obtain ⟨mk, hmk⟩ : ∃ m, m = manyN kd := ⟨_, rfl⟩
    rw [← hmk] at hP hmp hll ⊢
    have hmk' := Lib.hid hmk
    have hmv := Lib.hid (show mk ≤ 5 ∧ (kd = 2 → mk = 5) ∧ (kd = 4 → mk = 2) ∧ (kd = 7 → mk = 4) ∧ (kd = 1 ∨ kd = 3 ∨ kd = 5 ∨ kd = 6 → mk = 3) by rw [hmk]; unfold manyN; refine ⟨?_, ?_, ?_, ?_, ?_⟩ <;> (repeat' split) <;> omega)
    have hll9 := Lib.hid hll
    clear hmk hll
    have hns := Lib.hid (fun W x (h : TakS w b t T0 u ls k.tick w.heap.size (w.heap.size + 1) gx A n c X (.slice (some ⟨gn, 0, Option.none⟩) mk cn) l k.tab x Option.none 0 0 W) p (hp : p < mk) => OwnsN.cell h.ns (num9_at (l := l) (p := p) (by rw [hll9.out]; exact hp)))
    go_upto_region 19 with fail
    go_cut [16] from 79 to 88 (fun bv wr => (∃ d : Bool, bv = .bool d ∧ Hid (d = decide (1048576 < num9 l 0 ∨ 1099511627776 < num9 l 1))) ∧ Hid (TakS w b t T0 u ls k.tick w.heap.size (w.heap.size + 1) gx A n c X (.slice (some ⟨gn, 0, Option.none⟩) mk cn) l k.tab (kev kd) Option.none 0 0 wr))
    case first =>
      as_aux_lemma =>
      have e0 := hns.out _ _ hP.out 0 (by omega)
      have e1 := hns.out _ _ hP.out 1 (by omega)
      obtain ⟨a0, ha0⟩ : ∃ a, a = num9 l 0 := ⟨_, rfl⟩
      obtain ⟨a1, ha1⟩ : ∃ a, a = num9 l 1 := ⟨_, rfl⟩
      rw [← ha0] at e0
      rw [← ha1] at e1
      have ha0' := Lib.hid ha0
      have ha1' := Lib.hid ha1
      clear ha0 ha1
      have hm0 : 0 < mk := by omega
      have hm1 : 1 < mk := by omega
      by_cases b0 : 1048576 < a0
      · have da : decide ((1048576 : Int) < (a0 : Int)) = true := decide_eq_true (by omega)
        have db : decide (1048576 < a0) = true := decide_eq_true (by omega)
        replace b0 := Lib.hid b0
        go_wp2
        go_meet
        case rel => rw [← ha0'.out, ← ha1'.out]; exact ⟨⟨_, rfl, Lib.hid (decide_eq_true (.inl b0.out)).symm⟩, hP⟩
      · by_cases b1 : 1099511627776 < a1
        · have da : decide ((1048576 : Int) < (a0 : Int)) = false := decide_eq_false (by omega)
          have db : decide (1048576 < a0) = false := decide_eq_false (by omega)
          have fa : decide ((1099511627776 : Int) < (a1 : Int)) = true := decide_eq_true (by omega)
          have fb : decide (1099511627776 < a1) = true := decide_eq_true (by omega)
          replace b0 := Lib.hid b0
          replace b1 := Lib.hid b1
          go_wp2
          go_meet
          case rel => rw [← ha0'.out, ← ha1'.out]; exact ⟨⟨_, rfl, Lib.hid (decide_eq_true (.inr b1.out)).symm⟩, hP⟩
        · have da : decide ((1048576 : Int) < (a0 : Int)) = false := decide_eq_false (by omega)
          have db : decide (1048576 < a0) = false := decide_eq_false (by omega)
          have fa : decide ((1099511627776 : Int) < (a1 : Int)) = false := decide_eq_false (by omega)
          have fb : decide (1099511627776 < a1) = false := decide_eq_false (by omega)
          replace b0 := Lib.hid b0
          replace b1 := Lib.hid b1
          go_wp2
          go_meet
          case rel => rw [← ha0'.out, ← ha1'.out]; exact ⟨⟨_, rfl, Lib.hid (decide_eq_false (fun h => h.elim b0.out b1.out)).symm⟩, hP⟩
    clear hP
    obtain ⟨⟨d, rfl, hd⟩, hP⟩ := hcut
    go_upto_if 90 with fail
    go_cut [16] from 91 to 105 (fun bv wr => bv = .bool d ∧ ∃ x : Ev, Hid (TakS w b t T0 u ls k.tick w.heap.size (w.heap.size + 1) gx A n c X (.slice (some ⟨gn, 0, Option.none⟩) mk cn) l k.tab x Option.none 0 0 wr) ∧ x.kind = kd ∧ x.hs = [] ∧ (d = false → x = ⟨kd, num9 l 0, k.tick + num9 l 1, nil9, nil9, [], nil9, 0, 0, false, nil9, 0⟩))
    case first =>
      as_aux_lemma =>
      cases d with
      | true =>
        go_wp2
        go_meet
        case rel => exact ⟨rfl, kev kd, hP, rfl, rfl, fun h => absurd h (by simp)⟩
      | false =>
        have hdd := of_decide_eq_false hd.out.symm
        have e0 := hns.out _ _ hP.out 0 (by omega)
        have e1 := hns.out _ _ hP.out 1 (by omega)
        have hXe := Lib.hid (show ⟨kd, num9 l 0, k.tick + num9 l 1, nil9, nil9, [], nil9, 0, 0, false, nil9, 0⟩ = ({ ({ kev kd with ses := (num9 l 0 : Int) } : Ev) with tick := k.tick + (num9 l 1 : Int) } : Ev) from rfl)
        obtain ⟨a0, ha0⟩ : ∃ a, a = num9 l 0 := ⟨_, rfl⟩
        obtain ⟨a1, ha1⟩ : ∃ a, a = num9 l 1 := ⟨_, rfl⟩
        rw [← ha0] at e0 hdd
        rw [← ha1] at e1 hdd
        have ha0' := Lib.hid ha0
        have ha1' := Lib.hid ha1
        clear ha0 ha1
        have b0 : a0 ≤ 1048576 := by omega
        have b1 : a1 ≤ 1099511627776 := by omega
        have hlo := hk'.out.low
        have hhi := hk'.out.high
        have w0 : IntKind.i64.wrap (a0 : Int) = (a0 : Int) := IntWalk.i64_in _ ⟨by omega, by omega⟩
        have w1 : IntKind.i64.wrap (a1 : Int) = (a1 : Int) := IntWalk.i64_in _ ⟨by omega, by omega⟩
        have w2 : IntKind.i64.wrap (k.tick + (a1 : Int)) = k.tick + (a1 : Int) := IntWalk.i64_in _ ⟨by omega, by omega⟩
        have hm0 : 0 < mk := by omega
        have hm1 : 1 < mk := by omega
        have t1 := hP.out.book.2
        clear hdd hlo hhi b0 b1 hd
        have s1 := (TakS.ev hP.out).c1
        have s2 := (TakS.ev hP.out).c2
        have f1 := hP.out.free 1
        have f2 := hP.out.free 2
        have n1 : gn ≠ gx := fun e => hP.out.ne.2.2.1 (by rw [e]; rfl)
        have n2 : b ≠ gx := by
          obtain ⟨T9, hB9, _⟩ := hP.out.ex
          intro e
          have h1 := hP.out.lo.2.2
          have h2 := hB'.out.low b (.inl rfl)
          omega
        have n3 := n1.symm
        have n4 := n2.symm
        go_upto_region 21 with fail
        go_region
        all_goals go_wp2
        all_goals go_meet
        case rel =>
          have h0 := ha0'.out
          have h1 := ha1'.out
          subst h0 h1
          exact ⟨rfl, _, ((hP.out.set1 (num9 l 0 : Int)).set2 (k.tick + (num9 l 1 : Int))).later (Below.refl _ _).drew, rfl, rfl, fun _ => rfl⟩
    clear hP
    obtain ⟨rfl, x, hP, hxk, hxh, hxd⟩ := hcut
    replace hxd := Lib.hid hxd
    replace hxk := Lib.hid hxk
    replace hxh := Lib.hid hxh
    go_upto_block 2 with fail
    go_cut [16, 17] from 106 to 133 (fun bv _ wr => (∃ e : Bool, bv = .bool e ∧ Hid (e = true ↔ (d = true ∨ ((kd ≠ 2 ∧ kd ≠ 5 ∧ kd ≠ 6) ∧ ∃ j, 2 ≤ j ∧ j < mk ∧ 1048576 < num9 l j)))) ∧ Hid (TakS w b t T0 u ls k.tick w.heap.size (w.heap.size + 1) gx A n c X (.slice (some ⟨gn, 0, Option.none⟩) mk cn) l k.tab x Option.none 0 0 wr))
    case first =>
      as_aux_lemma =>
      have hnc := Lib.hid (fun p hp => hns.out _ _ hP.out p hp)
      have c0 := (TakS.ev hP.out).c0
      rw [hxk.out] at c0
      have hm5 : mk ≤ 5 := hmv.out.1
      go_wp2_with fail
      go_loop [16, 17] (fun bv iv => ∃ i : Nat, (i = 2 ∨ (2 ≤ i ∧ i ≤ mk)) ∧ iv = .int .i64 i ∧ ∃ e : Bool, bv = .bool e ∧ (e = true ↔ (d = true ∨ ∃ j, 2 ≤ j ∧ j < i ∧ 1048576 < num9 l j)) ∧ (i = 2 ∨ (kd ≠ 2 ∧ kd ≠ 5 ∧ kd ≠ 6))) (fun _ iv => mk - (RowKit.intOf iv).toNat)
      case atStart => exact ⟨2, .inl rfl, rfl, d, rfl, ⟨.inl, fun h => h.elim id fun ⟨j, h1, h2, _⟩ => absurd h2 (by omega)⟩, .inl rfl⟩
      case round =>
        obtain ⟨i, hi2, rfl, e, rfl, hiff, hcd⟩ := hrel
        replace hiff := Lib.hid hiff
        replace hcd := Lib.hid hcd
        have hib : i ≤ 5 := by omega
        have hig : 2 ≤ i := by omega
        replace hi2 := Lib.hid hi2
        by_cases hlt : i < mk
        · by_cases k2 : kd = 2
          · have hi9 : i = 2 := hcd.out.resolve_right (fun h => h.1 k2)
            subst hi9
            have dla : decide ((2 : Int) < (mk : Int)) = true := decide_eq_true (by omega)
            have dlb : decide ((2 : Nat) < mk) = true := decide_eq_true (by omega)
            have k2a : ((kd : Int) == 2) = true := by simp only [beq_iff_eq]; omega
            have k2b : (kd == 2) = true := by simp only [beq_iff_eq]; omega
            have k2c : decide ((kd : Int) = 2) = true := decide_eq_true (by omega)
            have k2d : decide (kd = 2) = true := decide_eq_true (by omega)
            have k2e : ((kd : Int) != 2) = false := by simp only [bne, k2a]; rfl
            have k2f : (kd != 2) = false := by simp only [bne, k2b]; rfl
            replace k2 := Lib.hid k2
            go_wp2
            go_meet
            case rel => exact ⟨⟨e, rfl, Lib.hid ⟨fun h => (hiff.out.1 h).elim .inl fun ⟨j, h1, h2, _⟩ => absurd h2 (by omega), fun h => hiff.out.2 (h.elim .inl fun h => absurd k2.out h.1.1)⟩⟩, hP⟩
          · by_cases k5 : kd = 5
            · have hi9 : i = 2 := hcd.out.resolve_right (fun h => h.2.1 k5)
              subst hi9
              have dla : decide ((2 : Int) < (mk : Int)) = true := decide_eq_true (by omega)
              have dlb : decide ((2 : Nat) < mk) = true := decide_eq_true (by omega)
              have k2a : ((kd : Int) == 2) = false := by simp only [beq_eq_false_iff_ne, ne_eq]; omega
              have k2b : (kd == 2) = false := by simp only [beq_eq_false_iff_ne, ne_eq]; omega
              have k2c : decide ((kd : Int) = 2) = false := decide_eq_false (by omega)
              have k2d : decide (kd = 2) = false := decide_eq_false (by omega)
              have k2e : ((kd : Int) != 2) = true := by simp only [bne, k2a]; rfl
              have k2f : (kd != 2) = true := by simp only [bne, k2b]; rfl
              have k5a : ((kd : Int) == 5) = true := by simp only [beq_iff_eq]; omega
              have k5b : (kd == 5) = true := by simp only [beq_iff_eq]; omega
              have k5c : decide ((kd : Int) = 5) = true := decide_eq_true (by omega)
              have k5d : decide (kd = 5) = true := decide_eq_true (by omega)
              have k5e : ((kd : Int) != 5) = false := by simp only [bne, k5a]; rfl
              have k5f : (kd != 5) = false := by simp only [bne, k5b]; rfl
              replace k5 := Lib.hid k5
              go_wp2
              go_meet
              case rel => exact ⟨⟨e, rfl, Lib.hid ⟨fun h => (hiff.out.1 h).elim .inl fun ⟨j, h1, h2, _⟩ => absurd h2 (by omega), fun h => hiff.out.2 (h.elim .inl fun h => absurd k5.out h.1.2.1)⟩⟩, hP⟩
            · by_cases k6 : kd = 6
              · have hi9 : i = 2 := hcd.out.resolve_right (fun h => h.2.2 k6)
                subst hi9
                have dla : decide ((2 : Int) < (mk : Int)) = true := decide_eq_true (by omega)
                have dlb : decide ((2 : Nat) < mk) = true := decide_eq_true (by omega)
                have k2a : ((kd : Int) == 2) = false := by simp only [beq_eq_false_iff_ne, ne_eq]; omega
                have k2b : (kd == 2) = false := by simp only [beq_eq_false_iff_ne, ne_eq]; omega
                have k2c : decide ((kd : Int) = 2) = false := decide_eq_false (by omega)
                have k2d : decide (kd = 2) = false := decide_eq_false (by omega)
                have k2e : ((kd : Int) != 2) = true := by simp only [bne, k2a]; rfl
                have k2f : (kd != 2) = true := by simp only [bne, k2b]; rfl
                have k5a : ((kd : Int) == 5) = false := by simp only [beq_eq_false_iff_ne, ne_eq]; omega
                have k5b : (kd == 5) = false := by simp only [beq_eq_false_iff_ne, ne_eq]; omega
                have k5c : decide ((kd : Int) = 5) = false := decide_eq_false (by omega)
                have k5d : decide (kd = 5) = false := decide_eq_false (by omega)
                have k5e : ((kd : Int) != 5) = true := by simp only [bne, k5a]; rfl
                have k5f : (kd != 5) = true := by simp only [bne, k5b]; rfl
                have k6a : ((kd : Int) == 6) = true := by simp only [beq_iff_eq]; omega
                have k6b : (kd == 6) = true := by simp only [beq_iff_eq]; omega
                have k6c : decide ((kd : Int) = 6) = true := decide_eq_true (by omega)
                have k6d : decide (kd = 6) = true := decide_eq_true (by omega)
                have k6e : ((kd : Int) != 6) = false := by simp only [bne, k6a]; rfl
                have k6f : (kd != 6) = false := by simp only [bne, k6b]; rfl
                replace k6 := Lib.hid k6
                go_wp2
                go_meet
                case rel => exact ⟨⟨e, rfl, Lib.hid ⟨fun h => (hiff.out.1 h).elim .inl fun ⟨j, h1, h2, _⟩ => absurd h2 (by omega), fun h => hiff.out.2 (h.elim .inl fun h => absurd k6.out h.1.2.2)⟩⟩, hP⟩
              · replace hcd := Lib.hid (show (kd ≠ 2 ∧ kd ≠ 5 ∧ kd ≠ 6) from ⟨k2, k5, k6⟩)
                have k2a : ((kd : Int) == 2) = false := by simp only [beq_eq_false_iff_ne, ne_eq]; omega
                have k2b : (kd == 2) = false := by simp only [beq_eq_false_iff_ne, ne_eq]; omega
                have k2c : decide ((kd : Int) = 2) = false := decide_eq_false (by omega)
                have k2d : decide (kd = 2) = false := decide_eq_false (by omega)
                have k2e : ((kd : Int) != 2) = true := by simp only [bne, k2a]; rfl
                have k2f : (kd != 2) = true := by simp only [bne, k2b]; rfl
                have k5a : ((kd : Int) == 5) = false := by simp only [beq_eq_false_iff_ne, ne_eq]; omega
                have k5b : (kd == 5) = false := by simp only [beq_eq_false_iff_ne, ne_eq]; omega
                have k5c : decide ((kd : Int) = 5) = false := decide_eq_false (by omega)
                have k5d : decide (kd = 5) = false := decide_eq_false (by omega)
                have k5e : ((kd : Int) != 5) = true := by simp only [bne, k5a]; rfl
                have k5f : (kd != 5) = true := by simp only [bne, k5b]; rfl
                have k6a : ((kd : Int) == 6) = false := by simp only [beq_eq_false_iff_ne, ne_eq]; omega
                have k6b : (kd == 6) = false := by simp only [beq_eq_false_iff_ne, ne_eq]; omega
                have k6c : decide ((kd : Int) = 6) = false := decide_eq_false (by omega)
                have k6d : decide (kd = 6) = false := decide_eq_false (by omega)
                have k6e : ((kd : Int) != 6) = true := by simp only [bne, k6a]; rfl
                have k6f : (kd != 6) = true := by simp only [bne, k6b]; rfl
                cases e with
                | true =>
                  clear hnc
                  go_wp2
                  go_round
                  case rel => exact ⟨i + 1, by omega, by go_num, true, rfl, ⟨fun _ => by
                    rcases hiff.out.1 rfl with h | ⟨j, h1, h2, h3⟩
                    · exact .inl h
                    · exact .inr ⟨j, h1, by omega, h3⟩, fun _ => rfl⟩, .inr hcd.out⟩
                  case measure => simp [RowKit.intOf]; omega
                | false =>
                  have hni : ¬ (d = true ∨ ∃ j, 2 ≤ j ∧ j < i ∧ 1048576 < num9 l j) := fun h => absurd (hiff.out.2 h) (by simp)
                  have ei := hnc.out i hlt
                  obtain ⟨ai, hai⟩ : ∃ a, a = num9 l i := ⟨_, rfl⟩
                  rw [← hai] at ei
                  have hai' := Lib.hid hai
                  clear hai
                  replace hni := Lib.hid hni
                  by_cases b9 : 1048576 < ai
                  · have d9a : decide ((1048576 : Int) < (ai : Int)) = true := decide_eq_true (by omega)
                    have d9b : decide (1048576 < ai) = true := decide_eq_true (by omega)
                    replace b9 := Lib.hid b9
                    go_wp2
                    go_round
                    case rel => exact ⟨i + 1, by omega, by go_num, true, rfl, ⟨fun _ => .inr ⟨i, by omega, by omega, by rw [← hai'.out]; exact b9.out⟩, fun _ => rfl⟩, .inr hcd.out⟩
                    case measure => simp [RowKit.intOf]; omega
                  · have d9a : decide ((1048576 : Int) < (ai : Int)) = false := decide_eq_false (by omega)
                    have d9b : decide (1048576 < ai) = false := decide_eq_false (by omega)
                    replace b9 := Lib.hid b9
                    go_wp2
                    go_round
                    case rel => exact ⟨i + 1, by omega, by go_num, false, rfl, ⟨fun h => absurd h (by simp), fun h => by
                      rcases h with h | ⟨j, h1, h2, h3⟩
                      · exact absurd (.inl h) hni.out
                      · by_cases ej : j = i
                        · subst ej
                          rw [← hai'.out] at h3
                          exact absurd h3 b9.out
                        · exact absurd (.inr ⟨j, h1, by omega, h3⟩) hni.out⟩, .inr hcd.out⟩
                    case measure => simp [RowKit.intOf]; omega
        · have hdl : decide ((i : Int) < (mk : Int)) = false := decide_eq_false (by omega)
          have hdl2 : decide (i < mk) = false := decide_eq_false hlt
          have hmi := Lib.hid (show ∀ j, 2 ≤ j → j < mk → j < i from fun j _ h => by omega)
          have him := Lib.hid (show i = 2 ∨ i ≤ mk from hi2.out.imp id And.right)
          go_wp2
          go_meet
          case rel => exact ⟨⟨e, rfl, Lib.hid ⟨fun h => by
            rcases hiff.out.1 h with h | ⟨j, h1, h2, h3⟩
            · exact .inl h
            · exact .inr ⟨hcd.out.resolve_left (by omega), j, h1, by have := him.out; omega, h3⟩, fun h => hiff.out.2 (h.elim .inl fun ⟨_, j, h1, h2, h3⟩ => .inr ⟨j, h1, hmi.out j h1 h2, h3⟩)⟩⟩, hP⟩
    clear hP
    obtain ⟨⟨e2, rfl, he2⟩, hP⟩ := hcut
    go_upto_if 135 with fail
    go_cut [16] from 136 to 191 (fun bv wr => ∃ (e : Bool) (x : Ev), bv = .bool e ∧ Hid (TakS w b t T0 u ls k.tick w.heap.size (w.heap.size + 1) gx A n c X (.slice (some ⟨gn, 0, Option.none⟩) mk cn) l k.tab x Option.none 0 0 wr) ∧ x.kind = kd ∧ x.hs = [] ∧ Hid (e = true ↔ badN kd l) ∧ (e = false → x = evOf k.tick kd l [] []))
    case first =>
      as_aux_lemma =>
      have c0 := (TakS.ev hP.out).c0
      rw [hxk.out] at c0
      cases e2 with
      | true =>
        have hbt := Lib.hid (show badN kd l by
          rcases he2.out.1 rfl with h | ⟨h, j, h1, h2, h3⟩
          · have h9 := of_decide_eq_true (hd.out.symm.trans h)
            exact h9.elim .inl fun h => .inr (.inl h)
          · exact .inr (.inr (.inl ⟨h.1, h.2.1, h.2.2, j, h1, by rw [hll9.out]; exact h2, h3⟩)))
        go_wp2
        go_meet
        case rel => exact ⟨true, x, rfl, hP, hxk.out, hxh.out, Lib.hid ⟨fun _ => hbt.out, fun _ => rfl⟩, fun h => absurd h (by simp)⟩
      | false =>
        have hno : ¬ ((kd ≠ 2 ∧ kd ≠ 5 ∧ kd ≠ 6) ∧ ∃ j, 2 ≤ j ∧ j < mk ∧ 1048576 < num9 l j) := fun h => absurd (he2.out.2 (.inr h)) (by simp)
        have hdf : d = false := by
          cases d
          · rfl
          · exact absurd (he2.out.2 (.inl rfl)) (by simp)
        have hd0 := of_decide_eq_false (hd.out.symm.trans hdf)
        have hbad := Lib.hid (show badN kd l ↔ kd = 2 ∧ 2 < num9 l 2 from ⟨fun h => by
          rcases h with h | h | ⟨h1, h2, h3, j, h4, h5, h6⟩ | h
          · exact absurd (.inl h) hd0
          · exact absurd (.inr h) hd0
          · exact absurd ⟨⟨h1, h2, h3⟩, j, h4, by rw [← hll9.out]; exact h5, h6⟩ hno
          · exact h, fun h => .inr (.inr (.inr h))⟩)
        have hx9 := hxd.out hdf
        subst hx9
        clear hxd hd0 hdf hd he2 hxk hxh
        obtain kk | kk | kk | kk | kk | kk | kk : kd = 1 ∨ kd = 2 ∨ kd = 3 ∨ kd = 4 ∨ kd = 5 ∨ kd = 6 ∨ kd = 7 := by omega
        · have k1a : ((kd : Int) == 1) = true := by simp only [beq_iff_eq]; omega
          have k1b : (kd == 1) = true := by simp only [beq_iff_eq]; omega
          have k1c : decide ((kd : Int) = 1) = true := decide_eq_true (by omega)
          have k1d : decide (kd = 1) = true := decide_eq_true (by omega)
          have k1e : ((kd : Int) != 1) = false := by simp only [bne, k1a]; rfl
          have k1f : (kd != 1) = false := by simp only [bne, k1b]; rfl
          have e2 := hns.out _ _ hP.out 2 (by have := hmv.out; omega)
          obtain ⟨a2, ha2⟩ : ∃ a, a = num9 l 2 := ⟨_, rfl⟩
          rw [← ha2] at e2
          have hi2 : 2 < mk := by have := hmv.out; omega
          have s2 : a2 ≤ 1048576 := by
            rw [ha2]
            refine Nat.le_of_not_lt fun h9 => hno ⟨⟨by omega, by omega, by omega⟩, 2, by omega, by have := hmv.out; omega, h9⟩
          have w2 : IntKind.i64.wrap (a2 : Int) = (a2 : Int) := IntWalk.i64_in _ ⟨by omega, by omega⟩
          have ha2' := Lib.hid ha2
          clear ha2
          have z8 := (TakS.ev hP.out).c8
          have y8 := hP.out.free 8
          replace kk := Lib.hid kk
          clear hno
          go_wp2
          go_meet
          case rel =>
            exact ⟨false, _, rfl, Lib.hid (hP.out.set8 (a2 : Int)), rfl, rfl, Lib.hid ⟨fun h => absurd h (by simp), fun h => absurd (hbad.out.1 h).1 (by have := kk.out; omega)⟩, fun _ => by
              have h9 := kk.out
              rw [ha2'.out]
              subst h9
              rfl⟩
        · have k1a : ((kd : Int) == 1) = false := by simp only [beq_eq_false_iff_ne, ne_eq]; omega
          have k1b : (kd == 1) = false := by simp only [beq_eq_false_iff_ne, ne_eq]; omega
          have k1c : decide ((kd : Int) = 1) = false := decide_eq_false (by omega)
          have k1d : decide (kd = 1) = false := decide_eq_false (by omega)
          have k1e : ((kd : Int) != 1) = true := by simp only [bne, k1a]; rfl
          have k1f : (kd != 1) = true := by simp only [bne, k1b]; rfl
          have k2a : ((kd : Int) == 2) = true := by simp only [beq_iff_eq]; omega
          have k2b : (kd == 2) = true := by simp only [beq_iff_eq]; omega
          have k2c : decide ((kd : Int) = 2) = true := decide_eq_true (by omega)
          have k2d : decide (kd = 2) = true := decide_eq_true (by omega)
          have k2e : ((kd : Int) != 2) = false := by simp only [bne, k2a]; rfl
          have k2f : (kd != 2) = false := by simp only [bne, k2b]; rfl
          have e2 := hns.out _ _ hP.out 2 (by have := hmv.out; omega)
          obtain ⟨a2, ha2⟩ : ∃ a, a = num9 l 2 := ⟨_, rfl⟩
          rw [← ha2] at e2
          have hi2 : 2 < mk := by have := hmv.out; omega
          have e3 := hns.out _ _ hP.out 3 (by have := hmv.out; omega)
          obtain ⟨a3, ha3⟩ : ∃ a, a = num9 l 3 := ⟨_, rfl⟩
          rw [← ha3] at e3
          have hi3 : 3 < mk := by have := hmv.out; omega
          have e4 := hns.out _ _ hP.out 4 (by have := hmv.out; omega)
          obtain ⟨a4, ha4⟩ : ∃ a, a = num9 l 4 := ⟨_, rfl⟩
          rw [← ha4] at e4
          have hi4 : 4 < mk := by have := hmv.out; omega
          have ha2' := Lib.hid ha2
          clear ha2
          have ha3' := Lib.hid ha3
          clear ha3
          have ha4' := Lib.hid ha4
          clear ha4
          have z8 := (TakS.ev hP.out).c8
          have y8 := hP.out.free 8
          have z9 := (TakS.ev hP.out).c9
          have y9 := hP.out.free 9
          have z11 := (TakS.ev hP.out).c11
          have y11 := hP.out.free 11
          have n1 : gn ≠ gx := fun e => hP.out.ne.2.2.1 (by rw [e]; rfl)
          have n3 := n1.symm
          obtain ⟨am, ham⟩ : ∃ am, am = a2 % 3 := ⟨_, rfl⟩
          have hm1 : (a2 : Int) % 3 = (am : Int) := by omega
          have hm2 : (a2 : Int).tmod 3 = (am : Int) := by rw [Int.tmod_eq_emod_of_nonneg (by omega)]; omega
          have hal : am < 3 := by omega
          have w2 : IntKind.i64.wrap (am : Int) = (am : Int) := IntWalk.i64_in _ ⟨by omega, by omega⟩
          have w3 : IntKind.u64.wrap (am : Int) = (am : Int) := IntWalk.u64_in _ ⟨by omega, by omega⟩
          have ham' := Lib.hid ham
          clear ham hal
          replace kk := Lib.hid kk
          clear hno
          by_cases q2 : 2 < a2
          · by_cases q3 : a3 = 1
            · have d2a : decide ((2 : Int) < (a2 : Int)) = true := decide_eq_true (by omega)
              have d2b : decide (2 < a2) = true := decide_eq_true (by omega)
              have k9a : ((a3 : Int) == 1) = true := by simp only [beq_iff_eq]; omega
              have k9b : (a3 == 1) = true := by simp only [beq_iff_eq]; omega
              have k9c : decide ((a3 : Int) = 1) = true := decide_eq_true (by omega)
              have k9d : decide (a3 = 1) = true := decide_eq_true (by omega)
              have k9e : ((a3 : Int) != 1) = false := by simp only [bne, k9a]; rfl
              have k9f : (a3 != 1) = false := by simp only [bne, k9b]; rfl
              replace q2 := Lib.hid q2
              replace q3 := Lib.hid q3
              go_upto_region 32 with fail
              go_region
              all_goals go_wp2
              all_goals go_meet
              case rel => exact ⟨true, _, rfl, Lib.hid ((((hP.out.set8 (am : Int)).set9 true).set11 a4).later (Below.refl _ _).drew), rfl, rfl, Lib.hid ⟨fun _ => hbad.out.2 ⟨kk.out, by rw [← ha2'.out]; exact q2.out⟩, fun _ => rfl⟩, fun h => absurd h (by simp)⟩
            · have d2a : decide ((2 : Int) < (a2 : Int)) = true := decide_eq_true (by omega)
              have d2b : decide (2 < a2) = true := decide_eq_true (by omega)
              have k9a : ((a3 : Int) == 1) = false := by simp only [beq_eq_false_iff_ne, ne_eq]; omega
              have k9b : (a3 == 1) = false := by simp only [beq_eq_false_iff_ne, ne_eq]; omega
              have k9c : decide ((a3 : Int) = 1) = false := decide_eq_false (by omega)
              have k9d : decide (a3 = 1) = false := decide_eq_false (by omega)
              have k9e : ((a3 : Int) != 1) = true := by simp only [bne, k9a]; rfl
              have k9f : (a3 != 1) = true := by simp only [bne, k9b]; rfl
              replace q2 := Lib.hid q2
              replace q3 := Lib.hid q3
              go_upto_region 32 with fail
              go_region
              all_goals go_wp2
              all_goals go_meet
              case rel => exact ⟨true, _, rfl, Lib.hid ((((hP.out.set8 (am : Int)).set9 false).set11 a4).later (Below.refl _ _).drew), rfl, rfl, Lib.hid ⟨fun _ => hbad.out.2 ⟨kk.out, by rw [← ha2'.out]; exact q2.out⟩, fun _ => rfl⟩, fun h => absurd h (by simp)⟩
          · by_cases q3 : a3 = 1
            · have d2a : decide ((2 : Int) < (a2 : Int)) = false := decide_eq_false (by omega)
              have d2b : decide (2 < a2) = false := decide_eq_false (by omega)
              have k9a : ((a3 : Int) == 1) = true := by simp only [beq_iff_eq]; omega
              have k9b : (a3 == 1) = true := by simp only [beq_iff_eq]; omega
              have k9c : decide ((a3 : Int) = 1) = true := decide_eq_true (by omega)
              have k9d : decide (a3 = 1) = true := decide_eq_true (by omega)
              have k9e : ((a3 : Int) != 1) = false := by simp only [bne, k9a]; rfl
              have k9f : (a3 != 1) = false := by simp only [bne, k9b]; rfl
              replace q2 := Lib.hid q2
              replace q3 := Lib.hid q3
              go_upto_region 32 with fail
              go_region
              all_goals go_wp2
              all_goals go_meet
              case rel => exact ⟨false, _, rfl, Lib.hid ((((hP.out.set8 (am : Int)).set9 true).set11 a4).later (Below.refl _ _).drew), rfl, rfl, Lib.hid ⟨fun h => absurd h (by simp), fun h => absurd (hbad.out.1 h).2 (by rw [← ha2'.out]; exact q2.out)⟩, fun _ => by
                  have h9 := kk.out
                  have h2 : am = num9 l 2 := by rw [ham'.out, ← ha2'.out]; have := q2.out; omega
                  have h3 : decide (num9 l 3 = 1) = true := by rw [← ha3'.out]; exact decide_eq_true q3.out
                  rw [h2, ha4'.out, ← h3]
                  subst h9
                  rfl⟩
            · have d2a : decide ((2 : Int) < (a2 : Int)) = false := decide_eq_false (by omega)
              have d2b : decide (2 < a2) = false := decide_eq_false (by omega)
              have k9a : ((a3 : Int) == 1) = false := by simp only [beq_eq_false_iff_ne, ne_eq]; omega
              have k9b : (a3 == 1) = false := by simp only [beq_eq_false_iff_ne, ne_eq]; omega
              have k9c : decide ((a3 : Int) = 1) = false := decide_eq_false (by omega)
              have k9d : decide (a3 = 1) = false := decide_eq_false (by omega)
              have k9e : ((a3 : Int) != 1) = true := by simp only [bne, k9a]; rfl
              have k9f : (a3 != 1) = true := by simp only [bne, k9b]; rfl
              replace q2 := Lib.hid q2
              replace q3 := Lib.hid q3
              go_upto_region 32 with fail
              go_region
              all_goals go_wp2
              all_goals go_meet
              case rel => exact ⟨false, _, rfl, Lib.hid ((((hP.out.set8 (am : Int)).set9 false).set11 a4).later (Below.refl _ _).drew), rfl, rfl, Lib.hid ⟨fun h => absurd h (by simp), fun h => absurd (hbad.out.1 h).2 (by rw [← ha2'.out]; exact q2.out)⟩, fun _ => by
                  have h9 := kk.out
                  have h2 : am = num9 l 2 := by rw [ham'.out, ← ha2'.out]; have := q2.out; omega
                  have h3 : decide (num9 l 3 = 1) = false := by rw [← ha3'.out]; exact decide_eq_false q3.out
                  rw [h2, ha4'.out, ← h3]
                  subst h9
                  rfl⟩
        · have k1a : ((kd : Int) == 1) = false := by simp only [beq_eq_false_iff_ne, ne_eq]; omega
          have k1b : (kd == 1) = false := by simp only [beq_eq_false_iff_ne, ne_eq]; omega
          have k1c : decide ((kd : Int) = 1) = false := decide_eq_false (by omega)
          have k1d : decide (kd = 1) = false := decide_eq_false (by omega)
          have k1e : ((kd : Int) != 1) = true := by simp only [bne, k1a]; rfl
          have k1f : (kd != 1) = true := by simp only [bne, k1b]; rfl
          have k2a : ((kd : Int) == 2) = false := by simp only [beq_eq_false_iff_ne, ne_eq]; omega
          have k2b : (kd == 2) = false := by simp only [beq_eq_false_iff_ne, ne_eq]; omega
          have k2c : decide ((kd : Int) = 2) = false := decide_eq_false (by omega)
          have k2d : decide (kd = 2) = false := decide_eq_false (by omega)
          have k2e : ((kd : Int) != 2) = true := by simp only [bne, k2a]; rfl
          have k2f : (kd != 2) = true := by simp only [bne, k2b]; rfl
          have k3a : ((kd : Int) == 3) = true := by simp only [beq_iff_eq]; omega
          have k3b : (kd == 3) = true := by simp only [beq_iff_eq]; omega
          have k3c : decide ((kd : Int) = 3) = true := decide_eq_true (by omega)
          have k3d : decide (kd = 3) = true := decide_eq_true (by omega)
          have k3e : ((kd : Int) != 3) = false := by simp only [bne, k3a]; rfl
          have k3f : (kd != 3) = false := by simp only [bne, k3b]; rfl
          have e2 := hns.out _ _ hP.out 2 (by have := hmv.out; omega)
          obtain ⟨a2, ha2⟩ : ∃ a, a = num9 l 2 := ⟨_, rfl⟩
          rw [← ha2] at e2
          have hi2 : 2 < mk := by have := hmv.out; omega
          have s2 : a2 ≤ 1048576 := by
            rw [ha2]
            refine Nat.le_of_not_lt fun h9 => hno ⟨⟨by omega, by omega, by omega⟩, 2, by omega, by have := hmv.out; omega, h9⟩
          have w2 : IntKind.i64.wrap (a2 : Int) = (a2 : Int) := IntWalk.i64_in _ ⟨by omega, by omega⟩
          have ha2' := Lib.hid ha2
          clear ha2
          have z7 := (TakS.ev hP.out).c7
          have y7 := hP.out.free 7
          replace kk := Lib.hid kk
          clear hno
          go_wp2
          go_meet
          case rel =>
            exact ⟨false, _, rfl, Lib.hid (hP.out.set7 (a2 : Int)), rfl, rfl, Lib.hid ⟨fun h => absurd h (by simp), fun h => absurd (hbad.out.1 h).1 (by have := kk.out; omega)⟩, fun _ => by
              have h9 := kk.out
              rw [ha2'.out]
              subst h9
              rfl⟩
        · have k1a : ((kd : Int) == 1) = false := by simp only [beq_eq_false_iff_ne, ne_eq]; omega
          have k1b : (kd == 1) = false := by simp only [beq_eq_false_iff_ne, ne_eq]; omega
          have k1c : decide ((kd : Int) = 1) = false := decide_eq_false (by omega)
          have k1d : decide (kd = 1) = false := decide_eq_false (by omega)
          have k1e : ((kd : Int) != 1) = true := by simp only [bne, k1a]; rfl
          have k1f : (kd != 1) = true := by simp only [bne, k1b]; rfl
          have k2a : ((kd : Int) == 2) = false := by simp only [beq_eq_false_iff_ne, ne_eq]; omega
          have k2b : (kd == 2) = false := by simp only [beq_eq_false_iff_ne, ne_eq]; omega
          have k2c : decide ((kd : Int) = 2) = false := decide_eq_false (by omega)
          have k2d : decide (kd = 2) = false := decide_eq_false (by omega)
          have k2e : ((kd : Int) != 2) = true := by simp only [bne, k2a]; rfl
          have k2f : (kd != 2) = true := by simp only [bne, k2b]; rfl
          have k3a : ((kd : Int) == 3) = false := by simp only [beq_eq_false_iff_ne, ne_eq]; omega
          have k3b : (kd == 3) = false := by simp only [beq_eq_false_iff_ne, ne_eq]; omega
          have k3c : decide ((kd : Int) = 3) = false := decide_eq_false (by omega)
          have k3d : decide (kd = 3) = false := decide_eq_false (by omega)
          have k3e : ((kd : Int) != 3) = true := by simp only [bne, k3a]; rfl
          have k3f : (kd != 3) = true := by simp only [bne, k3b]; rfl
          have k5a : ((kd : Int) == 5) = false := by simp only [beq_eq_false_iff_ne, ne_eq]; omega
          have k5b : (kd == 5) = false := by simp only [beq_eq_false_iff_ne, ne_eq]; omega
          have k5c : decide ((kd : Int) = 5) = false := decide_eq_false (by omega)
          have k5d : decide (kd = 5) = false := decide_eq_false (by omega)
          have k5e : ((kd : Int) != 5) = true := by simp only [bne, k5a]; rfl
          have k5f : (kd != 5) = true := by simp only [bne, k5b]; rfl
          have k6a : ((kd : Int) == 6) = false := by simp only [beq_eq_false_iff_ne, ne_eq]; omega
          have k6b : (kd == 6) = false := by simp only [beq_eq_false_iff_ne, ne_eq]; omega
          have k6c : decide ((kd : Int) = 6) = false := decide_eq_false (by omega)
          have k6d : decide (kd = 6) = false := decide_eq_false (by omega)
          have k6e : ((kd : Int) != 6) = true := by simp only [bne, k6a]; rfl
          have k6f : (kd != 6) = true := by simp only [bne, k6b]; rfl
          have k7a : ((kd : Int) == 7) = false := by simp only [beq_eq_false_iff_ne, ne_eq]; omega
          have k7b : (kd == 7) = false := by simp only [beq_eq_false_iff_ne, ne_eq]; omega
          have k7c : decide ((kd : Int) = 7) = false := decide_eq_false (by omega)
          have k7d : decide (kd = 7) = false := decide_eq_false (by omega)
          have k7e : ((kd : Int) != 7) = true := by simp only [bne, k7a]; rfl
          have k7f : (kd != 7) = true := by simp only [bne, k7b]; rfl
          replace kk := Lib.hid kk
          clear hno
          go_wp2
          go_meet
          case rel =>
            exact ⟨false, _, rfl, hP, rfl, rfl, Lib.hid ⟨fun h => absurd h (by simp), fun h => absurd (hbad.out.1 h).1 (by have := kk.out; omega)⟩, fun _ => by
              have h9 := kk.out
              subst h9
              rfl⟩
        · have k1a : ((kd : Int) == 1) = false := by simp only [beq_eq_false_iff_ne, ne_eq]; omega
          have k1b : (kd == 1) = false := by simp only [beq_eq_false_iff_ne, ne_eq]; omega
          have k1c : decide ((kd : Int) = 1) = false := decide_eq_false (by omega)
          have k1d : decide (kd = 1) = false := decide_eq_false (by omega)
          have k1e : ((kd : Int) != 1) = true := by simp only [bne, k1a]; rfl
          have k1f : (kd != 1) = true := by simp only [bne, k1b]; rfl
          have k2a : ((kd : Int) == 2) = false := by simp only [beq_eq_false_iff_ne, ne_eq]; omega
          have k2b : (kd == 2) = false := by simp only [beq_eq_false_iff_ne, ne_eq]; omega
          have k2c : decide ((kd : Int) = 2) = false := decide_eq_false (by omega)
          have k2d : decide (kd = 2) = false := decide_eq_false (by omega)
          have k2e : ((kd : Int) != 2) = true := by simp only [bne, k2a]; rfl
          have k2f : (kd != 2) = true := by simp only [bne, k2b]; rfl
          have k3a : ((kd : Int) == 3) = false := by simp only [beq_eq_false_iff_ne, ne_eq]; omega
          have k3b : (kd == 3) = false := by simp only [beq_eq_false_iff_ne, ne_eq]; omega
          have k3c : decide ((kd : Int) = 3) = false := decide_eq_false (by omega)
          have k3d : decide (kd = 3) = false := decide_eq_false (by omega)
          have k3e : ((kd : Int) != 3) = true := by simp only [bne, k3a]; rfl
          have k3f : (kd != 3) = true := by simp only [bne, k3b]; rfl
          have k5a : ((kd : Int) == 5) = true := by simp only [beq_iff_eq]; omega
          have k5b : (kd == 5) = true := by simp only [beq_iff_eq]; omega
          have k5c : decide ((kd : Int) = 5) = true := decide_eq_true (by omega)
          have k5d : decide (kd = 5) = true := decide_eq_true (by omega)
          have k5e : ((kd : Int) != 5) = false := by simp only [bne, k5a]; rfl
          have k5f : (kd != 5) = false := by simp only [bne, k5b]; rfl
          have e2 := hns.out _ _ hP.out 2 (by have := hmv.out; omega)
          obtain ⟨a2, ha2⟩ : ∃ a, a = num9 l 2 := ⟨_, rfl⟩
          rw [← ha2] at e2
          have hi2 : 2 < mk := by have := hmv.out; omega
          have ha2' := Lib.hid ha2
          clear ha2
          have z11 := (TakS.ev hP.out).c11
          have y11 := hP.out.free 11
          replace kk := Lib.hid kk
          clear hno
          go_wp2
          go_meet
          case rel =>
            exact ⟨false, _, rfl, Lib.hid (hP.out.set11 a2), rfl, rfl, Lib.hid ⟨fun h => absurd h (by simp), fun h => absurd (hbad.out.1 h).1 (by have := kk.out; omega)⟩, fun _ => by
              have h9 := kk.out
              rw [ha2'.out]
              subst h9
              rfl⟩
        · have k1a : ((kd : Int) == 1) = false := by simp only [beq_eq_false_iff_ne, ne_eq]; omega
          have k1b : (kd == 1) = false := by simp only [beq_eq_false_iff_ne, ne_eq]; omega
          have k1c : decide ((kd : Int) = 1) = false := decide_eq_false (by omega)
          have k1d : decide (kd = 1) = false := decide_eq_false (by omega)
          have k1e : ((kd : Int) != 1) = true := by simp only [bne, k1a]; rfl
          have k1f : (kd != 1) = true := by simp only [bne, k1b]; rfl
          have k2a : ((kd : Int) == 2) = false := by simp only [beq_eq_false_iff_ne, ne_eq]; omega
          have k2b : (kd == 2) = false := by simp only [beq_eq_false_iff_ne, ne_eq]; omega
          have k2c : decide ((kd : Int) = 2) = false := decide_eq_false (by omega)
          have k2d : decide (kd = 2) = false := decide_eq_false (by omega)
          have k2e : ((kd : Int) != 2) = true := by simp only [bne, k2a]; rfl
          have k2f : (kd != 2) = true := by simp only [bne, k2b]; rfl
          have k3a : ((kd : Int) == 3) = false := by simp only [beq_eq_false_iff_ne, ne_eq]; omega
          have k3b : (kd == 3) = false := by simp only [beq_eq_false_iff_ne, ne_eq]; omega
          have k3c : decide ((kd : Int) = 3) = false := decide_eq_false (by omega)
          have k3d : decide (kd = 3) = false := decide_eq_false (by omega)
          have k3e : ((kd : Int) != 3) = true := by simp only [bne, k3a]; rfl
          have k3f : (kd != 3) = true := by simp only [bne, k3b]; rfl
          have k5a : ((kd : Int) == 5) = false := by simp only [beq_eq_false_iff_ne, ne_eq]; omega
          have k5b : (kd == 5) = false := by simp only [beq_eq_false_iff_ne, ne_eq]; omega
          have k5c : decide ((kd : Int) = 5) = false := decide_eq_false (by omega)
          have k5d : decide (kd = 5) = false := decide_eq_false (by omega)
          have k5e : ((kd : Int) != 5) = true := by simp only [bne, k5a]; rfl
          have k5f : (kd != 5) = true := by simp only [bne, k5b]; rfl
          have k6a : ((kd : Int) == 6) = true := by simp only [beq_iff_eq]; omega
          have k6b : (kd == 6) = true := by simp only [beq_iff_eq]; omega
          have k6c : decide ((kd : Int) = 6) = true := decide_eq_true (by omega)
          have k6d : decide (kd = 6) = true := decide_eq_true (by omega)
          have k6e : ((kd : Int) != 6) = false := by simp only [bne, k6a]; rfl
          have k6f : (kd != 6) = false := by simp only [bne, k6b]; rfl
          have e2 := hns.out _ _ hP.out 2 (by have := hmv.out; omega)
          obtain ⟨a2, ha2⟩ : ∃ a, a = num9 l 2 := ⟨_, rfl⟩
          rw [← ha2] at e2
          have hi2 : 2 < mk := by have := hmv.out; omega
          have ha2' := Lib.hid ha2
          clear ha2
          have z11 := (TakS.ev hP.out).c11
          have y11 := hP.out.free 11
          replace kk := Lib.hid kk
          clear hno
          go_wp2
          go_meet
          case rel =>
            exact ⟨false, _, rfl, Lib.hid (hP.out.set11 a2), rfl, rfl, Lib.hid ⟨fun h => absurd h (by simp), fun h => absurd (hbad.out.1 h).1 (by have := kk.out; omega)⟩, fun _ => by
              have h9 := kk.out
              rw [ha2'.out]
              subst h9
              rfl⟩
        · have k1a : ((kd : Int) == 1) = false := by simp only [beq_eq_false_iff_ne, ne_eq]; omega
          have k1b : (kd == 1) = false := by simp only [beq_eq_false_iff_ne, ne_eq]; omega
          have k1c : decide ((kd : Int) = 1) = false := decide_eq_false (by omega)
          have k1d : decide (kd = 1) = false := decide_eq_false (by omega)
          have k1e : ((kd : Int) != 1) = true := by simp only [bne, k1a]; rfl
          have k1f : (kd != 1) = true := by simp only [bne, k1b]; rfl
          have k2a : ((kd : Int) == 2) = false := by simp only [beq_eq_false_iff_ne, ne_eq]; omega
          have k2b : (kd == 2) = false := by simp only [beq_eq_false_iff_ne, ne_eq]; omega
          have k2c : decide ((kd : Int) = 2) = false := decide_eq_false (by omega)
          have k2d : decide (kd = 2) = false := decide_eq_false (by omega)
          have k2e : ((kd : Int) != 2) = true := by simp only [bne, k2a]; rfl
          have k2f : (kd != 2) = true := by simp only [bne, k2b]; rfl
          have k3a : ((kd : Int) == 3) = false := by simp only [beq_eq_false_iff_ne, ne_eq]; omega
          have k3b : (kd == 3) = false := by simp only [beq_eq_false_iff_ne, ne_eq]; omega
          have k3c : decide ((kd : Int) = 3) = false := decide_eq_false (by omega)
          have k3d : decide (kd = 3) = false := decide_eq_false (by omega)
          have k3e : ((kd : Int) != 3) = true := by simp only [bne, k3a]; rfl
          have k3f : (kd != 3) = true := by simp only [bne, k3b]; rfl
          have k5a : ((kd : Int) == 5) = false := by simp only [beq_eq_false_iff_ne, ne_eq]; omega
          have k5b : (kd == 5) = false := by simp only [beq_eq_false_iff_ne, ne_eq]; omega
          have k5c : decide ((kd : Int) = 5) = false := decide_eq_false (by omega)
          have k5d : decide (kd = 5) = false := decide_eq_false (by omega)
          have k5e : ((kd : Int) != 5) = true := by simp only [bne, k5a]; rfl
          have k5f : (kd != 5) = true := by simp only [bne, k5b]; rfl
          have k6a : ((kd : Int) == 6) = false := by simp only [beq_eq_false_iff_ne, ne_eq]; omega
          have k6b : (kd == 6) = false := by simp only [beq_eq_false_iff_ne, ne_eq]; omega
          have k6c : decide ((kd : Int) = 6) = false := decide_eq_false (by omega)
          have k6d : decide (kd = 6) = false := decide_eq_false (by omega)
          have k6e : ((kd : Int) != 6) = true := by simp only [bne, k6a]; rfl
          have k6f : (kd != 6) = true := by simp only [bne, k6b]; rfl
          have k7a : ((kd : Int) == 7) = true := by simp only [beq_iff_eq]; omega
          have k7b : (kd == 7) = true := by simp only [beq_iff_eq]; omega
          have k7c : decide ((kd : Int) = 7) = true := decide_eq_true (by omega)
          have k7d : decide (kd = 7) = true := decide_eq_true (by omega)
          have k7e : ((kd : Int) != 7) = false := by simp only [bne, k7a]; rfl
          have k7f : (kd != 7) = false := by simp only [bne, k7b]; rfl
          have e2 := hns.out _ _ hP.out 2 (by have := hmv.out; omega)
          obtain ⟨a2, ha2⟩ : ∃ a, a = num9 l 2 := ⟨_, rfl⟩
          rw [← ha2] at e2
          have hi2 : 2 < mk := by have := hmv.out; omega
          have e3 := hns.out _ _ hP.out 3 (by have := hmv.out; omega)
          obtain ⟨a3, ha3⟩ : ∃ a, a = num9 l 3 := ⟨_, rfl⟩
          rw [← ha3] at e3
          have hi3 : 3 < mk := by have := hmv.out; omega
          have s2 : a2 ≤ 1048576 := by
            rw [ha2]
            refine Nat.le_of_not_lt fun h9 => hno ⟨⟨by omega, by omega, by omega⟩, 2, by omega, by have := hmv.out; omega, h9⟩
          have w2 : IntKind.i64.wrap (a2 : Int) = (a2 : Int) := IntWalk.i64_in _ ⟨by omega, by omega⟩
          have s3 : a3 ≤ 1048576 := by
            rw [ha3]
            refine Nat.le_of_not_lt fun h9 => hno ⟨⟨by omega, by omega, by omega⟩, 3, by omega, by have := hmv.out; omega, h9⟩
          have w3 : IntKind.i64.wrap (a3 : Int) = (a3 : Int) := IntWalk.i64_in _ ⟨by omega, by omega⟩
          have ha2' := Lib.hid ha2
          clear ha2
          have ha3' := Lib.hid ha3
          clear ha3
          have z7 := (TakS.ev hP.out).c7
          have y7 := hP.out.free 7
          have z8 := (TakS.ev hP.out).c8
          have y8 := hP.out.free 8
          have n1 : gn ≠ gx := fun e => hP.out.ne.2.2.1 (by rw [e]; rfl)
          have n3 := n1.symm
          replace kk := Lib.hid kk
          clear hno
          go_upto_region 39 with fail
          go_region
          all_goals go_wp2
          all_goals go_meet
          case rel =>
            exact ⟨false, _, rfl, Lib.hid (((hP.out.set8 (a2 : Int)).set7 (a3 : Int)).later (Below.refl _ _).drew), rfl, rfl, Lib.hid ⟨fun h => absurd h (by simp), fun h => absurd (hbad.out.1 h).1 (by have := kk.out; omega)⟩, fun _ => by
              have h9 := kk.out
              rw [ha2'.out]
              rw [ha3'.out]
              subst h9
              rfl⟩
    clear hP he2 hd hxd hxk hxh
    obtain ⟨e3, x3, rfl, hP, hxk, hxh, he3, hxd⟩ := hcut
    replace hxd := Lib.hid hxd
    replace hxk := Lib.hid hxk
    replace hxh := Lib.hid hxh
    have c0 := (TakS.ev hP.out).c0
    rw [hxk.out] at c0
    go_upto_region 40 with fail
    go_cut [194] from 192 to 194 (fun v wr => (∃ d : Bool, v = .bool d ∧ Hid (d = decide (kd ≤ 2))) ∧ Hid (TakS w b t T0 u ls k.tick w.heap.size (w.heap.size + 1) gx A n c X (.slice (some ⟨gn, 0, Option.none⟩) mk cn) l k.tab x3 Option.none 0 0 wr))
    case first =>
      as_aux_lemma =>
      by_cases q2 : kd ≤ 2
      · have d2a : decide ((kd : Int) ≤ 2) = true := decide_eq_true (by omega)
        have d2b : decide (kd ≤ 2) = true := decide_eq_true (by omega)
        replace q2 := Lib.hid q2
        go_wp2
        go_meet
        case rel => exact ⟨⟨_, rfl, Lib.hid (decide_eq_true q2.out).symm⟩, hP⟩
      · have d2a : decide ((kd : Int) ≤ 2) = false := decide_eq_false (by omega)
        have d2b : decide (kd ≤ 2) = false := decide_eq_false (by omega)
        replace q2 := Lib.hid q2
        go_wp2
        go_meet
        case rel => exact ⟨⟨_, rfl, Lib.hid (decide_eq_false q2.out).symm⟩, hP⟩
    clear hP c0
    obtain ⟨⟨dd, rfl, hdd⟩, hP⟩ := hcut
    go_upto_if 194 with fail
    go_cut [2, 11] from 195 to 220 (fun qv ev wr => ∃ (s : TS) (x : Ev), Hid (tsteps X ⟨[], q, 0, k.tab⟩ (J1 kd) = s) ∧ ev = .int .i64 s.e ∧ (s.e = 0 → qv = .int .i64 s.q) ∧ Hid (TakS w b t T0 u ls k.tick w.heap.size (w.heap.size + 1) gx A n c X (.slice (some ⟨gn, 0, Option.none⟩) mk cn) l s.t x Option.none 0 0 wr) ∧ x.kind = kd ∧ x.hs = [] ∧ (s.e = 0 → e3 = false → x = evOf k.tick kd l s.l []) ∧ s.t.length ≤ k.tab.length + (J1 kd))
    case first =>
      as_aux_lemma =>
      have t1 := hP.out.book.1
      cases dd with
      | true =>
        have q2 := of_decide_eq_true hdd.out.symm
        have hc1 := fun W (h : TakS w b t T0 u ls k.tick w.heap.size (w.heap.size + 1) gx A n c X (.slice (some ⟨gn, 0, Option.none⟩) mk cn) l k.tab x3 Option.none 0 0 W) => TakS.callTake h q (by have := hT'.out; omega) (by have := hn'.out; omega)
        have tl1 := takeL_len k.tab X q
        obtain ⟨r1, hr1⟩ : ∃ r, r = takeB k.tab X q := ⟨_, rfl⟩
        obtain ⟨T1, hT1⟩ : ∃ T, T = takeL k.tab X q := ⟨_, rfl⟩
        simp only [← hr1, ← hT1] at hc1 tl1
        obtain ⟨sx1, n1, f1⟩ := r1
        simp only at hc1
        obtain ⟨z1, hz1⟩ : ∃ z, z = Go.Proofs.Ytodncamohimmmaa.mk sx1 := ⟨_, rfl⟩
        rw [← hz1] at hc1
        replace hc1 := Lib.hid hc1
        replace hr1 := Lib.hid hr1
        replace hT1 := Lib.hid hT1
        replace hz1 := Lib.hid hz1
        have hl1 : T1.length ≤ k.tab.length + 1 := by omega
        clear tl1
        have tok1 : True := trivial
        have hj := Lib.hid (show J1 kd = 2 from if_pos q2)
        replace q2 := Lib.hid (show kd = 1 ∨ kd = 2 by omega)
        by_cases hf1 : f1 = 0
        · subst hf1
          have hc2 := fun W (h : TakS w b t T0 u ls k.tick w.heap.size (w.heap.size + 1) gx A n c X (.slice (some ⟨gn, 0, Option.none⟩) mk cn) l T1 { x3 with me := z1 } Option.none 0 0 W) => TakS.callTake h n1 (by have := hT'.out; omega) (by have := hn'.out; omega)
          have tl2 := takeL_len T1 X n1
          obtain ⟨r2, hr2⟩ : ∃ r, r = takeB T1 X n1 := ⟨_, rfl⟩
          obtain ⟨T2, hT2⟩ : ∃ T, T = takeL T1 X n1 := ⟨_, rfl⟩
          simp only [← hr2, ← hT2] at hc2 tl2
          obtain ⟨sx2, n2, f2⟩ := r2
          simp only at hc2
          obtain ⟨z2, hz2⟩ : ∃ z, z = Go.Proofs.Ytodncamohimmmaa.mk sx2 := ⟨_, rfl⟩
          rw [← hz2] at hc2
          replace hc2 := Lib.hid hc2
          replace hr2 := Lib.hid hr2
          replace hT2 := Lib.hid hT2
          replace hz2 := Lib.hid hz2
          have hl2 : T2.length ≤ k.tab.length + 1 + 1 := by omega
          clear tl2
          have tok2 : True := trivial
          by_cases hf2 : f2 = 0
          · subst hf2
            have hs := Lib.hid (show tsteps X ⟨[], q, 0, k.tab⟩ (J1 kd) = ⟨[sx1, sx2], n2, 0, T2⟩ by
              rw [hj.out, tstep0, tstep0]
              rw [show tstep X (tsteps X ⟨[], q, 0, k.tab⟩ 0) = ⟨[sx1], n1, 0, T1⟩ from tstep_ok (s := ⟨[], q, 0, k.tab⟩) rfl hr1.out.symm hT1.out.symm]
              exact tstep_ok (s := ⟨[sx1], n1, 0, T1⟩) rfl hr2.out.symm hT2.out.symm)
            go_wp2_with (first
              | (go_at_call 47; have _t := tok1; refine (hc1.out _ hP.out).mono ?_; rintro e9 w1 ⟨rfl, h9⟩; have hQ1 := Lib.hid h9; have x1 := (TakS.ev hQ1.out).c3; have y1 := hQ1.out.free 3; have hP1 := Lib.hid (hQ1.out.set3 z1); have b1 := hP1.out.book.1; clear h9 tok1)
              | (go_at_call 47; have _t := tok2; refine (hc2.out _ hP1.out).mono ?_; rintro e9 w2 ⟨rfl, h9⟩; have hQ2 := Lib.hid h9; have x2 := (TakS.ev hQ2.out).c4; have y2 := hQ2.out.free 4; have hP2 := Lib.hid (hQ2.out.set4 z2); have b2 := hP2.out.book.1; clear h9 tok2))
            go_meet
            case rel => exact ⟨_, _, hs, rfl, fun _ => rfl, hP2, hxk.out, hxh.out, fun _ h => by
              have h1 := hxd.out h
              rw [h1, hz1.out, hz2.out]
              rcases q2.out with h2 | h2 <;> (subst h2; rfl), by rw [hj.out]; simp only; omega⟩
          · have hs := Lib.hid (show tsteps X ⟨[], q, 0, k.tab⟩ (J1 kd) = ⟨[sx1], 0, f2, T2⟩ by
              rw [hj.out, tstep0, tstep0]
              rw [show tstep X (tsteps X ⟨[], q, 0, k.tab⟩ 0) = ⟨[sx1], n1, 0, T1⟩ from tstep_ok (s := ⟨[], q, 0, k.tab⟩) rfl hr1.out.symm hT1.out.symm]
              exact tstep_e (s := ⟨[sx1], n1, 0, T1⟩) rfl hr2.out.symm hT2.out.symm hf2)
            replace hf2 := Lib.hid hf2
            go_wp2_with (first
              | (go_at_call 47; have _t := tok1; refine (hc1.out _ hP.out).mono ?_; rintro e9 w1 ⟨rfl, h9⟩; have hQ1 := Lib.hid h9; have x1 := (TakS.ev hQ1.out).c3; have y1 := hQ1.out.free 3; have hP1 := Lib.hid (hQ1.out.set3 z1); have b1 := hP1.out.book.1; clear h9 tok1)
              | (go_at_call 47; have _t := tok2; refine (hc2.out _ hP1.out).mono ?_; rintro e9 w2 ⟨rfl, h9⟩; have hQ2 := Lib.hid h9; have x2 := (TakS.ev hQ2.out).c4; have y2 := hQ2.out.free 4; have hP2 := Lib.hid (hQ2.out.set4 z2); have b2 := hP2.out.book.1; clear h9 tok2))
            go_meet
            case rel => exact ⟨_, _, hs, rfl, fun h => absurd h hf2.out, hP2, hxk.out, hxh.out, fun h => absurd h hf2.out, by rw [hj.out]; simp only; omega⟩
        · have hs := Lib.hid (show tsteps X ⟨[], q, 0, k.tab⟩ (J1 kd) = ⟨[], 0, f1, T1⟩ by
            rw [hj.out, tstep0, tstep0]
            rw [show tstep X (tsteps X ⟨[], q, 0, k.tab⟩ 0) = ⟨[], 0, f1, T1⟩ from tstep_e (s := ⟨[], q, 0, k.tab⟩) rfl hr1.out.symm hT1.out.symm hf1]
            exact tstep_bad (s := ⟨[], 0, f1, T1⟩) hf1)
          have f1a : (f1 == 0) = false := by simp only [beq_eq_false_iff_ne, ne_eq]; exact hf1
          have f1b : decide (f1 = 0) = false := decide_eq_false hf1
          replace hf1 := Lib.hid hf1
          go_wp2_with (go_at_call 47; have _t := tok1; refine (hc1.out _ hP.out).mono ?_; rintro e9 w1 ⟨rfl, h9⟩; have hQ1 := Lib.hid h9; have x1 := (TakS.ev hQ1.out).c3; have y1 := hQ1.out.free 3; have hP1 := Lib.hid (hQ1.out.set3 z1); have b1 := hP1.out.book.1; clear h9 tok1)
          go_meet
          case rel => exact ⟨_, _, hs, rfl, fun h => absurd h hf1.out, hP1, hxk.out, hxh.out, fun h => absurd h hf1.out, by rw [hj.out]; simp only; omega⟩
      | false =>
        have q2 := of_decide_eq_false hdd.out.symm
        have hj := Lib.hid (show J1 kd = 0 from if_neg q2)
        replace q2 := Lib.hid q2
        go_wp2
        go_meet
        case rel => exact ⟨⟨[], q, 0, k.tab⟩, x3, Lib.hid (by rw [hj.out]; rfl), rfl, fun _ => rfl, hP, hxk.out, hxh.out, fun _ h => hxd.out h, by rw [hj.out]; simp only; omega⟩
    clear hP hxd hxk hxh hdd
    obtain ⟨s, x4, hst4, rfl, hsq, hP, hxk, hxh, hxd, htl⟩ := hcut
    obtain ⟨sl, sq, se, sT⟩ := s
    simp only at hsq hP hxd htl
    replace hxd := Lib.hid hxd
    replace hxk := Lib.hid hxk
    replace hxh := Lib.hid hxh
    replace hsq := Lib.hid hsq
    replace htl := Lib.hid htl
    have c0 := (TakS.ev hP.out).c0
    rw [hxk.out] at c0
    go_upto_region 44 with fail
    go_cut [227] from 221 to 227 (fun v wr => (∃ d : Bool, v = .bool d ∧ Hid (d = decide (se = 0 ∧ kd = 1))) ∧ Hid (TakS w b t T0 u ls k.tick w.heap.size (w.heap.size + 1) gx A n c X (.slice (some ⟨gn, 0, Option.none⟩) mk cn) l sT x4 Option.none 0 0 wr))
    case first =>
      as_aux_lemma =>
      by_cases hse : se = 0
      · subst hse
        by_cases q2 : kd = 1
        · have k1a : ((kd : Int) == 1) = true := by simp only [beq_iff_eq]; omega
          have k1b : (kd == 1) = true := by simp only [beq_iff_eq]; omega
          have k1c : decide ((kd : Int) = 1) = true := decide_eq_true (by omega)
          have k1d : decide (kd = 1) = true := decide_eq_true (by omega)
          have k1e : ((kd : Int) != 1) = false := by simp only [bne, k1a]; rfl
          have k1f : (kd != 1) = false := by simp only [bne, k1b]; rfl
          replace q2 := Lib.hid q2
          go_wp2
          go_meet
          case rel => exact ⟨⟨_, rfl, Lib.hid (decide_eq_true ⟨(by first | rfl | trivial), q2.out⟩).symm⟩, hP⟩
        · have k1a : ((kd : Int) == 1) = false := by simp only [beq_eq_false_iff_ne, ne_eq]; omega
          have k1b : (kd == 1) = false := by simp only [beq_eq_false_iff_ne, ne_eq]; omega
          have k1c : decide ((kd : Int) = 1) = false := decide_eq_false (by omega)
          have k1d : decide (kd = 1) = false := decide_eq_false (by omega)
          have k1e : ((kd : Int) != 1) = true := by simp only [bne, k1a]; rfl
          have k1f : (kd != 1) = true := by simp only [bne, k1b]; rfl
          replace q2 := Lib.hid q2
          go_wp2
          go_meet
          case rel => exact ⟨⟨_, rfl, Lib.hid (decide_eq_false (fun h => q2.out h.2)).symm⟩, hP⟩
      · have hse2 : (se == 0) = false := beq_eq_false_iff_ne.2 hse
        have hse3 : decide (se = 0) = false := decide_eq_false hse
        replace hse := Lib.hid hse
        go_wp2
        go_meet
        case rel => exact ⟨⟨_, rfl, Lib.hid (decide_eq_false (fun h => hse.out h.1)).symm⟩, hP⟩
    clear hP c0
    obtain ⟨⟨dd, rfl, hdd⟩, hP⟩ := hcut
    go_upto_if 227 with fail
    go_cut [2, 11] from 228 to 239 (fun qv ev wr => ∃ (s : TS) (x : Ev), Hid (tsteps X ⟨[], q, 0, k.tab⟩ (J2 kd) = s) ∧ ev = .int .i64 s.e ∧ (s.e = 0 → qv = .int .i64 s.q) ∧ Hid (TakS w b t T0 u ls k.tick w.heap.size (w.heap.size + 1) gx A n c X (.slice (some ⟨gn, 0, Option.none⟩) mk cn) l s.t x Option.none 0 0 wr) ∧ x.kind = kd ∧ x.hs = [] ∧ (s.e = 0 → e3 = false → x = evOf k.tick kd l s.l []) ∧ s.t.length ≤ k.tab.length + (J2 kd))
    case first =>
      as_aux_lemma =>
      have t1 := hP.out.book.1
      cases dd with
      | true =>
        obtain ⟨hse, q2⟩ := of_decide_eq_true hdd.out.symm
        subst hse
        have hu := hsq.out rfl
        subst hu
        have hj := Lib.hid (show J2 kd = J1 kd + 1 from (by unfold J2 J1; rw [if_pos q2, if_pos (by omega)]))
        have hln := Lib.hid (show sl.length = J1 kd by
          have h1 := tsteps_len (X := X) (s := ⟨[], q, 0, k.tab⟩) (j := J1 kd) (by rw [hst4.out])
          rw [hst4.out] at h1
          simpa using h1)
        replace q2 := Lib.hid q2
        have hJb : sT.length ≤ k.tab.length + J1 kd := htl.out
        have hJ4 : J1 kd ≤ 3 := by unfold J1; (repeat' split) <;> omega
        have hc3 := fun W (h : TakS w b t T0 u ls k.tick w.heap.size (w.heap.size + 1) gx A n c X (.slice (some ⟨gn, 0, Option.none⟩) mk cn) l sT x4 Option.none 0 0 W) => TakS.callTake h sq (by have := hT'.out; omega) (by have := hn'.out; omega)
        have tl3 := takeL_len sT X sq
        obtain ⟨r3, hr3⟩ : ∃ r, r = takeB sT X sq := ⟨_, rfl⟩
        obtain ⟨T3, hT3⟩ : ∃ T, T = takeL sT X sq := ⟨_, rfl⟩
        simp only [← hr3, ← hT3] at hc3 tl3
        obtain ⟨sx3, n3, f3⟩ := r3
        simp only at hc3
        obtain ⟨z3, hz3⟩ : ∃ z, z = Go.Proofs.Ytodncamohimmmaa.mk sx3 := ⟨_, rfl⟩
        rw [← hz3] at hc3
        replace hc3 := Lib.hid hc3
        replace hr3 := Lib.hid hr3
        replace hT3 := Lib.hid hT3
        replace hz3 := Lib.hid hz3
        have hl3 : T3.length ≤ sT.length + 1 := by omega
        clear tl3
        have tok3 : True := trivial
        have hs0 := Lib.hid (show tsteps X ⟨[], q, 0, k.tab⟩ (J2 kd) = tstep X ⟨sl, sq, 0, sT⟩ by rw [hj.out, tstep0, hst4.out])
        replace hJb := Lib.hid hJb
        replace hl3 := Lib.hid hl3
        by_cases hf3 : f3 = 0
        · subst hf3
          have hs := Lib.hid (hs0.out.trans (tstep_ok (s := ⟨sl, sq, 0, sT⟩) rfl hr3.out.symm hT3.out.symm))
          go_wp2_with (go_at_call 47; have _t := tok3; refine (hc3.out _ hP.out).mono ?_; rintro e9 w3 ⟨rfl, h9⟩; have hQ3 := Lib.hid h9; have x3 := (TakS.ev hQ3.out).c10; have y3 := hQ3.out.free 10; have hP3 := Lib.hid (hQ3.out.set10 z3); have b3 := hP3.out.book.1; clear h9 tok3)
          go_meet
          case rel => exact ⟨_, _, hs, rfl, fun _ => rfl, hP3, hxk.out, hxh.out, fun _ h => by
            have h1 := hxd.out (by first | rfl | trivial) h
            rw [h1, hz3.out]
            exact ev_no q2.out (hln.out.trans (by unfold J1; rw [if_pos (by have := q2.out; omega)])), by rw [hj.out]; have := hl3.out; have := hJb.out; simp only; omega⟩
        · have hs := Lib.hid (hs0.out.trans (tstep_e (s := ⟨sl, sq, 0, sT⟩) rfl hr3.out.symm hT3.out.symm hf3))
          replace hf3 := Lib.hid hf3
          go_wp2_with (go_at_call 47; have _t := tok3; refine (hc3.out _ hP.out).mono ?_; rintro e9 w3 ⟨rfl, h9⟩; have hQ3 := Lib.hid h9; have x3 := (TakS.ev hQ3.out).c10; have y3 := hQ3.out.free 10; have hP3 := Lib.hid (hQ3.out.set10 z3); have b3 := hP3.out.book.1; clear h9 tok3)
          go_meet
          case rel => exact ⟨_, _, hs, rfl, fun h => absurd h hf3.out, hP3, hxk.out, hxh.out, fun h => absurd h hf3.out, by rw [hj.out]; have := hl3.out; have := hJb.out; simp only; omega⟩
      | false =>
        have q2 := of_decide_eq_false hdd.out.symm
        have hs := Lib.hid (show tsteps X ⟨[], q, 0, k.tab⟩ (J2 kd) = ⟨sl, sq, se, sT⟩ ∧ J1 kd ≤ J2 kd by
          by_cases hk9 : kd = 1
          · have hj : J2 kd = J1 kd + 1 := (by unfold J2 J1; rw [if_pos hk9, if_pos (by omega)])
            have hse : se ≠ 0 := fun h => q2 ⟨h, hk9⟩
            rw [hj, tstep0, hst4.out]
            exact ⟨tstep_bad (s := ⟨sl, sq, se, sT⟩) hse, by omega⟩
          · have hj : J2 kd = J1 kd := by unfold J2 J1; (repeat' split) <;> omega
            rw [hj]
            exact ⟨hst4.out, Nat.le_refl _⟩)
        clear q2
        go_wp2
        go_meet
        case rel => exact ⟨⟨sl, sq, se, sT⟩, x4, Lib.hid hs.out.1, rfl, hsq.out, hP, hxk.out, hxh.out, fun h => hxd.out h, Nat.le_trans htl.out (Nat.add_le_add_left hs.out.2 _)⟩
    clear hP hxd hxk hxh hdd hst4 hsq htl
    obtain ⟨s, x5, hst4, rfl, hsq, hP, hxk, hxh, hxd, htl⟩ := hcut
    clear sl sq sT
    obtain ⟨sl, sq, se, sT⟩ := s
    simp only at hsq hP hxd htl
    replace hxd := Lib.hid hxd
    replace hxk := Lib.hid hxk
    replace hxh := Lib.hid hxh
    replace hsq := Lib.hid hsq
    replace htl := Lib.hid htl
    have c0 := (TakS.ev hP.out).c0
    rw [hxk.out] at c0
    go_upto_region 46 with fail
    go_cut [246] from 240 to 246 (fun v wr => (∃ d : Bool, v = .bool d ∧ Hid (d = decide (se = 0 ∧ kd ≤ 3))) ∧ Hid (TakS w b t T0 u ls k.tick w.heap.size (w.heap.size + 1) gx A n c X (.slice (some ⟨gn, 0, Option.none⟩) mk cn) l sT x5 Option.none 0 0 wr))
    case first =>
      as_aux_lemma =>
      by_cases hse : se = 0
      · subst hse
        by_cases q2 : kd ≤ 3
        · have d3a : decide ((kd : Int) ≤ 3) = true := decide_eq_true (by omega)
          have d3b : decide (kd ≤ 3) = true := decide_eq_true (by omega)
          replace q2 := Lib.hid q2
          go_wp2
          go_meet
          case rel => exact ⟨⟨_, rfl, Lib.hid (decide_eq_true ⟨(by first | rfl | trivial), q2.out⟩).symm⟩, hP⟩
        · have d3a : decide ((kd : Int) ≤ 3) = false := decide_eq_false (by omega)
          have d3b : decide (kd ≤ 3) = false := decide_eq_false (by omega)
          replace q2 := Lib.hid q2
          go_wp2
          go_meet
          case rel => exact ⟨⟨_, rfl, Lib.hid (decide_eq_false (fun h => q2.out h.2)).symm⟩, hP⟩
      · have hse2 : (se == 0) = false := beq_eq_false_iff_ne.2 hse
        have hse3 : decide (se = 0) = false := decide_eq_false hse
        replace hse := Lib.hid hse
        go_wp2
        go_meet
        case rel => exact ⟨⟨_, rfl, Lib.hid (decide_eq_false (fun h => hse.out h.1)).symm⟩, hP⟩
    clear hP c0
    obtain ⟨⟨dd, rfl, hdd⟩, hP⟩ := hcut
    go_upto_if 246 with fail
    go_cut [2, 11] from 247 to 258 (fun qv ev wr => ∃ (s : TS) (x : Ev), Hid (tsteps X ⟨[], q, 0, k.tab⟩ (manyT kd) = s) ∧ ev = .int .i64 s.e ∧ (s.e = 0 → qv = .int .i64 s.q) ∧ Hid (TakS w b t T0 u ls k.tick w.heap.size (w.heap.size + 1) gx A n c X (.slice (some ⟨gn, 0, Option.none⟩) mk cn) l s.t x Option.none 0 0 wr) ∧ x.kind = kd ∧ x.hs = [] ∧ (s.e = 0 → e3 = false → x = evOf k.tick kd l s.l []) ∧ s.t.length ≤ k.tab.length + (manyT kd))
    case first =>
      as_aux_lemma =>
      have t1 := hP.out.book.1
      cases dd with
      | true =>
        obtain ⟨hse, q2⟩ := of_decide_eq_true hdd.out.symm
        subst hse
        have hu := hsq.out rfl
        subst hu
        have hj := Lib.hid (show manyT kd = J2 kd + 1 from (by unfold manyT J2; (repeat' split) <;> omega))
        have hln := Lib.hid (show sl.length = J2 kd by
          have h1 := tsteps_len (X := X) (s := ⟨[], q, 0, k.tab⟩) (j := J2 kd) (by rw [hst4.out])
          rw [hst4.out] at h1
          simpa using h1)
        replace q2 := Lib.hid q2
        have hJb : sT.length ≤ k.tab.length + J2 kd := htl.out
        have hJ4 : J2 kd ≤ 3 := by unfold J2; (repeat' split) <;> omega
        have hc4 := fun W (h : TakS w b t T0 u ls k.tick w.heap.size (w.heap.size + 1) gx A n c X (.slice (some ⟨gn, 0, Option.none⟩) mk cn) l sT x5 Option.none 0 0 W) => TakS.callTake h sq (by have := hT'.out; omega) (by have := hn'.out; omega)
        have tl4 := takeL_len sT X sq
        obtain ⟨r4, hr4⟩ : ∃ r, r = takeB sT X sq := ⟨_, rfl⟩
        obtain ⟨T4, hT4⟩ : ∃ T, T = takeL sT X sq := ⟨_, rfl⟩
        simp only [← hr4, ← hT4] at hc4 tl4
        obtain ⟨sx4, n4, f4⟩ := r4
        simp only at hc4
        obtain ⟨z4, hz4⟩ : ∃ z, z = Go.Proofs.Ytodncamohimmmaa.mk sx4 := ⟨_, rfl⟩
        rw [← hz4] at hc4
        replace hc4 := Lib.hid hc4
        replace hr4 := Lib.hid hr4
        replace hT4 := Lib.hid hT4
        replace hz4 := Lib.hid hz4
        have hl4 : T4.length ≤ sT.length + 1 := by omega
        clear tl4
        have tok4 : True := trivial
        have hs0 := Lib.hid (show tsteps X ⟨[], q, 0, k.tab⟩ (manyT kd) = tstep X ⟨sl, sq, 0, sT⟩ by rw [hj.out, tstep0, hst4.out])
        replace hJb := Lib.hid hJb
        replace hl4 := Lib.hid hl4
        by_cases hf4 : f4 = 0
        · subst hf4
          have hs := Lib.hid (hs0.out.trans (tstep_ok (s := ⟨sl, sq, 0, sT⟩) rfl hr4.out.symm hT4.out.symm))
          go_wp2_with (go_at_call 47; have _t := tok4; refine (hc4.out _ hP.out).mono ?_; rintro e9 w4 ⟨rfl, h9⟩; have hQ4 := Lib.hid h9; have x4 := (TakS.ev hQ4.out).c6; have y4 := hQ4.out.free 6; have hP4 := Lib.hid (hQ4.out.set6 z4); have b4 := hP4.out.book.1; clear h9 tok4)
          go_meet
          case rel => exact ⟨_, _, hs, rfl, fun _ => rfl, hP4, hxk.out, hxh.out, fun _ h => by
            have h1 := hxd.out (by first | rfl | trivial) h
            rw [h1, hz4.out]
            exact ev_body (by have := q2.out; omega) hln.out, by rw [hj.out]; have := hl4.out; have := hJb.out; simp only; omega⟩
        · have hs := Lib.hid (hs0.out.trans (tstep_e (s := ⟨sl, sq, 0, sT⟩) rfl hr4.out.symm hT4.out.symm hf4))
          replace hf4 := Lib.hid hf4
          go_wp2_with (go_at_call 47; have _t := tok4; refine (hc4.out _ hP.out).mono ?_; rintro e9 w4 ⟨rfl, h9⟩; have hQ4 := Lib.hid h9; have x4 := (TakS.ev hQ4.out).c6; have y4 := hQ4.out.free 6; have hP4 := Lib.hid (hQ4.out.set6 z4); have b4 := hP4.out.book.1; clear h9 tok4)
          go_meet
          case rel => exact ⟨_, _, hs, rfl, fun h => absurd h hf4.out, hP4, hxk.out, hxh.out, fun h => absurd h hf4.out, by rw [hj.out]; have := hl4.out; have := hJb.out; simp only; omega⟩
      | false =>
        have q2 := of_decide_eq_false hdd.out.symm
        have hs := Lib.hid (show tsteps X ⟨[], q, 0, k.tab⟩ (manyT kd) = ⟨sl, sq, se, sT⟩ ∧ J2 kd ≤ manyT kd by
          by_cases hk9 : kd ≤ 3
          · have hj : manyT kd = J2 kd + 1 := (by unfold manyT J2; (repeat' split) <;> omega)
            have hse : se ≠ 0 := fun h => q2 ⟨h, hk9⟩
            rw [hj, tstep0, hst4.out]
            exact ⟨tstep_bad (s := ⟨sl, sq, se, sT⟩) hse, by omega⟩
          · have hj : manyT kd = J2 kd := by unfold manyT J2; (repeat' split) <;> omega
            rw [hj]
            exact ⟨hst4.out, Nat.le_refl _⟩)
        clear q2
        go_wp2
        go_meet
        case rel => exact ⟨⟨sl, sq, se, sT⟩, x5, Lib.hid hs.out.1, rfl, hsq.out, hP, hxk.out, hxh.out, fun h => hxd.out h, Nat.le_trans htl.out (Nat.add_le_add_left hs.out.2 _)⟩
    clear hP hxd hxk hxh hdd hst4 hsq htl
    obtain ⟨s, x6, hst4, rfl, hsq, hP, hxk, hxh, hxd, htl⟩ := hcut
    clear sl sq sT
    obtain ⟨sl, sq, se, sT⟩ := s
    simp only at hsq hP hxd htl
    replace hxd := Lib.hid hxd
    replace hxk := Lib.hid hxk
    replace hxh := Lib.hid hxh
    replace hsq := Lib.hid hsq
    replace htl := Lib.hid htl
    have c0 := (TakS.ev hP.out).c0
    rw [hxk.out] at c0
    go_upto_region 48 with fail
    go_cut [265] from 259 to 265 (fun v wr => (∃ d : Bool, v = .bool d ∧ Hid (d = decide (se = 0 ∧ kd ≤ 3))) ∧ Hid (TakS w b t T0 u ls k.tick w.heap.size (w.heap.size + 1) gx A n c X (.slice (some ⟨gn, 0, Option.none⟩) mk cn) l sT x6 Option.none 0 0 wr))
    case first =>
      as_aux_lemma =>
      by_cases hse : se = 0
      · subst hse
        by_cases q2 : kd ≤ 3
        · have d3a : decide ((kd : Int) ≤ 3) = true := decide_eq_true (by omega)
          have d3b : decide (kd ≤ 3) = true := decide_eq_true (by omega)
          replace q2 := Lib.hid q2
          go_wp2
          go_meet
          case rel => exact ⟨⟨_, rfl, Lib.hid (decide_eq_true ⟨(by first | rfl | trivial), q2.out⟩).symm⟩, hP⟩
        · have d3a : decide ((kd : Int) ≤ 3) = false := decide_eq_false (by omega)
          have d3b : decide (kd ≤ 3) = false := decide_eq_false (by omega)
          replace q2 := Lib.hid q2
          go_wp2
          go_meet
          case rel => exact ⟨⟨_, rfl, Lib.hid (decide_eq_false (fun h => q2.out h.2)).symm⟩, hP⟩
      · have hse2 : (se == 0) = false := beq_eq_false_iff_ne.2 hse
        have hse3 : decide (se = 0) = false := decide_eq_false hse
        replace hse := Lib.hid hse
        go_wp2
        go_meet
        case rel => exact ⟨⟨_, rfl, Lib.hid (decide_eq_false (fun h => hse.out h.1)).symm⟩, hP⟩
    clear hP c0
    obtain ⟨⟨dd, rfl, hdd⟩, hP⟩ := hcut
    have hns0 := Lib.hid (fun W T x (h : TakS w b t T0 u ls k.tick w.heap.size (w.heap.size + 1) gx A n c X (.slice (some ⟨gn, 0, Option.none⟩) mk cn) l T x Option.none 0 0 W) p (hp : p < mk) => OwnsN.cell h.ns (num9_at (l := l) (p := p) (by rw [hll9.out]; exact hp)))
    go_upto_if 265 with fail
    go_cut [2, 11, 18] from 266 to 292 (fun qv ev _ wr => ∃ (hs : List Hd) (e9 q9 : Int) (T9 : List (List UInt8)) (x : Ev) (Ax : Option Addr) (m cx : Nat), ev = .int .i64 e9 ∧ (e9 = 0 → qv = .int .i64 q9) ∧ Hid (TakS w b t T0 u ls k.tick w.heap.size (w.heap.size + 1) gx A n c X (.slice (some ⟨gn, 0, Option.none⟩) mk cn) l T9 x Ax m cx wr) ∧ x.kind = kd ∧ (e9 = 0 → e3 = false → x = evOf k.tick kd l sl hs) ∧ Hid ((e9 ≠ 0 → ttakeE k X kd l (tsteps X ⟨[], q, 0, k.tab⟩ (manyT kd)) = errE k e9) ∧ (e9 = 0 → ttakeE k X kd l (tsteps X ⟨[], q, 0, k.tab⟩ (manyT kd)) = finE k kd l sl hs q9 T9)) ∧ (∀ g off, Ax = some ⟨g, off, Option.none⟩ → 0 < m → w.heap.size ≤ g) ∧ (e9 = 0 → x.hs = hs))
    case first =>
      as_aux_lemma =>
      have t1 := hP.out.book.1
      cases dd with
      | true =>
        obtain ⟨hse, q2⟩ := of_decide_eq_true hdd.out.symm
        subst hse
        have hu := hsq.out (by first | rfl | trivial)
        subst hu
        have q3 := Lib.hid (show kd = 1 ∨ kd = 2 ∨ kd = 3 by omega)
        clear q2
        have hsl := Lib.hid (show sT.length ≤ 300000 by have h1 := htl.out; have h2 := hT'.out; have h3 : manyT kd ≤ 4 := (by unfold manyT; (repeat' split) <;> omega); omega)
        obtain ⟨D, hD⟩ : ∃ D, D = dtake sT X sq (k.look (num9 l 0) (decide (kd = 3))) := ⟨_, rfl⟩
        have hD' := Lib.hid hD
        have e0 := fun W (h : TakS w b t T0 u ls k.tick w.heap.size (w.heap.size + 1) gx A n c X (.slice (some ⟨gn, 0, Option.none⟩) mk cn) l sT x6 Option.none 0 0 W) => hns0.out W sT x6 h 0 (by omega)
        have c0 := (TakS.ev hP.out).c0
        rw [hxk.out] at c0
        have hm0 : 0 < mk := by omega
        have hB0 := Lib.hid (below_box wc (.cells #[] 59))
        have hP1 := Lib.hid (hP.out.later hB0.out)
        have e0 := e0 _ hP1.out
        have c1 := cell_later hB0.out c0
        have t2 := cell_later hB0.out t1
        obtain ⟨a0, ha0⟩ : ∃ a, a = num9 l 0 := ⟨_, rfl⟩
        rw [← ha0] at e0 hD
        have ha0' := Lib.hid ha0
        clear ha0
        by_cases b0 : a0 ≤ 1048576
        · have d0 : decide ((a0 : Int) ≤ 1048576) = true := decide_eq_true (by omega)
          have d1 : decide (a0 ≤ 1048576) = true := decide_eq_true b0
          have w0 : IntKind.i64.wrap (a0 : Int) = (a0 : Int) := IntWalk.i64_in _ ⟨by omega, by omega⟩
          replace b0 := Lib.hid b0
          replace hD := Lib.hid (show D = dtake sT X sq (findL ls (a0 : Int) (decide (kd = 3))) by rw [hD, hlook'.out])
          have hnw := Lib.hid (show (findL ls (a0 : Int) (decide (kd = 3))).length ≤ 1000 by rw [hlook'.out]; have := hk'.out.few (a0 : Int) (decide (kd = 3)); omega)
          have k9 : ((kd : Int) == 3) = decide (kd = 3) := by
            by_cases h : kd = 3
            · rw [decide_eq_true h, beq_iff_eq]; omega
            · rw [decide_eq_false h, beq_eq_false_iff_ne]; omega
          have k8 : decide ((kd : Int) = 3) = decide (kd = 3) := by
            by_cases h : kd = 3
            · rw [decide_eq_true h, decide_eq_true_eq]; omega
            · rw [decide_eq_false h, decide_eq_false_iff_not]; omega
          go_upto_region 51 with fail
          obtain ⟨V0, hV0⟩ : ∃ V, V = wc.alloc (.cells #[] 59) := ⟨_, rfl⟩
          rw [← hV0] at e0 c1 t2 hP1 ⊢
          clear hB0 hV0 t1 c0
          go_still_tail 8, (by kernel_rfl)
          obtain ⟨V, hV⟩ : ∃ V, V = V0.drew := ⟨_, rfl⟩
          change wpList _ _ _ _ _ V0.drew
          rw [← hV]
          have hPV := Lib.hid (hP1.out.later (show Below _ _ V by rw [hV]; exact (Below.refl _ _).drew))
          clear hV
          have hcl := Lib.hid (TakS.callList hPV.out (a0 : Int) (decide (kd = 3)) hls'.out)
          go_wp2_with (go_at_call 40; refine hcl.out.mono ?_; rintro e V' ⟨⟨Aw, nw, cw, rfl, hL⟩, rfl⟩; replace hL := Lib.hid hL; have t3 := hPV.out.book.1)
          replace hnw := Lib.hid (show nw ≤ 1000 by
            obtain ⟨_, _, _, _, _, _, _, _, hh⟩ := hL.out.exw
            have h1 := hh.rd.len
            have h2 := hnw.out
            omega)
          have hcd := Lib.hid (TakL.callDelta hL.out sq hsl.out (by have := hn'.out; omega) hnw.out)
          rw [← hD.out] at hcd
          go_wp2_with (go_at_call 48; refine hcd.out.mono ?_; rintro e8 w8 ⟨Av, mv, cv, rfl, hL8, hge⟩; have hL9 := Lib.hid hL8; replace hge := Lib.hid hge; have z5 := (TakS.ev hL8.st).c5; have y5 := hL8.st.free 5; clear hL8)
          go_meet
          case rel =>
            obtain ⟨⟨hs9, q9, e9⟩, T9⟩ := D
            have hlt : ∀ g off, Av = some ⟨g, off, Option.none⟩ → 0 < mv → w.heap.size ≤ g ∧ g ≠ gx ∧ g ≠ w.heap.size ∧ g ≠ w.heap.size + 1 := fun g off h h0 => by
              have h1 := hge.out g off h h0
              have h2 := (Array.getElem?_eq_some_iff.1 hL.out.st.bx).1
              have h3 := (Array.getElem?_eq_some_iff.1 hL.out.st.br).1
              have h4 := (Array.getElem?_eq_some_iff.1 hL.out.st.b9).1
              omega
            refine ⟨hs9, e9, q9, T9, { x6 with hs := hs9 }, Av, mv, cv, rfl, fun _ => rfl, Lib.hid (TakL.stored hL9.out (x' := { x6 with hs := hs9 }) (heap_setCell_same _ gx 5 _ _ _ hL9.out.st.bx) rfl (fun g off h h0 => ⟨(hlt g off h h0).2.1, (hlt g off h h0).2.2.1, (hlt g off h h0).2.2.2⟩)), hxk.out, fun _ h => ?_, ?_, fun g off h h0 => (hlt g off h h0).1, fun _ => rfl⟩
            · have h1 := hxd.out (by first | rfl | trivial) h
              rw [h1]
              rcases q3.out with h2 | h2 | h2 <;> (subst h2; rfl)
            · have h1 : ttakeE k X kd l (tsteps X ⟨[], q, 0, k.tab⟩ (manyT kd)) = htakeE k kd l sl ((hs9, q9, e9), T9) := by
                rw [hst4.out, hD'.out]
                unfold ttakeE
                rw [if_neg (fun h => h rfl), if_pos (by have := q3.out; omega)]
              rw [h1]
              exact Lib.hid ⟨fun h => if_pos h, fun h => by subst h; rfl⟩
        · have d0 : decide ((a0 : Int) ≤ 1048576) = false := decide_eq_false (by omega)
          have d1 : decide (a0 ≤ 1048576) = false := decide_eq_false b0
          replace hD := Lib.hid (show D = dtake sT X sq [] by rw [hD, hk'.out.out _ _ (.inr (by omega))])
          have hL := Lib.hid (TakS.listNone hP1.out (hds_empty _ (some ⟨wc.heap.size, 0, Option.none⟩) 0 (Nat.zero_le _) (fun h => by cases h)))
          have hnw := Lib.hid (show (0 : Nat) ≤ 1000 by omega)
          replace b0 := Lib.hid b0
          have hcd := Lib.hid (TakL.callDelta hL.out sq hsl.out (by have := hn'.out; omega) hnw.out)
          rw [← hD.out] at hcd
          go_wp2_with (go_at_call 48; refine hcd.out.mono ?_; rintro e8 w8 ⟨Av, mv, cv, rfl, hL8, hge⟩; have hL9 := Lib.hid hL8; replace hge := Lib.hid hge; have z5 := (TakS.ev hL8.st).c5; have y5 := hL8.st.free 5; clear hL8)
          go_meet
          case rel =>
            obtain ⟨⟨hs9, q9, e9⟩, T9⟩ := D
            have hlt : ∀ g off, Av = some ⟨g, off, Option.none⟩ → 0 < mv → w.heap.size ≤ g ∧ g ≠ gx ∧ g ≠ w.heap.size ∧ g ≠ w.heap.size + 1 := fun g off h h0 => by
              have h1 := hge.out g off h h0
              have h2 := (Array.getElem?_eq_some_iff.1 hL.out.st.bx).1
              have h3 := (Array.getElem?_eq_some_iff.1 hL.out.st.br).1
              have h4 := (Array.getElem?_eq_some_iff.1 hL.out.st.b9).1
              omega
            refine ⟨hs9, e9, q9, T9, { x6 with hs := hs9 }, Av, mv, cv, rfl, fun _ => rfl, Lib.hid (TakL.stored hL9.out (x' := { x6 with hs := hs9 }) (heap_setCell_same _ gx 5 _ _ _ hL9.out.st.bx) rfl (fun g off h h0 => ⟨(hlt g off h h0).2.1, (hlt g off h h0).2.2.1, (hlt g off h h0).2.2.2⟩)), hxk.out, fun _ h => ?_, ?_, fun g off h h0 => (hlt g off h h0).1, fun _ => rfl⟩
            · have h1 := hxd.out (by first | rfl | trivial) h
              rw [h1]
              rcases q3.out with h2 | h2 | h2 <;> (subst h2; rfl)
            · have h1 : ttakeE k X kd l (tsteps X ⟨[], q, 0, k.tab⟩ (manyT kd)) = htakeE k kd l sl ((hs9, q9, e9), T9) := by
                rw [hst4.out, hD'.out]
                unfold ttakeE
                rw [if_neg (fun h => h rfl), if_pos (by have := q3.out; omega)]
              rw [h1]
              exact Lib.hid ⟨fun h => if_pos h, fun h => by subst h; rfl⟩
      | false =>
        have q2 := of_decide_eq_false hdd.out.symm
        have hs := Lib.hid (show (se ≠ 0 → ttakeE k X kd l (tsteps X ⟨[], q, 0, k.tab⟩ (manyT kd)) = errE k se) ∧ (se = 0 → ttakeE k X kd l (tsteps X ⟨[], q, 0, k.tab⟩ (manyT kd)) = finE k kd l sl [] sq sT) by
          rw [hst4.out]
          unfold ttakeE
          refine ⟨fun h => if_pos h, fun h => ?_⟩
          rw [if_neg (fun h' => h' h), if_neg (fun h' => q2 ⟨h, h'⟩)])
        clear q2
        go_wp2
        go_meet
        case rel => exact ⟨[], se, sq, sT, x6, Option.none, 0, 0, rfl, hsq.out, hP, hxk.out, hxd.out, hs, (fun g off h => by cases h), fun _ => hxh.out⟩
    clear hP hxd hxk hxh hdd hsq htl
    obtain ⟨hs, e9, q9, T9, x7, Ax, m, cx, rfl, hq9, hP, hxk, hxd, hfin, hnewA, hxhs⟩ := hcut
    replace hxk := Lib.hid hxk
    have hE := Lib.hid (show ntakeE k X kd (nsteps X (decide (kd = 2)) ⟨[], q1, 0⟩ (manyN kd)) = ttakeE k X kd l (tsteps X ⟨[], q, 0, k.tab⟩ (manyT kd)) by rw [hst.out]; exact if_neg (fun h => h rfl))
    have hal := Lib.hid (show Alt w wc (inB b T0 u) by obtain ⟨_, hB, _⟩ := hP.out.ex; exact hB.alt)
    have hix := Lib.hid (show (Try.prog.info? 25).map (·.size) = some (#[.int .i64 x7.kind, .int .i64 x7.ses, .int .i64 x7.tick, .string x7.me, .string x7.url, .slice Ax m cx, .string x7.body, .int .i64 x7.status, .int .i64 x7.code, .bool x7.cred, .string x7.no, .int .u64 (x7.n : Int)] : Array Value).size from infoEv21)
    have honx := Lib.hid (show (#[.int .i64 x7.kind, .int .i64 x7.ses, .int .i64 x7.tick, .string x7.me, .string x7.url, .slice Ax m cx, .string x7.body, .int .i64 x7.status, .int .i64 x7.code, .bool x7.cred, .string x7.no, .int .u64 (x7.n : Int)] : Array Value).all (·.oneCell') = true by simp [Value.oneCell'])
    by_cases he : e9 = 0
    · subst he
      have hu := hq9 rfl
      subst hu
      have hfin0 := Lib.hid (hfin.out.2 rfl)
      cases e3 with
      | true =>
        have hbad : finE k kd l sl hs q9 T9 = errE k 4 := if_neg (fun h => good_small hk'.out.low ⟨hk1, hk7⟩ hll'.out h (he3.out.1 rfl))
        have hbad' := Lib.hid hbad
        have r6 := Lib.hid (show wc.heap[w.heap.size]? = some (.cells #[.int .i64 0, .int .i64 0, .int .i64 0, .string ⟨#[]⟩, .string ⟨#[]⟩, .slice Option.none 0 0, .string ⟨#[]⟩, .int .i64 0, .int .i64 0, .bool false, .string ⟨#[]⟩, .int .u64 0] 25 (0, 0)) from hP.out.br)
        have r9 := Lib.hid (show wc.heap[w.heap.size + 1]? = some (.cells #[.int .i64 0, .int .i64 0, .int .i64 0, .string ⟨#[]⟩, .string ⟨#[]⟩, .slice Option.none 0 0, .string ⟨#[]⟩, .int .i64 0, .int .i64 0, .bool false, .string ⟨#[]⟩, .int .u64 0] 25 (0, 0)) from hP.out.b9)
        clear hfin hxd hbad
        go_wp2_with (first
          | (refine wpList_load_row rfl _ _ rfl (w.heap.size + 1) rfl 25 #[.int .i64 0, .int .i64 0, .int .i64 0, .string ⟨#[]⟩, .string ⟨#[]⟩, .slice Option.none 0 0, .string ⟨#[]⟩, .int .i64 0, .int .i64 0, .bool false, .string ⟨#[]⟩, .int .u64 0] (0, 0) (.struct fs) r9.out hd1.out rfl hi1.out ?_)
          | (with_reducible refine wpList_store_row rfl _ _ _ rfl w.heap.size #[.int .i64 0, .int .i64 0, .int .i64 0, .string ⟨#[]⟩, .string ⟨#[]⟩, .slice Option.none 0 0, .string ⟨#[]⟩, .int .i64 0, .int .i64 0, .bool false, .string ⟨#[]⟩, .int .u64 0] rfl rfl 25 #[.int .i64 0, .int .i64 0, .int .i64 0, .string ⟨#[]⟩, .string ⟨#[]⟩, .slice Option.none 0 0, .string ⟨#[]⟩, .int .i64 0, .int .i64 0, .bool false, .string ⟨#[]⟩, .int .u64 0] r6.out hi1.out (Eq.refl _) hone.out ?_))
        exact bodyPost_ret (take_result (g := w.heap.size) (cs := #[.int .i64 0, .int .i64 0, .int .i64 0, .string ⟨#[]⟩, .string ⟨#[]⟩, .slice Option.none 0 0, .string ⟨#[]⟩, .int .i64 0, .int .i64 0, .bool false, .string ⟨#[]⟩, .int .u64 0]) rfl rfl rfl (setRow_heap _ _ _ _ _ _ r6.out) rfl) rfl (by rw [hE.out, hfin0.out, hbad'.out]; exact takEE_err (by decide) (alt_setRow hal.out (Nat.le_refl _) _))
      | false =>
        have hx9 := hxd rfl rfl
        have hsm : ¬ badN kd l := fun h => absurd (he3.out.2 h) (by simp)
        have hcode : x7.code ≤ 9223372036854775807 := by
          have h0 : num9 l 2 ≤ 1048576 ∨ (kd ≠ 1 ∧ kd ≠ 2 ∧ kd ≠ 7) := by
            by_cases hk : kd = 1 ∨ kd = 7
            · refine .inl (Nat.le_of_not_lt fun h9 => hsm (.inr (.inr (.inl ⟨by omega, by omega, by omega, 2, by omega, by rw [hll'.out]; rcases hk with h | h <;> subst h <;> decide, h9⟩))))
            · by_cases hk2 : kd = 2
              · exact .inl (Nat.le_of_not_lt fun h9 => hsm (.inr (.inr (.inr ⟨hk2, by omega⟩))))
              · exact .inr (by omega)
          rw [hx9]
          obtain kk | kk | kk | kk | kk | kk | kk : kd = 1 ∨ kd = 2 ∨ kd = 3 ∨ kd = 4 ∨ kd = 5 ∨ kd = 6 ∨ kd = 7 := by omega
          all_goals (subst kk; simp [evOf]; try omega)
        have hgood := TakS.callGood hP.out hcode
        unfold evv at hgood
        unfold ecell12 at hgood
        have rx := Lib.hid (show wc.heap[gx]? = some (.cells #[.int .i64 x7.kind, .int .i64 x7.ses, .int .i64 x7.tick, .string x7.me, .string x7.url, .slice Ax m cx, .string x7.body, .int .i64 x7.status, .int .i64 x7.code, .bool x7.cred, .string x7.no, .int .u64 (x7.n : Int)] 25 (0, 0)) from hP.out.bx)
        have hxe := Lib.hid hx9
        clear hfin hxd hsm hcode hx9
        by_cases hg : GoodE x7
        · rw [decide_eq_true hg] at hgood
          replace hgood := Lib.hid hgood
          have hok := Lib.hid (show finE k kd l sl hs q9 T9 = ((x7, q9, 0), ⟨T9, x7.tick, lookE k.look x7⟩) by unfold finE; rw [← hxe.out, if_pos hg])
          replace hg := Lib.hid hg
          go_wp2_with (first
            | (go_at_call 12; refine hgood.out.mono ?_; rintro e8 w8 ⟨rfl, hb8⟩; have hP8 := Lib.hid (hP.out.later hb8); have hal8 := Lib.hid (hal.out.behind hb8); clear hb8; have r6 := Lib.hid (show w8.heap[w.heap.size]? = some (.cells #[.int .i64 0, .int .i64 0, .int .i64 0, .string ⟨#[]⟩, .string ⟨#[]⟩, .slice Option.none 0 0, .string ⟨#[]⟩, .int .i64 0, .int .i64 0, .bool false, .string ⟨#[]⟩, .int .u64 0] 25 (0, 0)) from hP8.out.br); have r9 := Lib.hid (show w8.heap[w.heap.size + 1]? = some (.cells #[.int .i64 0, .int .i64 0, .int .i64 0, .string ⟨#[]⟩, .string ⟨#[]⟩, .slice Option.none 0 0, .string ⟨#[]⟩, .int .i64 0, .int .i64 0, .bool false, .string ⟨#[]⟩, .int .u64 0] 25 (0, 0)) from hP8.out.b9); have rx8 := Lib.hid (show w8.heap[gx]? = some (.cells #[.int .i64 x7.kind, .int .i64 x7.ses, .int .i64 x7.tick, .string x7.me, .string x7.url, .slice Ax m cx, .string x7.body, .int .i64 x7.status, .int .i64 x7.code, .bool x7.cred, .string x7.no, .int .u64 (x7.n : Int)] 25 (0, 0)) from hP8.out.bx); have htold := TakS.callTold hP8.out hls'.out; unfold evv at htold; unfold ecell12 at htold; replace htold := Lib.hid htold)
            | (go_at_call 41; refine htold.out.mono ?_; rintro e9 w9 ⟨rfl, T1, u9, ls9, hB9, hf9, hl9, hm9, hd9, hr9, hx9, hn9⟩; have hB9 := Lib.hid hB9; have hf9 := Lib.hid hf9; have hl9 := Lib.hid hl9; have hm9 := Lib.hid hm9; have hd9 := Lib.hid hd9; have hn9 := Lib.hid hn9; have q6 := Lib.hid (show w9.heap[w.heap.size]? = some (.cells #[.int .i64 0, .int .i64 0, .int .i64 0, .string ⟨#[]⟩, .string ⟨#[]⟩, .slice Option.none 0 0, .string ⟨#[]⟩, .int .i64 0, .int .i64 0, .bool false, .string ⟨#[]⟩, .int .u64 0] 25 (0, 0)) from hr9); have qx := Lib.hid (show w9.heap[gx]? = some (.cells #[.int .i64 x7.kind, .int .i64 x7.ses, .int .i64 x7.tick, .string x7.me, .string x7.url, .slice Ax m cx, .string x7.body, .int .i64 x7.status, .int .i64 x7.code, .bool x7.cred, .string x7.no, .int .u64 (x7.n : Int)] 25 (0, 0)) from hx9); clear hr9 hx9)
            | (with_reducible refine wpList_load_row rfl _ _ rfl gx rfl 25 #[.int .i64 x7.kind, .int .i64 x7.ses, .int .i64 x7.tick, .string x7.me, .string x7.url, .slice Ax m cx, .string x7.body, .int .i64 x7.status, .int .i64 x7.code, .bool x7.cred, .string x7.no, .int .u64 (x7.n : Int)] (0, 0) (.struct fs) rx.out hd1.out rfl hix.out ?_)
            | (with_reducible refine wpList_load_row rfl _ _ rfl gx rfl 25 #[.int .i64 x7.kind, .int .i64 x7.ses, .int .i64 x7.tick, .string x7.me, .string x7.url, .slice Ax m cx, .string x7.body, .int .i64 x7.status, .int .i64 x7.code, .bool x7.cred, .string x7.no, .int .u64 (x7.n : Int)] (0, 0) (.struct fs) rx8.out hd1.out rfl hix.out ?_)
            | (with_reducible refine wpList_load_row rfl _ _ rfl gx rfl 25 #[.int .i64 x7.kind, .int .i64 x7.ses, .int .i64 x7.tick, .string x7.me, .string x7.url, .slice Ax m cx, .string x7.body, .int .i64 x7.status, .int .i64 x7.code, .bool x7.cred, .string x7.no, .int .u64 (x7.n : Int)] (0, 0) (.struct fs) qx.out hd1.out rfl hix.out ?_)
            | (with_reducible refine wpList_load_rowg ?hw gx rfl 25 #[.int .i64 x7.kind, .int .i64 x7.ses, .int .i64 x7.tick, .string x7.me, .string x7.url, .slice Ax m cx, .string x7.body, .int .i64 x7.status, .int .i64 x7.code, .bool x7.cred, .string x7.no, .int .u64 (x7.n : Int)] (0, 0) (.struct fs) rx.out hd1.out rfl hix.out ?_; (case hw => first | kernel_rfl | (with_unfolding_all rfl) | (simp [Region.wanted, yielded])))
            | (with_reducible refine wpList_store_row rfl _ _ _ rfl w.heap.size #[.int .i64 x7.kind, .int .i64 x7.ses, .int .i64 x7.tick, .string x7.me, .string x7.url, .slice Ax m cx, .string x7.body, .int .i64 x7.status, .int .i64 x7.code, .bool x7.cred, .string x7.no, .int .u64 (x7.n : Int)] rfl rfl 25 #[.int .i64 0, .int .i64 0, .int .i64 0, .string ⟨#[]⟩, .string ⟨#[]⟩, .slice Option.none 0 0, .string ⟨#[]⟩, .int .i64 0, .int .i64 0, .bool false, .string ⟨#[]⟩, .int .u64 0] q6.out hix.out (Eq.refl _) honx.out ?_))
          have hne := Lib.hid hP.out.hne
          have ha := Lib.hid (show Alt w9 (w9.setRow w.heap.size #[.int .i64 x7.kind, .int .i64 x7.ses, .int .i64 x7.tick, .string x7.me, .string x7.url, .slice Ax m cx, .string x7.body, .int .i64 x7.status, .int .i64 x7.code, .bool x7.cred, .string x7.no, .int .u64 (x7.n : Int)]) (fun k => k = w.heap.size) from ⟨rfl, rfl, rfl, by simp [World.setRow], fun k _ hk => setRow_other _ _ _ _ hk⟩)
          refine bodyPost_ret (take_result (g := w.heap.size) (cs := #[.int .i64 x7.kind, .int .i64 x7.ses, .int .i64 x7.tick, .string x7.me, .string x7.url, .slice Ax m cx, .string x7.body, .int .i64 x7.status, .int .i64 x7.code, .bool x7.cred, .string x7.no, .int .u64 (x7.n : Int)]) rfl rfl rfl (setRow_heap _ _ _ _ _ _ q6.out) rfl) rfl ?_
          rw [hE.out, hfin0.out, hok.out]
          refine ⟨Ax, m, cx, T1, u9, ls9, rfl, fun _ => ⟨hB9.out.book.alt ha.out (fun k hk e => hn9.out (by rw [← e]; exact hk)) (fun q hq g off e h0 hk => ?_), fun s a => ?_, hl9.out, fun q hq => ?_⟩, alt_setRow hB9.out.alt (Nat.le_refl _) _, hB9.out.new, hd9.out.alt ha.out fun g off e h0 hk => (hne.out g off e h0).2.1 hk⟩
          · rcases hm9.out q hq with ⟨l0, h1, h2, h3⟩ | ⟨h2, h3⟩
            · have := hold'.out l0 h1 g off (by rw [← h2]; exact e) (by omega)
              omega
            · exact (hne.out g off (by rw [← h2]; exact e) (by omega)).2.1 hk
          · rw [hf9.out, show findL ls = k.look from funext fun s => funext fun a => hlook'.out s a]
          · rcases hm9.out q hq with ⟨l0, h1, h2, h3⟩ | ⟨h2, h3⟩
            · exact .inl ⟨l0, h1, h2, h3⟩
            · exact .inr fun g off e h0 => hnewA g off (by rw [← h2]; exact e) (by omega)
        · rw [decide_eq_false hg] at hgood
          replace hgood := Lib.hid hgood
          have hno := Lib.hid (show finE k kd l sl hs q9 T9 = errE k 4 by unfold finE; rw [← hxe.out, if_neg hg])
          replace hg := Lib.hid hg
          go_wp2_with (first
            | (go_at_call 12; refine hgood.out.mono ?_; rintro e8 w8 ⟨rfl, hb8⟩; have hP8 := Lib.hid (hP.out.later hb8); have hal8 := Lib.hid (hal.out.behind hb8); clear hb8; have r6 := Lib.hid (show w8.heap[w.heap.size]? = some (.cells #[.int .i64 0, .int .i64 0, .int .i64 0, .string ⟨#[]⟩, .string ⟨#[]⟩, .slice Option.none 0 0, .string ⟨#[]⟩, .int .i64 0, .int .i64 0, .bool false, .string ⟨#[]⟩, .int .u64 0] 25 (0, 0)) from hP8.out.br); have r9 := Lib.hid (show w8.heap[w.heap.size + 1]? = some (.cells #[.int .i64 0, .int .i64 0, .int .i64 0, .string ⟨#[]⟩, .string ⟨#[]⟩, .slice Option.none 0 0, .string ⟨#[]⟩, .int .i64 0, .int .i64 0, .bool false, .string ⟨#[]⟩, .int .u64 0] 25 (0, 0)) from hP8.out.b9); have rx8 := Lib.hid (show w8.heap[gx]? = some (.cells #[.int .i64 x7.kind, .int .i64 x7.ses, .int .i64 x7.tick, .string x7.me, .string x7.url, .slice Ax m cx, .string x7.body, .int .i64 x7.status, .int .i64 x7.code, .bool x7.cred, .string x7.no, .int .u64 (x7.n : Int)] 25 (0, 0)) from hP8.out.bx); have htold := TakS.callTold hP8.out hls'.out; unfold evv at htold; unfold ecell12 at htold; replace htold := Lib.hid htold)
            | (with_reducible refine wpList_load_row rfl _ _ rfl gx rfl 25 #[.int .i64 x7.kind, .int .i64 x7.ses, .int .i64 x7.tick, .string x7.me, .string x7.url, .slice Ax m cx, .string x7.body, .int .i64 x7.status, .int .i64 x7.code, .bool x7.cred, .string x7.no, .int .u64 (x7.n : Int)] (0, 0) (.struct fs) rx.out hd1.out rfl hix.out ?_)
            | (with_reducible refine wpList_load_rowg ?hw gx rfl 25 #[.int .i64 x7.kind, .int .i64 x7.ses, .int .i64 x7.tick, .string x7.me, .string x7.url, .slice Ax m cx, .string x7.body, .int .i64 x7.status, .int .i64 x7.code, .bool x7.cred, .string x7.no, .int .u64 (x7.n : Int)] (0, 0) (.struct fs) rx.out hd1.out rfl hix.out ?_; (case hw => first | kernel_rfl | (with_unfolding_all rfl) | (simp [Region.wanted, yielded])))
            | (refine wpList_load_row rfl _ _ rfl (w.heap.size + 1) rfl 25 #[.int .i64 0, .int .i64 0, .int .i64 0, .string ⟨#[]⟩, .string ⟨#[]⟩, .slice Option.none 0 0, .string ⟨#[]⟩, .int .i64 0, .int .i64 0, .bool false, .string ⟨#[]⟩, .int .u64 0] (0, 0) (.struct fs) r9.out hd1.out rfl hi1.out ?_)
            | (with_reducible refine wpList_store_row rfl _ _ _ rfl w.heap.size #[.int .i64 0, .int .i64 0, .int .i64 0, .string ⟨#[]⟩, .string ⟨#[]⟩, .slice Option.none 0 0, .string ⟨#[]⟩, .int .i64 0, .int .i64 0, .bool false, .string ⟨#[]⟩, .int .u64 0] rfl rfl 25 #[.int .i64 0, .int .i64 0, .int .i64 0, .string ⟨#[]⟩, .string ⟨#[]⟩, .slice Option.none 0 0, .string ⟨#[]⟩, .int .i64 0, .int .i64 0, .bool false, .string ⟨#[]⟩, .int .u64 0] r6.out hi1.out (Eq.refl _) hone.out ?_))
          exact bodyPost_ret (take_result (g := w.heap.size) (cs := #[.int .i64 0, .int .i64 0, .int .i64 0, .string ⟨#[]⟩, .string ⟨#[]⟩, .slice Option.none 0 0, .string ⟨#[]⟩, .int .i64 0, .int .i64 0, .bool false, .string ⟨#[]⟩, .int .u64 0]) rfl rfl rfl (setRow_heap _ _ _ _ _ _ r6.out) rfl) rfl (by rw [hE.out, hfin0.out, hno.out]; exact takEE_err (by decide) (alt_setRow hal8.out (Nat.le_refl _) _))
    · have hbad := Lib.hid (hfin.out.1 he)
      have he2 : (e9 == 0) = false := beq_eq_false_iff_ne.2 he
      have he4 : (e9 != 0) = true := by simpa using he
      have he5 : decide (e9 = 0) = false := decide_eq_false he
      replace he := Lib.hid he
      have r6 := Lib.hid (show wc.heap[w.heap.size]? = some (.cells #[.int .i64 0, .int .i64 0, .int .i64 0, .string ⟨#[]⟩, .string ⟨#[]⟩, .slice Option.none 0 0, .string ⟨#[]⟩, .int .i64 0, .int .i64 0, .bool false, .string ⟨#[]⟩, .int .u64 0] 25 (0, 0)) from hP.out.br)
      have r9 := Lib.hid (show wc.heap[w.heap.size + 1]? = some (.cells #[.int .i64 0, .int .i64 0, .int .i64 0, .string ⟨#[]⟩, .string ⟨#[]⟩, .slice Option.none 0 0, .string ⟨#[]⟩, .int .i64 0, .int .i64 0, .bool false, .string ⟨#[]⟩, .int .u64 0] 25 (0, 0)) from hP.out.b9)
      clear hfin hxd
      go_wp2_with (first
        | (refine wpList_load_row rfl _ _ rfl (w.heap.size + 1) rfl 25 #[.int .i64 0, .int .i64 0, .int .i64 0, .string ⟨#[]⟩, .string ⟨#[]⟩, .slice Option.none 0 0, .string ⟨#[]⟩, .int .i64 0, .int .i64 0, .bool false, .string ⟨#[]⟩, .int .u64 0] (0, 0) (.struct fs) r9.out hd1.out rfl hi1.out ?_)
        | (with_reducible refine wpList_store_row rfl _ _ _ rfl w.heap.size #[.int .i64 0, .int .i64 0, .int .i64 0, .string ⟨#[]⟩, .string ⟨#[]⟩, .slice Option.none 0 0, .string ⟨#[]⟩, .int .i64 0, .int .i64 0, .bool false, .string ⟨#[]⟩, .int .u64 0] rfl rfl 25 #[.int .i64 0, .int .i64 0, .int .i64 0, .string ⟨#[]⟩, .string ⟨#[]⟩, .slice Option.none 0 0, .string ⟨#[]⟩, .int .i64 0, .int .i64 0, .bool false, .string ⟨#[]⟩, .int .u64 0] r6.out hi1.out (Eq.refl _) hone.out ?_))
      exact bodyPost_ret (take_result (g := w.heap.size) (cs := #[.int .i64 0, .int .i64 0, .int .i64 0, .string ⟨#[]⟩, .string ⟨#[]⟩, .slice Option.none 0 0, .string ⟨#[]⟩, .int .i64 0, .int .i64 0, .bool false, .string ⟨#[]⟩, .int .u64 0]) rfl rfl rfl (setRow_heap _ _ _ _ _ _ r6.out) rfl) rfl (by rw [hE.out, hbad.out]; exact takEE_err he.out (alt_setRow hal.out (Nat.le_refl _) _))
end Go.Proofs.Ytodncamohimmmaa
