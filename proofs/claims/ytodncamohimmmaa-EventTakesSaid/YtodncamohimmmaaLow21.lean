/-
  Texts of one sort, one behind the other: numbers, memory, regions, strings, headers. Conditions: those that each theorem states.
-/
import Derived.Test.YtodncamohimmmaaLow15
import Derived.Test.YtodncamohimmmaaDelRefTakeM
import Derived.Test.YtodncamohimmmaaEvRefGood
import Derived.Test.YtodncamohimmmaaLow3
import Derived.Maps.AppendAt
import Derived.Test.YtodncamohimmmaaLow11
import Derived.Laws.Rows
import Derived.Laws.Tables
import Derived.Laws.CopyOwn
import Derived.Test.YtodncamohimmmaaLow17
import Derived.Test.YtodncamohimmmaaLow20

namespace Go.Proofs.Ytodncamohimmmaa
open Go.RowKit Go.Lib Go.Maps Leb

def OwnsN (W : World) (base : Nat) (v : Value) (l : List Nat) : Prop := W.ownsRow base 23 1 v l.length (l.map fun (a : Nat) => Value.int .u64 (a : Int))
theorem OwnsN.later {W W' : World} {base : Nat} {v : Value} {l : List Nat} (h : OwnsN W base v l) (hb : Below W.heap.size W W') : OwnsN W' base v l :=
  World.ownsRow.kept (row := Option.none) h ⟨hb.os, hb.tape, hb.output, hb.size, fun k hk _ => hb.block k hk⟩ (by cases hv : v.ownBlock <;> simp)
theorem OwnsN.alt {W W' : World} {base : Nat} {v : Value} {l : List Nat} {S : Nat → Prop} (h : OwnsN W base v l) (ha : Alt W W' S) (ho : OffV S v) : OwnsN W' base v l := ownsRow_alt h ha ho
theorem OwnsN.slice {W : World} {base : Nat} {v : Value} {l : List Nat} (h : OwnsN W base v l) : ∃ A c, v = .slice A l.length c ∧ (0 < l.length → ∃ g, A = some ⟨g, 0, Option.none⟩ ∧ ∀ p (a : Nat), l[p]? = some a → W.cell? ⟨g, p, Option.none⟩ = some (.int .u64 (a : Int))) := by
  rcases h.2 with ⟨e, h0⟩ | ⟨g, cap, cur, e, hbg, hg, hn, hm, hs, ht⟩
  · exact ⟨Option.none, 0, by rw [e, h0], fun hp => absurd hp (by omega)⟩
  · refine ⟨_, cap, e, fun _ => ⟨g, rfl, fun p a ha => ?_⟩⟩
    have hp := (List.getElem?_eq_some_iff.1 ha).1
    have at_ := World.ownsRow.cellAt (by rw [← e]; exact h : W.ownsRow base 23 1 (.slice (some ⟨g, 0, Option.none⟩) l.length cap) l.length (l.map fun (a : Nat) => Value.int .u64 (a : Int))) p (by omega)
    rw [at_, List.getElem?_map, ha]
    rfl

structure TakS (w : World) (b t : Nat) (T0 : Nat → Prop) (u : Value) (ls : List Ln) (tick : Int) (gr g9 gx : Nat) (A : Option Addr) (n c : Nat) (X : List Int) (lv : Value) (l : List Nat) (T : List (List UInt8)) (x : Ev) (Ax : Option Addr) (m cx : Nat) (W : World) : Prop where
  ex : ∃ T1, BStep w W b t T0 T1 u u ls T tick ∧ Off (inB b T1 u) A n ∧ HdO W Ax m cx x.hs (inB b T1 u) ∧ OffV (inB b T1 u) lv ∧ ¬ inB b T1 u gr ∧ ¬ inB b T1 u g9 ∧ ¬ inB b T1 u gx
  rd : Holds W A n c X
  br : W.heap[gr]? = some (.cells (ecell12 zev Option.none 0 0) 25 (0, 0))
  b9 : W.heap[g9]? = some (.cells (ecell12 zev Option.none 0 0) 25 (0, 0))
  bx : W.heap[gx]? = some (.cells (ecell12 x Ax m cx) 25 (0, 0))
  ns : OwnsN W w.heap.size lv l
  ne : lv.ownBlock ≠ some gr ∧ lv.ownBlock ≠ some g9 ∧ lv.ownBlock ≠ some gx ∧ gr ≠ gx ∧ g9 ≠ gx ∧ gr ≠ g9
  lo : w.heap.size ≤ gr ∧ w.heap.size ≤ g9 ∧ w.heap.size ≤ gx
  old : ∀ q ∈ ls, ∀ g off, q.A = some ⟨g, off, Option.none⟩ → 0 < q.n → g < w.heap.size
  oldX : ∀ g off, A = some ⟨g, off, Option.none⟩ → 0 < n → g < w.heap.size
  hne : ∀ g off, Ax = some ⟨g, off, Option.none⟩ → 0 < m → g ≠ gx ∧ g ≠ gr ∧ g ≠ g9

section
variable {w W W' : World} {b t : Nat} {T0 : Nat → Prop} {u : Value} {ls : List Ln} {tick : Int} {gr g9 gx : Nat} {A : Option Addr} {n c : Nat} {X : List Int} {lv : Value} {l : List Nat} {T T' : List (List UInt8)} {x x' : Ev} {Ax Ax' : Option Addr} {m m' cx cx' : Nat}
theorem TakS.later (h : TakS w b t T0 u ls tick gr g9 gx A n c X lv l T x Ax m cx W) (hb : Below W.heap.size W W') : TakS w b t T0 u ls tick gr g9 gx A n c X lv l T x Ax m cx W' := by
  obtain ⟨T1, hB, hX, hH, hL, h1, h2, h3⟩ := h.ex
  have low : ∀ {k o}, W.heap[k]? = some o → k < W.heap.size := fun e => (Array.getElem?_eq_some_iff.1 e).1
  exact ⟨⟨T1, hB.later hb, hX, hH.later hb, hL, h1, h2, h3⟩, h.rd.later hb, (hb.block _ (low h.br)).trans h.br, (hb.block _ (low h.b9)).trans h.b9, (hb.block _ (low h.bx)).trans h.bx, h.ns.later hb, h.ne, h.lo, h.old, h.oldX, h.hne⟩
theorem TakS.size (h : TakS w b t T0 u ls tick gr g9 gx A n c X lv l T x Ax m cx W) : w.heap.size ≤ W.heap.size := by
  obtain ⟨T1, hB, _⟩ := h.ex
  exact hB.alt.size
theorem TakS.ev (h : TakS w b t T0 u ls tick gr g9 gx A n c X lv l T x Ax m cx W) : EvAt W gx x Ax m cx := EvAt.row h.bx
theorem TakS.book (h : TakS w b t T0 u ls tick gr g9 gx A n c X lv l T x Ax m cx W) : W.cell? ⟨b, 0, Option.none⟩ = some (.pointer (some ⟨t, 0, Option.none⟩)) ∧ W.cell? ⟨b, 1, Option.none⟩ = some (.int .i64 tick) := by
  obtain ⟨T1, hB, _⟩ := h.ex
  exact ⟨hB.book.cell.1, hB.book.cell.2.1⟩
theorem TakS.stored (h : TakS w b t T0 u ls tick gr g9 gx A n c X lv l T x Ax m cx W) (i : Nat) (v : Value) (hrow : (W.setCell ⟨gx, i, Option.none⟩ v).heap[gx]? = some (.cells (ecell12 x' Ax' m' cx') 25 (0, 0)))
    (hH : ∀ T1, BStep w W b t T0 T1 u u ls T tick → HdO W Ax m cx x.hs (inB b T1 u) → HdO W Ax' m' cx' x'.hs (inB b T1 u)) (hne : ∀ g off, Ax' = some ⟨g, off, Option.none⟩ → 0 < m' → g ≠ gx ∧ g ≠ gr ∧ g ≠ g9) :
    TakS w b t T0 u ls tick gr g9 gx A n c X lv l T x' Ax' m' cx' (W.setCell ⟨gx, i, Option.none⟩ v) := by
  obtain ⟨T1, hB, hX, hH0, hL, h1, h2, h3⟩ := h.ex
  have ha := alt_set W ⟨gx, i, Option.none⟩ v (S := fun k => k = gx) rfl
  have hH1 := hH T1 hB hH0
  obtain ⟨n1, n2, n3, n4, n5, n6⟩ := h.ne
  have hlx := h.lo.2.2
  refine ⟨⟨T1, ⟨hB.book.alt ha (fun k hk e => h3 (e ▸ hk)) (fun q hq g off e hn hk => ?_), hB.alt.trans ha fun j hj e => by omega, hB.new⟩, hX, ⟨hH1.rd.alt ha fun g off e hn hk => (hne g off e hn).1 hk, hH1.off⟩, hL, h1, h2, h3⟩, h.rd.alt ha fun g off e hn hk => ?_, ?_, ?_, hrow, h.ns.alt ha fun g e hk => n3 (by rw [e]; exact congrArg some hk), h.ne, h.lo, h.old, h.oldX, hne⟩
  · have := h.old q hq g off e hn
    omega
  · have := h.oldX g off e hn
    omega
  · exact (heap_setCell_other W ⟨gx, i, Option.none⟩ gr v n4).trans h.br
  · exact (heap_setCell_other W ⟨gx, i, Option.none⟩ g9 v n5).trans h.b9
theorem TakS.turn (h : TakS w b t T0 u ls tick gr g9 gx A n c X lv l T x Ax m cx W) {T1 T2 : Nat → Prop} (hB : BStep w W b t T0 T1 u u ls T tick) (hX : Off (inB b T1 u) A n) (hH : HdO W Ax m cx x.hs (inB b T1 u)) (hL : OffV (inB b T1 u) lv) (h1 : ¬ inB b T1 u gr) (h2 : ¬ inB b T1 u g9) (h3 : ¬ inB b T1 u gx) (hs : RStep W W' t T1 T2 T') :
    TakS w b t T0 u ls tick gr g9 gx A n c X lv l T' x Ax m cx W' := by
  have low : ∀ {k o}, W.heap[k]? = some o → k < W.heap.size := fun e => (Array.getElem?_eq_some_iff.1 e).1
  have ha := turned_alt hs b u
  have hn := turned_new hs b u
  have off : ∀ {k}, ¬ inB b T1 u k → k < W.heap.size → ¬ inB b T2 u k := fun h1 h2 h3 => (hn _ h3).elim h1 fun h4 => by omega
  refine ⟨⟨T2, hB.turn hs, fun g off' e h0 hk => ?_, hH.step ha hn, fun g e hk => ?_, off h1 (low h.br), off h2 (low h.b9), off h3 (low h.bx)⟩, h.rd.alt ha hX, (ha.block _ (low h.br) h1).trans h.br, (ha.block _ (low h.b9) h2).trans h.b9, (ha.block _ (low h.bx) h3).trans h.bx, h.ns.alt ha hL, h.ne, h.lo, h.old, h.oldX, h.hne⟩
  · have h4 := h.oldX g off' e h0
    have h5 := h.size
    exact off (hX g off' e h0) (by omega) hk
  · have h4 := (World.ownsRow.lt h.ns g e).2
    exact off (hL g e) h4 hk
theorem TakS.callTake (h : TakS w b t T0 u ls tick gr g9 gx A n c X lv l T x Ax m cx W) (p : Int) (hT : T.length ≤ 1000000) (hn : n ≤ 140737488355328) :
    Calls Try.prog 47 #[.pointer (some ⟨t, 0, Option.none⟩), .slice A n c, .int .i64 p] W fun e W' => e = .returned (.tuple #[.string (Go.Proofs.Ytodncamohimmmaa.mk (takeB T X p).1), .int .i64 (takeB T X p).2.1, .int .i64 (takeB T X p).2.2]) ∧ TakS w b t T0 u ls tick gr g9 gx A n c X lv l (takeL T X p) x Ax m cx W' := by
  obtain ⟨T1, hB, hX, hH, hL, h1, h2, h3⟩ := h.ex
  refine (takeR_any t T T1 A n c X p W hB.book.tab hT h.rd hn).mono ?_
  rintro e W' ⟨T2, rfl, hs⟩
  exact ⟨rfl, h.turn hB hX hH hL h1 h2 h3 hs⟩
end

structure TakL (w : World) (b t : Nat) (T0 : Nat → Prop) (u : Value) (ls : List Ln) (tick : Int) (gr g9 gx : Nat) (A : Option Addr) (n c : Nat) (X : List Int) (lv : Value) (l : List Nat) (T : List (List UInt8)) (x : Ev) (Ax : Option Addr) (m cx : Nat) (Aw : Option Addr) (nw cw : Nat) (was : List Hd) (W : World) : Prop where
  st : TakS w b t T0 u ls tick gr g9 gx A n c X lv l T x Ax m cx W
  exw : ∃ T1, BStep w W b t T0 T1 u u ls T tick ∧ Off (inB b T1 u) A n ∧ HdO W Ax m cx x.hs (inB b T1 u) ∧ OffV (inB b T1 u) lv ∧ ¬ inB b T1 u gr ∧ ¬ inB b T1 u g9 ∧ ¬ inB b T1 u gx ∧ HdO W Aw nw cw was (inB b T1 u)
section
variable {w W W' : World} {b t : Nat} {T0 : Nat → Prop} {u : Value} {ls : List Ln} {tick : Int} {gr g9 gx : Nat} {A : Option Addr} {n c : Nat} {X : List Int} {lv : Value} {l : List Nat} {T T' : List (List UInt8)} {x x' : Ev} {Ax Ax' : Option Addr} {m m' cx cx' : Nat} {Aw : Option Addr} {nw cw : Nat} {was : List Hd}
theorem TakS.listNone (h : TakS w b t T0 u ls tick gr g9 gx A n c X lv l T x Ax m cx W) (hw : Hds W Aw nw cw []) : TakL w b t T0 u ls tick gr g9 gx A n c X lv l T x Ax m cx Aw nw cw [] W := by
  obtain ⟨T1, hB, hX, hH, hL, h1, h2, h3⟩ := h.ex
  exact ⟨h, T1, hB, hX, hH, hL, h1, h2, h3, hw, fun g off _ h0 => by
    have := hw.len
    simp at this
    omega⟩
theorem TakL.later (h : TakL w b t T0 u ls tick gr g9 gx A n c X lv l T x Ax m cx Aw nw cw was W) (hb : Below W.heap.size W W') : TakL w b t T0 u ls tick gr g9 gx A n c X lv l T x Ax m cx Aw nw cw was W' := by
  obtain ⟨T1, hB, hX, hH, hL, h1, h2, h3, hw⟩ := h.exw
  exact ⟨h.st.later hb, T1, hB.later hb, hX, hH.later hb, hL, h1, h2, h3, hw.later hb⟩
theorem TakS.callList (h : TakS w b t T0 u ls tick gr g9 gx A n c X lv l T x Ax m cx W) (s : Int) (a : Bool) (hl : ls.length ≤ 1000000) :
    Calls Try.prog 40 #[.pointer (some ⟨b, 0, Option.none⟩), .int .i64 s, .bool a] W fun e W' => (∃ Aw nw cw, e = .returned (.slice Aw nw cw) ∧ TakL w b t T0 u ls tick gr g9 gx A n c X lv l T x Ax m cx Aw nw cw (findL ls s a) W) ∧ W = W' := by
  obtain ⟨T1, hB, hX, hH, hL, h1, h2, h3⟩ := h.ex
  refine (refList_any b t T1 u ls T tick s a W hB.book hl).mono ?_
  rintro e W' ⟨Aw, nw, cw, rfl, hd, he⟩
  exact ⟨⟨Aw, nw, cw, rfl, h, T1, hB, hX, hH, hL, h1, h2, h3, hd⟩, he⟩
theorem TakL.callDelta (h : TakL w b t T0 u ls tick gr g9 gx A n c X lv l T x Ax m cx Aw nw cw was W) (p : Int) (hT : T.length ≤ 300000) (hn : n ≤ 1000000000) (hnw : nw ≤ 1000) :
    Calls Try.prog 48 #[.slice A n c, .int .i64 p, .pointer (some ⟨t, 0, Option.none⟩), .slice Aw nw cw] W fun e W' => ∃ Av mv cv, e = .returned (.tuple #[.slice Av mv cv, .int .i64 (dtake T X p was).1.2.1, .int .i64 (dtake T X p was).1.2.2]) ∧
      TakL w b t T0 u ls tick gr g9 gx A n c X lv l (dtake T X p was).2 x Ax m cx Av mv cv (dtake T X p was).1.1 W' ∧ ∀ g off, Av = some ⟨g, off, Option.none⟩ → 0 < mv → W.heap.size ≤ g := by
  obtain ⟨T1, hB, hX, hH, hL, h1, h2, h3, hw⟩ := h.exw
  have hT1 : ∀ {A : Option Addr} {n : Nat}, Off (inB b T1 u) A n → Off T1 A n := fun ho g off e hn hk => ho g off e hn (.inr (.inl hk))
  refine (refDtake_off t T T1 A n c X p Aw nw cw was W hB.book.tab hT h.st.rd hn hw.rd hnw (hT1 hw.off) (hT1 hX)).mono ?_
  rintro e W' ⟨v, T2, rfl, hown, hs, hof⟩
  have hlt : ∀ g, v.ownBlock = some g → W.heap.size ≤ g := fun g e => (World.ownsRow.lt hown g e).1
  obtain ⟨Av, mv, cv, rfl, _, hv⟩ := hown.hds'
  have hlow := hB.book.low
  have ha := turned_alt hs b u
  have hn2 := turned_new hs b u
  have low : ∀ {k o}, W.heap[k]? = some o → k < W.heap.size := fun e => (Array.getElem?_eq_some_iff.1 e).1
  have off : ∀ {k}, ¬ inB b T1 u k → k < W.heap.size → ¬ inB b T2 u k := fun h1 h2 h3 => (hn2 _ h3).elim h1 fun h4 => by omega
  have hge : ∀ g off, Av = some ⟨g, off, Option.none⟩ → 0 < mv → W.heap.size ≤ g := fun g off e _ => hlt g (by rw [e]; rfl)
  refine ⟨Av, mv, cv, rfl, ⟨h.st.turn hB hX hH hL h1 h2 h3 hs, T2, hB.turn hs, fun g off' e h0 hk => ?_, hH.step ha hn2, fun g e hk => ?_, off h1 (low h.st.br), off h2 (low h.st.b9), off h3 (low h.st.bx), hv, fun g off' e h0 hk => ?_⟩, hge⟩
  · have h4 := h.st.oldX g off' e h0
    have h5 := h.st.size
    exact off (hX g off' e h0) (by omega) hk
  · have h4 := (World.ownsRow.lt h.st.ns g e).2
    exact off (hL g e) h4 hk
  · have h4 := hge g off' e h0
    rcases hk with hk | hk | hk
    · have := hlow b (.inl rfl)
      omega
    · exact hof g (by rw [e]; rfl) hk
    · have := hlow g (.inr (.inr hk))
      omega
theorem TakL.stored (h : TakL w b t T0 u ls tick gr g9 gx A n c X lv l T x Ax m cx Aw nw cw was W) (hrow : (W.setCell ⟨gx, 5, Option.none⟩ (.slice Aw nw cw)).heap[gx]? = some (.cells (ecell12 x' Aw nw cw) 25 (0, 0))) (hx' : x'.hs = was)
    (hne : ∀ g off, Aw = some ⟨g, off, Option.none⟩ → 0 < nw → g ≠ gx ∧ g ≠ gr ∧ g ≠ g9) : TakS w b t T0 u ls tick gr g9 gx A n c X lv l T x' Aw nw cw (W.setCell ⟨gx, 5, Option.none⟩ (.slice Aw nw cw)) := by
  obtain ⟨T1, hB, hX, hH, hL, h1, h2, h3, hw⟩ := h.exw
  have ha := alt_set W ⟨gx, 5, Option.none⟩ (.slice Aw nw cw) (S := fun k => k = gx) rfl
  obtain ⟨n1, n2, n3, n4, n5, n6⟩ := h.st.ne
  have hlx := h.st.lo.2.2
  have e1 : ∀ q ∈ ls, Off (fun k => k = gx) q.A q.n := fun q hq g off e hn hk => by
    have := h.st.old q hq g off e hn
    omega
  refine ⟨⟨T1, ⟨hB.book.alt ha (fun k hk e => h3 (e ▸ hk)) e1, hB.alt.trans ha fun j hj e => by omega, hB.new⟩, hX, ?_, hL, h1, h2, h3⟩, h.st.rd.alt ha fun g off e hn hk => ?_, ?_, ?_, hrow, h.st.ns.alt ha fun g e hk => n3 (by rw [e]; exact congrArg some hk), h.st.ne, h.st.lo, h.st.old, h.st.oldX, hne⟩
  · rw [hx']
    exact ⟨hw.rd.alt ha fun g off e hn hk => (hne g off e hn).1 hk, hw.off⟩
  · have := h.st.oldX g off e hn
    omega
  · exact (heap_setCell_other W ⟨gx, 5, Option.none⟩ gr _ n4).trans h.st.br
  · exact (heap_setCell_other W ⟨gx, 5, Option.none⟩ g9 _ n5).trans h.st.b9
theorem TakS.callGood (h : TakS w b t T0 u ls tick gr g9 gx A n c X lv l T x Ax m cx W) (hcode : x.code ≤ 9223372036854775807) :
    Calls Try.prog 12 #[evv x Ax m cx] W fun e W' => e = .returned (.bool (decide (GoodE x))) ∧ Below W.heap.size W W' := by
  obtain ⟨T1, hB, hX, hH, hL, h1, h2, h3⟩ := h.ex
  exact refGoodE_any x Ax m cx W hH.rd hcode
theorem TakS.callTold (h : TakS w b t T0 u ls tick gr g9 gx A n c X lv l T x Ax m cx W) (hl : ls.length ≤ 1000000) :
    Calls Try.prog 41 #[.pointer (some ⟨b, 0, Option.none⟩), evv x Ax m cx] W fun e W' => e = .returned (.tuple #[]) ∧ ∃ T1 u' ls', BStep w W' b t T0 T1 u u' ls' T x.tick ∧ (∀ s a, findL ls' s a = lookE (findL ls) x s a) ∧ ls'.length ≤ ls.length + 1 ∧
      (∀ q ∈ ls', (∃ l0 ∈ ls, q.A = l0.A ∧ q.n = l0.n) ∨ (q.A = Ax ∧ q.n = m)) ∧ Hds W' Ax m cx x.hs ∧ W'.heap[gr]? = some (.cells (ecell12 zev Option.none 0 0) 25 (0, 0)) ∧ W'.heap[gx]? = some (.cells (ecell12 x Ax m cx) 25 (0, 0)) ∧ ¬ inB b T1 u' gr := by
  obtain ⟨T1, hB, hX, hH, hL, h1, h2, h3⟩ := h.ex
  have low : ∀ {k o}, W.heap[k]? = some o → k < W.heap.size := fun e => (Array.getElem?_eq_some_iff.1 e).1
  refine (refTold_any b t T1 u ls T tick x Ax m cx W hB.book hl hH).mono ?_
  rintro e W' ⟨rfl, u', ls', hB2, hf, hln, ha, hn, hm⟩
  refine ⟨rfl, T1, u', ls', ⟨hB2, hB.alt.trans ha fun j hj hk => (hB.new j hk).resolve_right (by omega), fun k hk => ?_⟩, hf, hln, hm, hH.rd.alt ha hH.off, (ha.block _ (low h.br) h1).trans h.br, (ha.block _ (low h.bx) h3).trans h.bx, fun hk => (hn _ hk).elim h1 fun h4 => by have := low h.br; omega⟩
  rcases hn k hk with h4 | h4
  · exact hB.new k h4
  · exact .inr (Nat.le_trans hB.alt.size h4)
end
end Go.Proofs.Ytodncamohimmmaa

namespace Go.Proofs.Ytodncamohimmmaa
open Go.RowKit Go.Lib Go.Maps Leb

theorem infoU64 : (Try.prog.info? 23).map (fun i => (i.zero, i.size, i.bytes)) = some (some (.int .u64 0), 1, 8) := by kernel_rfl
theorem ownsN_none (w : World) (base : Nat) (hB : base ≤ w.heap.size) : OwnsN (w.alloc (.cells #[] 23)) base (.slice (some ⟨w.heap.size, 0, Option.none⟩) 0 0) [] := by
  have := World.ownsRow_lit (size := 1) (e := 23) w #[] 0 hB (Nat.zero_le _) rfl
  simpa [OwnsN] using this
section
variable {P : Program} {ops : Array Oper} {rest : List Oper} {o : Oper} {a : Act} {w : World} {Q : Exit → Act → World → Prop}
theorem wpList_append_num (hgd : o.guard = Option.none) (s x : Operand) (t : TypeId) (ho : o.op = .call { callee := .builtin .append, args := #[s, x], argTypes := #[t, t] })
    (base : Nat) (i : TypeInfo) (ht : P.underlying t = some (.slice 23)) (hi : P.info? 23 = some i) (hz : i.zero = some (.int .u64 0)) (hz1 : i.size = 1) (hz2 : i.bytes = 8)
    (v : Value) (l : List Nat) (hs : a.eval s = v) (hown : OwnsN w base v l) (gx : Nat) (q : Nat) (hx : a.eval x = .slice (some ⟨gx, 0, Option.none⟩) 1 1) (hc : w.cell? ⟨gx, 0, Option.none⟩ = some (.int .u64 (q : Int))) (hl : l.length ≤ 1000000) (hbase : base ≤ w.heap.size)
    (hK : ∀ v' w', OwnsN w' base v' (l ++ [q]) → w.grownBy w' v.ownBlock → (v'.ownBlock = v.ownBlock ∨ v'.ownBlock = some w.heap.size) → wpList P ops Q rest (a.put o.dst v') w') : wpList P ops Q (o :: rest) a w := by
  obtain ⟨v', w', hrun, h2, h3, _, h5⟩ := run_append_own_at (P := P) w base t o.type _ i _ 1 8 ht hi hz hz1 hz2 rfl (by omega) v _ _ hown ⟨gx, 0, Option.none⟩ 1 1 [.int .u64 (q : Int)] rfl (fun j z hz => by
    have hj : j = 0 := by
      have := (List.getElem?_eq_some_iff.1 hz).1
      simpa using this
    subst hj
    rw [addr_add]
    have : z = .int .u64 (q : Int) := by simpa using hz.symm
    subst this
    exact hc) (fun u hu => by have : u = .int .u64 (q : Int) := by simpa using hu
                              subst this
                              rfl) (by simp only [maxLen]; omega) (by omega) hbase
  have h2' : OwnsN w' base v' (l ++ [q]) := by
    unfold OwnsN
    rw [List.length_append, List.map_append]
    exact h2
  refine wpList_plain hgd fun _ hK' => ?_
  unfold Oper.wp execOp
  simp only [ho, resolve, invoke, builtin, Sem.run_bind, Sem.run_pure, Result.andThen_ok, List.map_toArray, List.map_cons, List.map_nil, hs, hx, hrun]
  exact hK' _ _ (hK v' w' h2' h3 h5)
end
theorem TakS.start {w W : World} {b t : Nat} {T0 : Nat → Prop} {u : Value} {ls : List Ln} {tick : Int} {gr g9 gx : Nat} {A : Option Addr} {n c : Nat} {X : List Int} {lv : Value} {l : List Nat} {T : List (List UInt8)} {x : Ev}
    (h : RBk w b t T0 u ls T tick) (hX : Holds w A n c X) (hXo : Off (inB b T0 u) A n) (hb : Below w.heap.size w W) (hr : W.heap[gr]? = some (.cells (ecell12 zev Option.none 0 0) 25 (0, 0))) (h9 : W.heap[g9]? = some (.cells (ecell12 zev Option.none 0 0) 25 (0, 0)))
    (hx : W.heap[gx]? = some (.cells (ecell12 x Option.none 0 0) 25 (0, 0))) (hxs : x.hs = []) (hn : OwnsN W w.heap.size lv l) (hne : lv.ownBlock ≠ some gr ∧ lv.ownBlock ≠ some g9 ∧ lv.ownBlock ≠ some gx ∧ gr ≠ gx ∧ g9 ≠ gx ∧ gr ≠ g9) (hlo : w.heap.size ≤ gr ∧ w.heap.size ≤ g9 ∧ w.heap.size ≤ gx)
    (hls : ∀ q ∈ ls, ∀ g off, q.A = some ⟨g, off, Option.none⟩ → 0 < q.n → g < w.heap.size) : TakS w b t T0 u ls tick gr g9 gx A n c X lv l T x Option.none 0 0 W := by
  have hlow := h.low
  refine ⟨⟨T0, BStep.same h hb, hXo, ⟨?_, fun g off e => by cases e⟩, fun g e hk => ?_, fun hk => ?_, fun hk => ?_, fun hk => ?_⟩, hX.later hb, hr, h9, hx, hn, hne, hlo, hls, fun g off e h0 => ?_, fun g off e => by cases e⟩
  · rw [hxs]
    exact hds_empty W _ _ (Nat.zero_le _) (fun _ => rfl)
  · have h1 := (World.ownsRow.lt hn g e).1
    have h2 := hlow g hk
    omega
  · have h2 := hlow gr hk
    omega
  · have h2 := hlow g9 hk
    omega
  · have h2 := hlow gx hk
    omega
  · have h1 := hX
    rw [e] at h1
    exact h1.block h0
end Go.Proofs.Ytodncamohimmmaa

namespace Go.Proofs.Ytodncamohimmmaa
open Go.RowKit Go.Lib Leb

theorem results_cell_two {fn : Func} {p u v : Tmp} {ty : TypeId} (h : fn.results = #[.cell p ty, .tmp u, .tmp v]) (tmps : Array Value) (P : Program) (w : World) :
    (results fn tmps).run P w = ((asAddr (tmps.getD p undef)).run P w).andThen fun a w₁ => ((loadVar ty a).run P w₁).andThen fun x w₂ => .ok (.tuple #[x, tmps.getD u undef, tmps.getD v undef]) w₂ := by
  simp only [results, h]
  simp [Sem.run_bind, Result.andThen]
set_option maxRecDepth 100000 in
theorem take_result {tmps : Array Value} {w : World} {g : Nat} {cs : Array Value} {q e : Int} (hp : tmps.getD 6 undef = .pointer (some ⟨g, 0, Option.none⟩)) (hq : tmps.getD 7 undef = .int .i64 q) (he : tmps.getD 8 undef = .int .i64 e) (hg : w.heap[g]? = some (.cells cs 25 (0, 0))) (hs : cs.size = 12) :
    (results Try.f19 tmps).run Try.prog w = .ok (.tuple #[.agg cs, .int .i64 q, .int .i64 e]) w := by
  rw [results_cell_two (fn := Try.f19) (p := 6) (u := 7) (v := 8) (ty := 25) rfl, hp, hq, he]
  obtain ⟨fs, hd1⟩ := undEv
  have h := run_loadVar_row w g 25 25 cs (0, 0) (.struct fs) hg hd1 rfl (by rw [hs]; exact infoEv21)
  simp [asAddr, Result.andThen, h]

theorem take_boxes (w : World) (o1 o2 : Obj) (W' : World) (hb : Below ((w.alloc o1).alloc o2).heap.size ((w.alloc o1).alloc o2) W') : W'.heap[w.heap.size]? = some o1 ∧ W'.heap[w.heap.size + 1]? = some o2 ∧ Below w.heap.size w W' := by
  have h1 := heap_alloc_new (w.alloc o1) o2
  simp only [World.size_alloc] at h1
  have h3 := (Below.heap_alloc (w.alloc o1) o2 w.heap.size (by simp)).trans (heap_alloc_new w o1)
  exact ⟨(hb.block _ (by simp; omega)).trans h3, (hb.block _ (by simp)).trans h1, below_then (below_then (below_box _ _) (below_box _ _)) hb⟩
set_option maxHeartbeats 8000000 in
set_option maxRecDepth 100000 in
theorem refTakeE_e1 (b : Nat) (A : Option Addr) (n c : Nat) (X : List Int) (p : Int) (w : World) (hX : Holds w A n c X) {a : Nat} {q e : Int} (h1 : take X p = (a, q, e)) (he : (e == 0) = false) :
    Calls Try.prog 19 #[.pointer (some ⟨b, 0, Option.none⟩), .slice A n c, .int .i64 p] w fun en w' => en = .returned (.tuple #[evv zev Option.none 0 0, .int .i64 0, .int .i64 e]) ∧ Below w.heap.size w w' := by
  have htake := Lib.hid (fun W (h : Holds W A n c X) => refTake_any A n c X p W h)
  rw [h1] at htake
  have he2 : (e != 0) = true := by simpa using he
  have hX' := Lib.hid hX
  obtain ⟨fs, hd1⟩ := undEv
  replace hd1 := Lib.hid hd1
  have hi1 := Lib.hid (show (Try.prog.info? 25).map (·.size) = some (#[.int .i64 0, .int .i64 0, .int .i64 0, .string ⟨#[]⟩, .string ⟨#[]⟩, .slice Option.none 0 0, .string ⟨#[]⟩, .int .i64 0, .int .i64 0, .bool false, .string ⟨#[]⟩, .int .u64 0] : Array Value).size from infoEv21)
  have hone := Lib.hid (show (#[.int .i64 0, .int .i64 0, .int .i64 0, .string ⟨#[]⟩, .string ⟨#[]⟩, .slice Option.none 0 0, .string ⟨#[]⟩, .int .i64 0, .int .i64 0, .bool false, .string ⟨#[]⟩, .int .u64 0] : Array Value).all (·.oneCell') = true by simp [Value.oneCell'])
  clear hX h1
  go_enter Try.func19, Try.ntmps19
  go_wp2_with (first
    | (go_at_call 46; refine (htake.out _ ((hX'.out.later (below_box w (.cells #[.int .i64 0, .int .i64 0, .int .i64 0, .string ⟨#[]⟩, .string ⟨#[]⟩, .slice Option.none 0 0, .string ⟨#[]⟩, .int .i64 0, .int .i64 0, .bool false, .string ⟨#[]⟩, .int .u64 0] 25))).later (below_box _ (.cells #[.int .i64 0, .int .i64 0, .int .i64 0, .string ⟨#[]⟩, .string ⟨#[]⟩, .slice Option.none 0 0, .string ⟨#[]⟩, .int .i64 0, .int .i64 0, .bool false, .string ⟨#[]⟩, .int .u64 0] 25)))).mono ?_; rintro e4 w4 ⟨rfl, hb4⟩; obtain ⟨r6, r9, hbw⟩ := take_boxes w _ _ _ hb4; have r6' := Lib.hid r6; have r9' := Lib.hid r9; have hbw' := Lib.hid hbw; clear hb4 r6 r9 hbw)
    | (refine wpList_load_row rfl _ _ rfl (w.heap.size + 1) rfl 25 #[.int .i64 0, .int .i64 0, .int .i64 0, .string ⟨#[]⟩, .string ⟨#[]⟩, .slice Option.none 0 0, .string ⟨#[]⟩, .int .i64 0, .int .i64 0, .bool false, .string ⟨#[]⟩, .int .u64 0] (0, 0) (.struct fs) r9'.out hd1.out rfl hi1.out ?_)
    | (with_reducible refine wpList_store_row rfl _ _ _ rfl w.heap.size #[.int .i64 0, .int .i64 0, .int .i64 0, .string ⟨#[]⟩, .string ⟨#[]⟩, .slice Option.none 0 0, .string ⟨#[]⟩, .int .i64 0, .int .i64 0, .bool false, .string ⟨#[]⟩, .int .u64 0] rfl rfl 25 #[.int .i64 0, .int .i64 0, .int .i64 0, .string ⟨#[]⟩, .string ⟨#[]⟩, .slice Option.none 0 0, .string ⟨#[]⟩, .int .i64 0, .int .i64 0, .bool false, .string ⟨#[]⟩, .int .u64 0] r6'.out hi1.out (Eq.refl _) hone.out ?_))
  refine bodyPost_ret (take_result (g := w.heap.size) (cs := #[.int .i64 0, .int .i64 0, .int .i64 0, .string ⟨#[]⟩, .string ⟨#[]⟩, .slice Option.none 0 0, .string ⟨#[]⟩, .int .i64 0, .int .i64 0, .bool false, .string ⟨#[]⟩, .int .u64 0]) rfl rfl rfl (setRow_heap _ _ _ _ _ _ r6'.out) rfl) rfl ⟨rfl, below_setRow hbw'.out (by simp) _⟩
set_option maxHeartbeats 8000000 in
set_option maxRecDepth 100000 in
theorem refTakeE_kind (b : Nat) (A : Option Addr) (n c : Nat) (X : List Int) (p : Int) (w : World) (hX : Holds w A n c X) {a : Nat} {q : Int} (h1 : take X p = (a, q, 0)) (ha : a < 1 ∨ 7 < a) :
    Calls Try.prog 19 #[.pointer (some ⟨b, 0, Option.none⟩), .slice A n c, .int .i64 p] w fun en w' => en = .returned (.tuple #[evv zev Option.none 0 0, .int .i64 0, .int .i64 4]) ∧ Below w.heap.size w w' := by
  have htake := Lib.hid (fun W (h : Holds W A n c X) => refTake_any A n c X p W h)
  rw [h1] at htake
  have hX' := Lib.hid hX
  obtain ⟨fs, hd1⟩ := undEv
  replace hd1 := Lib.hid hd1
  have hi1 := Lib.hid (show (Try.prog.info? 25).map (·.size) = some (#[.int .i64 0, .int .i64 0, .int .i64 0, .string ⟨#[]⟩, .string ⟨#[]⟩, .slice Option.none 0 0, .string ⟨#[]⟩, .int .i64 0, .int .i64 0, .bool false, .string ⟨#[]⟩, .int .u64 0] : Array Value).size from infoEv21)
  have hone := Lib.hid (show (#[.int .i64 0, .int .i64 0, .int .i64 0, .string ⟨#[]⟩, .string ⟨#[]⟩, .slice Option.none 0 0, .string ⟨#[]⟩, .int .i64 0, .int .i64 0, .bool false, .string ⟨#[]⟩, .int .u64 0] : Array Value).all (·.oneCell') = true by simp [Value.oneCell'])
  clear hX h1
  rcases ha with ha | ha
  · have g1 : decide ((a : Int) < 1) = true := decide_eq_true (by omega)
    have g2 : (a : Int) < 1 := by omega
    clear ha
    go_enter Try.func19, Try.ntmps19
    go_wp2_with (first
      | (go_at_call 46; refine (htake.out _ ((hX'.out.later (below_box w (.cells #[.int .i64 0, .int .i64 0, .int .i64 0, .string ⟨#[]⟩, .string ⟨#[]⟩, .slice Option.none 0 0, .string ⟨#[]⟩, .int .i64 0, .int .i64 0, .bool false, .string ⟨#[]⟩, .int .u64 0] 25))).later (below_box _ (.cells #[.int .i64 0, .int .i64 0, .int .i64 0, .string ⟨#[]⟩, .string ⟨#[]⟩, .slice Option.none 0 0, .string ⟨#[]⟩, .int .i64 0, .int .i64 0, .bool false, .string ⟨#[]⟩, .int .u64 0] 25)))).mono ?_; rintro e4 w4 ⟨rfl, hb4⟩; obtain ⟨r6, r9, hbw⟩ := take_boxes w _ _ _ hb4; have r6' := Lib.hid r6; have r9' := Lib.hid r9; have hbw' := Lib.hid hbw; clear hb4 r6 r9 hbw)
      | (refine wpList_load_row rfl _ _ rfl (w.heap.size + 1) rfl 25 #[.int .i64 0, .int .i64 0, .int .i64 0, .string ⟨#[]⟩, .string ⟨#[]⟩, .slice Option.none 0 0, .string ⟨#[]⟩, .int .i64 0, .int .i64 0, .bool false, .string ⟨#[]⟩, .int .u64 0] (0, 0) (.struct fs) r9'.out hd1.out rfl hi1.out ?_)
      | (with_reducible refine wpList_store_row rfl _ _ _ rfl w.heap.size #[.int .i64 0, .int .i64 0, .int .i64 0, .string ⟨#[]⟩, .string ⟨#[]⟩, .slice Option.none 0 0, .string ⟨#[]⟩, .int .i64 0, .int .i64 0, .bool false, .string ⟨#[]⟩, .int .u64 0] rfl rfl 25 #[.int .i64 0, .int .i64 0, .int .i64 0, .string ⟨#[]⟩, .string ⟨#[]⟩, .slice Option.none 0 0, .string ⟨#[]⟩, .int .i64 0, .int .i64 0, .bool false, .string ⟨#[]⟩, .int .u64 0] r6'.out hi1.out (Eq.refl _) hone.out ?_))
    refine bodyPost_ret (take_result (g := w.heap.size) (cs := #[.int .i64 0, .int .i64 0, .int .i64 0, .string ⟨#[]⟩, .string ⟨#[]⟩, .slice Option.none 0 0, .string ⟨#[]⟩, .int .i64 0, .int .i64 0, .bool false, .string ⟨#[]⟩, .int .u64 0]) rfl rfl rfl (setRow_heap _ _ _ _ _ _ r6'.out) rfl) rfl ⟨rfl, below_setRow hbw'.out (by simp) _⟩
  · have g1 : decide ((a : Int) < 1) = false := decide_eq_false (by omega)
    have g2 : ¬ (a : Int) < 1 := by omega
    have g3 : decide ((7 : Int) < (a : Int)) = true := decide_eq_true (by omega)
    have g4 : (7 : Int) < (a : Int) := by omega
    have g5 : decide (7 < a) = true := decide_eq_true ha
    clear ha
    go_enter Try.func19, Try.ntmps19
    go_wp2_with (first
      | (go_at_call 46; refine (htake.out _ ((hX'.out.later (below_box w (.cells #[.int .i64 0, .int .i64 0, .int .i64 0, .string ⟨#[]⟩, .string ⟨#[]⟩, .slice Option.none 0 0, .string ⟨#[]⟩, .int .i64 0, .int .i64 0, .bool false, .string ⟨#[]⟩, .int .u64 0] 25))).later (below_box _ (.cells #[.int .i64 0, .int .i64 0, .int .i64 0, .string ⟨#[]⟩, .string ⟨#[]⟩, .slice Option.none 0 0, .string ⟨#[]⟩, .int .i64 0, .int .i64 0, .bool false, .string ⟨#[]⟩, .int .u64 0] 25)))).mono ?_; rintro e4 w4 ⟨rfl, hb4⟩; obtain ⟨r6, r9, hbw⟩ := take_boxes w _ _ _ hb4; have r6' := Lib.hid r6; have r9' := Lib.hid r9; have hbw' := Lib.hid hbw; clear hb4 r6 r9 hbw)
      | (refine wpList_load_row rfl _ _ rfl (w.heap.size + 1) rfl 25 #[.int .i64 0, .int .i64 0, .int .i64 0, .string ⟨#[]⟩, .string ⟨#[]⟩, .slice Option.none 0 0, .string ⟨#[]⟩, .int .i64 0, .int .i64 0, .bool false, .string ⟨#[]⟩, .int .u64 0] (0, 0) (.struct fs) r9'.out hd1.out rfl hi1.out ?_)
      | (with_reducible refine wpList_store_row rfl _ _ _ rfl w.heap.size #[.int .i64 0, .int .i64 0, .int .i64 0, .string ⟨#[]⟩, .string ⟨#[]⟩, .slice Option.none 0 0, .string ⟨#[]⟩, .int .i64 0, .int .i64 0, .bool false, .string ⟨#[]⟩, .int .u64 0] rfl rfl 25 #[.int .i64 0, .int .i64 0, .int .i64 0, .string ⟨#[]⟩, .string ⟨#[]⟩, .slice Option.none 0 0, .string ⟨#[]⟩, .int .i64 0, .int .i64 0, .bool false, .string ⟨#[]⟩, .int .u64 0] r6'.out hi1.out (Eq.refl _) hone.out ?_))
    refine bodyPost_ret (take_result (g := w.heap.size) (cs := #[.int .i64 0, .int .i64 0, .int .i64 0, .string ⟨#[]⟩, .string ⟨#[]⟩, .slice Option.none 0 0, .string ⟨#[]⟩, .int .i64 0, .int .i64 0, .bool false, .string ⟨#[]⟩, .int .u64 0]) rfl rfl rfl (setRow_heap _ _ _ _ _ _ r6'.out) rfl) rfl ⟨rfl, below_setRow hbw'.out (by simp) _⟩

end Go.Proofs.Ytodncamohimmmaa

namespace Go.Proofs.Ytodncamohimmmaa
open Go.RowKit Go.Lib Go.Maps Leb

set_option maxHeartbeats 8000000 in
set_option maxRecDepth 100000 in
theorem after_any (b : Nat) (t : Int) (a : Nat) (w : World) (hc : w.cell? ⟨b, 1, Option.none⟩ = some (.int .i64 t)) (h0 : 0 ≤ t) (h1 : t ≤ 1099511627776) (ha : U64 a) :
    Calls Try.prog 45 #[.pointer (some ⟨b, 0, Option.none⟩), .int .u64 a] w fun e w' => e = .returned (.int .i64 (aft t a)) ∧ w' = w := by
  unfold U64 at ha
  have s1 : wrap64 (1099511627776 - t) = 1099511627776 - t := wrap_int (by omega) (by omega)
  have s2 : IntKind.u64.wrap (1099511627776 - t) = 1099511627776 - t := by simp [IntKind.wrap, IntKind.bits, IntKind.signed]; omega
  unfold aft
  by_cases hl : 1099511627776 - t < (a : Int)
  · rw [if_pos hl]
    have d1 : decide (1099511627776 - t < (a : Int)) = true := decide_eq_true hl
    have d2 : decide ((a : Int) > 1099511627776 - t) = true := decide_eq_true hl
    clear hl h0 h1 ha
    go_enter Try.func45, Try.ntmps45
    go_wp2
    go_ret
    exact ⟨rfl, rfl⟩
  · rw [if_neg hl]
    have d1 : decide (1099511627776 - t < (a : Int)) = false := decide_eq_false hl
    have d2 : decide ((a : Int) > 1099511627776 - t) = false := decide_eq_false hl
    have s3 : IntKind.i64.wrap (a : Int) = a := by simp [IntKind.wrap, IntKind.bits, IntKind.signed]; omega
    have s4 : wrap64 (a : Int) = a := wrap_int (by omega) (by omega)
    have s5 : wrap64 (t + (a : Int)) = t + a := wrap_int (by omega) (by omega)
    clear hl h0 h1 ha
    go_enter Try.func45, Try.ntmps45
    go_wp2
    go_ret
    exact ⟨ret_int s5, rfl⟩
set_option maxRecDepth 100000 in
theorem take_resultP {tmps : Array Value} {w : World} {g : Nat} {cs : Array Value} {q e : Int} (hp : tmps.getD 6 undef = .pointer (some ⟨g, 0, Option.none⟩)) (hq : tmps.getD 7 undef = .int .i64 q) (he : tmps.getD 8 undef = .int .i64 e) (hg : w.heap[g]? = some (.cells cs 25 (0, 0))) (hs : cs.size = 12) :
    (results Try.f18 tmps).run Try.prog w = .ok (.tuple #[.agg cs, .int .i64 q, .int .i64 e]) w := by
  rw [results_cell_two (fn := Try.f18) (p := 6) (u := 7) (v := 8) (ty := 25) rfl, hp, hq, he]
  obtain ⟨fs, hd1⟩ := undEvP
  have h := run_loadVar_row w g 25 25 cs (0, 0) (.struct fs) hg hd1 rfl (by rw [hs]; exact infoEvP)
  simp [asAddr, Result.andThen, h]
end Go.Proofs.Ytodncamohimmmaa

namespace Go.Proofs.Ytodncamohimmmaa
open Go.RowKit Go.Lib Go.Maps Leb

structure RF (w : World) (g h : Nat) (A : Option Addr) (n c tb : Nat) (s : St) (W : World) : Prop where
  bl : Below w.heap.size w W
  rd : RdAt W h A n c s.q tb (.slice Option.none 0 0) s.e
  bg : W.heap[g]? = some (.cells (ecell12 s.x Option.none 0 0) 25 (0, 0))
  gw : w.heap.size ≤ g
  hw : w.heap.size ≤ h
  gh : g ≠ h
section
variable {w : World} {g h : Nat} {A : Option Addr} {n c tb : Nat} {X : List Int} {s : St} {W W' : World}
theorem RF.lt (H : RF w g h A n c tb s W) : g < W.heap.size ∧ h < W.heap.size := ⟨(Array.getElem?_eq_some_iff.1 H.bg).1, H.rd.lt⟩
theorem RF.later (H : RF w g h A n c tb s W) (hb : Below W.heap.size W W') : RF w g h A n c tb s W' := by
  obtain ⟨l1, l2⟩ := H.lt
  exact ⟨below_then H.bl hb, (hb.block _ l2).trans H.rd, (hb.block _ l1).trans H.bg, H.gw, H.hw, H.gh⟩
theorem RF.ev (H : RF w g h A n c tb s W) : EvAt W g s.x Option.none 0 0 := EvAt.row H.bg
theorem RF.holds (H : RF w g h A n c tb s W) (hX : Holds w A n c X) : Holds W A n c X := hX.later H.bl
theorem RF.turn (H : RF w g h A n c tb s W) {S : Nat → Prop} (ha : Alt W W' S) (hS : ∀ j, S j → w.heap.size ≤ j) {s' : St} (hr : RdAt W' h A n c s'.q tb (.slice Option.none 0 0) s'.e) (hg : W'.heap[g]? = some (.cells (ecell12 s'.x Option.none 0 0) 25 (0, 0))) : RF w g h A n c tb s' W' :=
  ⟨below_alt H.bl ha H.bl.size hS, hr, hg, H.gw, H.hw, H.gh⟩
theorem RF.err (H : RF w g h A n c tb s W) (e : Int) : RF w g h A n c tb ⟨s.x, s.q, e, s.t⟩ (W.setCell ⟨h, 4, Option.none⟩ (.int .i64 e)) := by
  refine H.turn (alt_set W ⟨h, 4, Option.none⟩ (.int .i64 e) (S := fun j => j = h) rfl) (fun j e => e ▸ H.hw) ?_ ((heap_setCell_other W ⟨h, 4, Option.none⟩ g _ H.gh).trans H.bg)
  exact heap_setCell_same W h 4 _ _ (.int .i64 e) H.rd
theorem RF.tick (H : RF w g h A n c tb s W) (t : Int) : RF w g h A n c tb ⟨{ s.x with tick := t }, s.q, s.e, s.t⟩ (W.setCell ⟨g, 2, Option.none⟩ (.int .i64 t)) := by
  refine H.turn (alt_set W ⟨g, 2, Option.none⟩ (.int .i64 t) (S := fun j => j = g) rfl) (fun j e => e ▸ H.gw) ((heap_setCell_other W ⟨g, 2, Option.none⟩ h _ (Ne.symm H.gh)).trans H.rd) ?_
  have h9 := heap_setCell_same W g 2 _ _ (.int .i64 t) H.bg
  rw [h9]
  unfold ecell12
  simp
theorem rfc_amount (H : RF w g h A n c tb s W) (hX : Holds w A n c X) (i : Nat) (v0 : Int) (f : Ev → Int → Ev) (hc : (ecell12 s.x Option.none 0 0)[i]? = some (.int .i64 v0)) (he : ∀ v, (ecell12 s.x Option.none 0 0).setIfInBounds i (.int .i64 v) = ecell12 (f s.x v) Option.none 0 0) :
    Calls Try.prog 42 #[.pointer (some ⟨h, 0, Option.none⟩), .pointer (some ⟨g, i, Option.none⟩)] W fun en W' => en = .returned (.tuple #[]) ∧ RF w g h A n c tb (sAm X f s) W' ∧ Alt W W' (fun j => j = h ∨ j = g) := by
  refine (ramount_any h A n c X s.q tb _ s.e g i _ _ v0 W H.rd (H.holds hX) H.bg hc H.gh).mono ?_
  rintro en W' ⟨rfl, hr, hg, ha⟩
  rw [he] at hg
  have hgw := H.gw
  have hhw := H.hw
  exact ⟨rfl, H.turn ha (fun j hj => by omega) hr hg, ha⟩
theorem rfc_number (H : RF w g h A n c tb s W) (hX : Holds w A n c X) (lb : Nat) (hl : w.heap.size ≤ lb) (h1 : lb ≠ g) (h2 : lb ≠ h) (hp : W.heap[lb]? = some (.cells #[.int .u64 0] 23 (0, 0))) :
    Calls Try.prog 44 #[.pointer (some ⟨h, 0, Option.none⟩), .pointer (some ⟨lb, 0, Option.none⟩)] W fun en W' => en = .returned (.tuple #[]) ∧ RF w g h A n c tb ⟨s.x, (rdN X s.q s.e).2.1, (rdN X s.q s.e).2.2, s.t⟩ W' ∧ W'.cell? ⟨lb, 0, Option.none⟩ = some (.int .u64 ((rdN X s.q s.e).1 : Nat)) := by
  refine (rnumber_any h A n c X s.q tb _ s.e lb 0 _ _ W H.rd (H.holds hX) hp rfl h2).mono ?_
  rintro en W' ⟨rfl, hr, hg, ha⟩
  have hhw := H.hw
  refine ⟨rfl, H.turn ha (fun j hj => by omega) hr ((ha.block g H.lt.1 (by have := H.gh; omega)).trans H.bg), ?_⟩
  rw [cell_of_row W' lb 0 _ _ _ hg]
  rfl
theorem RF.start (w : World) (A : Option Addr) (n c tb : Nat) (p : Int) (t : List (List UInt8)) (cs : Array Value) :
    RF w w.heap.size (w.heap.size + 1) A n c tb ⟨zev, p, 0, t⟩ (((w.alloc (.cells (ecell12 zev Option.none 0 0) 25)).alloc (.cells cs 91)).setRow (w.heap.size + 1) #[.slice A n c, .int .i64 p, .pointer (some ⟨tb, 0, Option.none⟩), .slice Option.none 0 0, .int .i64 0]) := by
  have h1 := heap_alloc_new (w.alloc (.cells (ecell12 zev Option.none 0 0) 25)) (.cells cs 91)
  simp only [World.size_alloc] at h1
  have h3 := (Below.heap_alloc (w.alloc (.cells (ecell12 zev Option.none 0 0) 25)) (.cells cs 91) w.heap.size (by simp)).trans (heap_alloc_new w (.cells (ecell12 zev Option.none 0 0) 25))
  exact ⟨below_setRow (below_then (below_box w _) (below_box _ _)) (by omega) _, setRow_heap _ _ _ _ _ _ h1, (setRow_other _ _ _ _ (by omega)).trans h3, Nat.le_refl _, by omega, by omega⟩
theorem RF.was (H : RF w g h A n c tb s W) {b mb : Nat} {T0 L : Nat → Prop} {ks : List (Int × Bool)} {val : Int → Bool → Value} {k : Bk} (hB : BkP w b tb mb T0 L ks val k) (ht : s.t = k.tab) (hs : s.x.hs = []) (wv : Value) :
    RP w b tb mb T0 L ks val k g h A n c wv s Option.none 0 0 (W.setCell ⟨h, 3, Option.none⟩ wv) := by
  have ha := alt_set W ⟨h, 3, Option.none⟩ wv (S := fun j => j = h) rfl
  have hb : Below w.heap.size w (W.setCell ⟨h, 3, Option.none⟩ wv) := below_alt H.bl ha H.bl.size fun j e => e ▸ H.hw
  have hlow := hB.tab.low
  have hgw := H.gw
  have hhw := H.hw
  refine ⟨⟨T0, ?_, fun j hj => .inl hj, fun hg => ?_, fun hh => ?_, ?_, fun q off e => by cases e⟩, alt_below hb T0, ?_, (heap_setCell_other W ⟨h, 3, Option.none⟩ g _ H.gh).trans H.bg, hgw, hhw, H.gh, hB.lt, hB.map.lt, hB.lowL⟩
  · rw [ht]
    exact hB.later hb
  · have := hlow g hg
    omega
  · have := hlow h hh
    omega
  · rw [hs]
    exact hds_empty _ _ _ (Nat.zero_le _) fun _ => rfl
  · exact heap_setCell_same W h 3 _ _ wv H.rd
end
end Go.Proofs.Ytodncamohimmmaa
