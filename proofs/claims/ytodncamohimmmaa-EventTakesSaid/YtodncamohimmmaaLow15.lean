/-
  Texts of one sort, one behind the other: numbers, memory, regions, strings, headers. Conditions: those that each theorem states.
-/
import Derived.Test.YtodncamohimmmaaLow14
import Derived.Test.YtodncamohimmmaaLow16
import Derived.Test.YtodncamohimmmaaEvRefGood
import Derived.BigQuiet

namespace Go.Proofs.Ytodncamohimmmaa
open Go.RowKit Go.Lib Leb

section
variable {w w' w1 : World} {b t : Nat} {T0 T1 : Nat → Prop} {u : Value} {ls : List Ln} {T T' : List (List UInt8)} {tick : Int}
theorem RBk.turned (h : RBk w b t T0 u ls T tick) (hs : RStep w w' t T0 T1 T') : RBk w' b t T1 u ls T' tick := by
  have hlt := h.lt
  refine ⟨(hs.alt.block b hlt h.nbt).trans h.blk, hs.tab, ownsRow_alt h.own hs.alt fun g hg => h.nut g hg, fun hb => ?_, h.nub, fun g hg hb => ?_, fun l hl => ?_⟩
  · rcases hs.new b hb with h1 | h1
    · exact h.nbt h1
    · omega
  · have h2 := (World.ownsRow.lt h.own g hg).2
    rcases hs.new g hb with h1 | h1
    · exact h.nut g hg h1
    · omega
  · have hd := h.hds l hl
    refine ⟨hd.rd.alt hs.alt fun g off e hn hk => hd.off g off e hn (.inr (.inl hk)), fun g off e hn hk => ?_⟩
    rcases hk with hk | hk | hk
    · exact hd.off g off e hn (.inl hk)
    · rcases hs.new g hk with h1 | h1
      · exact hd.off g off e hn (.inr (.inl h1))
      · have h2 := hd.rd
        rw [e] at h2
        have := h2.block hn
        omega
    · exact hd.off g off e hn (.inr (.inr hk))
theorem turned_alt (hs : RStep w w' t T0 T1 T') (b : Nat) (u : Value) : Alt w w' (inB b T0 u) := hs.alt.mono fun _ _ hk => .inr (.inl hk)
theorem turned_new (hs : RStep w w' t T0 T1 T') (b : Nat) (u : Value) : ∀ k, inB b T1 u k → inB b T0 u k ∨ w.heap.size ≤ k := fun k hk => by
  rcases hk with hk | hk | hk
  · exact .inl (.inl hk)
  · exact (hs.new k hk).imp (fun h => .inr (.inl h)) id
  · exact .inl (.inr (.inr hk))

structure BStep (w w' : World) (b t : Nat) (T0 T1 : Nat → Prop) (u u' : Value) (ls' : List Ln) (T' : List (List UInt8)) (tick' : Int) : Prop where
  book : RBk w' b t T1 u' ls' T' tick'
  alt : Alt w w' (inB b T0 u)
  new : ∀ k, inB b T1 u' k → inB b T0 u k ∨ w.heap.size ≤ k
theorem BStep.same (h : RBk w b t T0 u ls T tick) (hb : Below w.heap.size w w') : BStep w w' b t T0 T0 u u ls T tick := ⟨h.later hb, alt_below hb _, fun _ hk => .inl hk⟩
theorem BStep.turn {T2 : Nat → Prop} {u1 : Value} {ls1 : List Ln} {T1' : List (List UInt8)} {k1 : Int} (h : BStep w w1 b t T0 T1 u u1 ls1 T1' k1) (hs : RStep w1 w' t T1 T2 T') : BStep w w' b t T0 T2 u u1 ls1 T' k1 :=
  ⟨h.book.turned hs, h.alt.trans (turned_alt hs b u1) fun j hj hk => (h.new j hk).resolve_right (by omega), fun k hk => by
    rcases turned_new hs b u1 k hk with h1 | h1
    · exact h.new k h1
    · exact .inr (Nat.le_trans h.alt.size h1)⟩
theorem BStep.later {u1 : Value} {ls1 : List Ln} {k1 : Int} (h : BStep w w1 b t T0 T1 u u1 ls1 T' k1) (hb : Below w1.heap.size w1 w') : BStep w w' b t T0 T1 u u1 ls1 T' k1 :=
  ⟨h.book.later hb, h.alt.behind hb, h.new⟩
theorem BStep.told {u1 : Value} {ls1 : List Ln} {T1' : List (List UInt8)} {k1 : Int} {x : Ev} {A : Option Addr} {m : Nat} (h : BStep w w1 b t T0 T1 u u1 ls1 T1' k1) (ht : ToldR w1 b t T1 u1 ls1 T1' x A m w') :
    ∃ u' ls', BStep w w' b t T0 T1 u u' ls' T1' x.tick ∧ (∀ s a, findL ls' s a = lookE (findL ls1) x s a) ∧ ls'.length ≤ ls1.length + 1 := by
  obtain ⟨u', ls', hB, hf, hl, ha, hn, _⟩ := ht
  exact ⟨u', ls', ⟨hB, h.alt.trans ha fun j hj hk => (h.new j hk).resolve_right (by omega), fun k hk => by
    rcases hn k hk with h1 | h1
    · exact h.new k h1
    · exact .inr (Nat.le_trans h.alt.size h1)⟩, hf, hl⟩
theorem HdO.book {A : Option Addr} {n c : Nat} {l : List Hd} {u1 : Value} {ls1 : List Ln} {T1' : List (List UInt8)} {k1 : Int} (hd : HdO w A n c l (inB b T0 u)) (h : BStep w w' b t T0 T1 u u1 ls1 T1' k1) : HdO w' A n c l (inB b T1 u1) := hd.step h.alt h.new
theorem ByO.book {A : Option Addr} {n c : Nat} {X : List Int} {u1 : Value} {ls1 : List Ln} {T1' : List (List UInt8)} {k1 : Int} (hd : ByO w A n c X (inB b T0 u)) (h : BStep w w' b t T0 T1 u u1 ls1 T1' k1) : ByO w' A n c X (inB b T1 u1) := hd.step h.alt h.new
theorem BtO.book {B : Nat} {v : Value} {Y : List Int} {u1 : Value} {ls1 : List Ln} {T1' : List (List UInt8)} {k1 : Int} (hd : BtO w B v Y (inB b T0 u)) (h : BStep w w' b t T0 T1 u u1 ls1 T1' k1) : BtO w' B v Y (inB b T1 u1) := hd.step h.alt h.new
end
end Go.Proofs.Ytodncamohimmmaa

namespace Go.Proofs.Ytodncamohimmmaa
open Go.RowKit Go.Lib Go.Maps Leb

section
variable {w w' w1 : World} {b t : Nat} {T0 T1 : Nat → Prop} {u u' : Value} {ls ls' : List Ln} {T T' : List (List UInt8)} {tick : Int}
theorem BStep.ahead (hb : Below w.heap.size w w1) (k : BStep w1 w' b t T0 T1 u u' ls' T' tick) : BStep w w' b t T0 T1 u u' ls' T' tick :=
  ⟨k.book, Alt.ahead hb k.alt, fun j hj => (k.new j hj).imp id fun h => Nat.le_trans hb.size h⟩
end

structure PutS (w1 : World) (b t : Nat) (T0 : Nat → Prop) (u : Value) (ls : List Ln) (tick : Int) (g : Nat) (x : Ev) (A : Option Addr) (m c : Nat) (T : List (List UInt8)) (Y : List Int) (out : Value) (W : World) : Prop where
  ex : ∃ T1, BStep w1 W b t T0 T1 u u ls T tick ∧ BtO W w1.heap.size out Y (inB b T1 u) ∧ HdO W A m c x.hs (inB b T1 u)
  blk : W.heap[g]? = some (.cells (ecell12 x A m c) 25 (0, 0))
  low : g < w1.heap.size
  apart : ¬ inB b T0 u g
  lines : ∀ l ∈ ls, ∀ k off, l.A = some ⟨k, off, Option.none⟩ → 0 < l.n → k < w1.heap.size
  hlow : ∀ k off, A = some ⟨k, off, Option.none⟩ → 0 < m → k < w1.heap.size

section
variable {w1 W W' : World} {b t : Nat} {T0 : Nat → Prop} {u : Value} {ls : List Ln} {tick : Int} {g : Nat} {x : Ev} {A : Option Addr} {m c : Nat} {T T' : List (List UInt8)} {Y Y' Z : List Int} {out out' : Value}
theorem PutS.size (h : PutS w1 b t T0 u ls tick g x A m c T Y out W) : w1.heap.size ≤ W.heap.size := by
  obtain ⟨T1, hB, _⟩ := h.ex
  exact hB.alt.size
theorem PutS.ev (h : PutS w1 b t T0 u ls tick g x A m c T Y out W) : EvAt W g x A m c := EvAt.row h.blk
theorem PutS.none (h : PutS w1 b t T0 u ls tick g x A m c T Y out W) : Below ({ w1 with heap := #[] } : World).heap.size { w1 with heap := #[] } W := by
  obtain ⟨T1, hB, _⟩ := h.ex
  exact ⟨hB.alt.os, hB.alt.tape, hB.alt.output, Nat.zero_le _, fun k hk => absurd hk (by simp)⟩
theorem PutS.off {T1 : Nat → Prop} {T : List (List UInt8)} (h : PutS w1 b t T0 u ls tick g x A m c T Y out W) (hB : BStep w1 W b t T0 T1 u u ls T' tick) : ¬ inB b T1 u g := fun hg => by
  have h1 := h.low
  rcases hB.new g hg with h2 | h2
  · exact h.apart h2
  · omega
theorem PutS.later (h : PutS w1 b t T0 u ls tick g x A m c T Y out W) (hb : Below W.heap.size W W') : PutS w1 b t T0 u ls tick g x A m c T Y out W' := by
  obtain ⟨T1, hB, hO, hH⟩ := h.ex
  exact ⟨⟨T1, hB.later hb, hO.later hb, hH.later hb⟩, (hb.block g (by have := h.low; have := h.size; omega)).trans h.blk, h.low, h.apart, h.lines, h.hlow⟩
theorem PutS.slice (h : PutS w1 b t T0 u ls tick g x A m c T Y out W) : ∃ B k, out = .slice B Y.length k ∧ Holds W B Y.length k Y := by
  obtain ⟨T1, hB, hO, hH⟩ := h.ex
  obtain ⟨B, k, e, hX, _⟩ := hO.slice
  exact ⟨B, k, e, hX⟩
theorem PutS.book (h : PutS w1 b t T0 u ls tick g x A m c T Y out W) : W.cell? ⟨b, 0, Option.none⟩ = some (.pointer (some ⟨t, 0, Option.none⟩)) ∧ W.cell? ⟨b, 1, Option.none⟩ = some (.int .i64 tick) := by
  obtain ⟨T1, hB, hO, hH⟩ := h.ex
  exact ⟨hB.book.cell.1, hB.book.cell.2.1⟩
theorem PutS.app (h : PutS w1 b t T0 u ls tick g x A m c T Y out W) (hown : Owns W' w1.heap.size 5 out' Y') (hg : W.grownBy W' out.ownBlock) (hat : out'.ownBlock = out.ownBlock ∨ out'.ownBlock = some W.heap.size) :
    PutS w1 b t T0 u ls tick g x A m c T Y' out' W' := by
  obtain ⟨T1, hB, hO, hH⟩ := h.ex
  have hlt : ∀ k, out.ownBlock = some k → w1.heap.size ≤ k := fun k e => (hO.own.2.lt k e).1
  have ha : Alt W W' (fun k => out.ownBlock = some k) := alt_grown hg fun _ hk => hk
  have hsz := h.size
  refine ⟨⟨T1, ⟨hB.book.alt ha (fun k hk e => hO.off k e hk) (fun l hl k off e hn hk => ?_), hB.alt.trans ha fun j hj e => by have := hlt j e; omega, hB.new⟩, ⟨hown, fun k e hs => ?_⟩, hH.grown hg fun k off e hn e2 => ?_⟩, (ha.block g ?_ (fun e => ?_)).trans h.blk, h.low, h.apart, h.lines, h.hlow⟩
  · have h1 := h.lines l hl k off e hn
    have h2 := hlt k hk
    omega
  · rcases hat with h1 | h1
    · exact hO.off k (by rw [← h1, e]) hs
    · rw [h1] at e
      injection e with e
      have := hB.book.low k hs
      omega
  · have h1 := h.hlow k off e hn
    have h2 := hlt k e2
    omega
  · have h2 := h.low
    omega
  · have h1 := hlt g e
    have h2 := h.low
    omega
theorem PutS.turn (h : PutS w1 b t T0 u ls tick g x A m c T Y out W) {T1 T2 : Nat → Prop} (hB : BStep w1 W b t T0 T1 u u ls T tick) (hH : HdO W A m c x.hs (inB b T1 u)) (hs : RStep W W' t T1 T2 T') (hown : Owns W' W.heap.size 5 out' Y') (hof : OffV T2 out') :
    PutS w1 b t T0 u ls tick g x A m c T' Y' out' W' := by
  have hsz := h.size
  have hl := h.low
  have hbl := hB.book.lt
  have hown2 := hown.2.lt
  refine ⟨⟨T2, hB.turn hs, ⟨hown.low hsz, fun k e hk => ?_⟩, hH.step (turned_alt hs b u) (turned_new hs b u)⟩, ((turned_alt hs b u).block g (by omega) (h.off hB)).trans h.blk, h.low, h.apart, h.lines, h.hlow⟩
  have h1 := (hown2 k e).1
  rcases hk with hk | hk | hk
  · omega
  · exact hof k e hk
  · have h2 := hB.book.low k (.inr (.inr hk))
    omega
theorem PutS.callPut (h : PutS w1 b t T0 u ls tick g x A m c T Y out W) (p : ByteArray) (hT : T.length ≤ 1000000) (hn : Y.length + p.data.toList.length ≤ 140737488000000) :
    Calls Try.prog 38 #[.pointer (some ⟨t, 0, Option.none⟩), out, .string p] W fun e W' => ∃ r, e = .returned r ∧ PutS w1 b t T0 u ls tick g x A m c (putL T p.data.toList) (Y ++ putB T p.data.toList) r W' := by
  obtain ⟨T1, hB, hO, hH⟩ := h.ex
  obtain ⟨B, k, rfl, hX, _⟩ := hO.slice
  have hc := putR_any t T T1 B Y.length k Y p.data.toList W hB.book.tab hT hX hn
  rw [mk_of] at hc
  refine hc.mono ?_
  rintro e W' ⟨r, T2, rfl, hown, hof, hs⟩
  exact ⟨r, rfl, h.turn hB hH hs hown hof⟩
theorem PutS.callDelta (h : PutS w1 b t T0 u ls tick g x A m c T Y out W) {Aw : Option Addr} {nw cw : Nat} {was : List Hd} (hw : Hds W Aw nw cw was) (hT : T.length ≤ 300000) (hn : Y.length ≤ 1000000000) (hnw : nw ≤ 1000) (hm : m ≤ 1000) (hsh : Short 2048 x.hs) :
    Calls Try.prog 39 #[out, .pointer (some ⟨t, 0, Option.none⟩), .slice Aw nw cw, .slice A m c] W fun e W' => ∃ r, e = .returned r ∧ PutS w1 b t T0 u ls tick g x A m c (dputL T was x.hs) (Y ++ dputB T was x.hs) r W' := by
  obtain ⟨T1, hB, hO, hH⟩ := h.ex
  obtain ⟨B, k, rfl, hX, _⟩ := hO.slice
  refine (refDput_any t T T1 B Y.length k Y Aw nw cw was A m c x.hs W hB.book.tab hT hX hn hw hH.rd (fun k off e h0 hk => hH.off k off e h0 (.inr (.inl hk))) hnw hm hsh).mono ?_
  rintro e W' ⟨r, T2, rfl, hown, hof, hs⟩
  exact ⟨r, rfl, h.turn hB hH hs hown hof⟩
theorem PutS.callList (h : PutS w1 b t T0 u ls tick g x A m c T Y out W) (s : Int) (a : Bool) (hl : ls.length ≤ 1000000) :
    Calls Try.prog 40 #[.pointer (some ⟨b, 0, Option.none⟩), .int .i64 s, .bool a] W fun e W' => (∃ Aw nw cw, e = .returned (.slice Aw nw cw) ∧ Hds W Aw nw cw (findL ls s a)) ∧ W = W' := by
  obtain ⟨T1, hB, hO, hH⟩ := h.ex
  refine (refList_any b t T1 u ls T tick s a W hB.book hl).mono ?_
  rintro e W' ⟨Aw, nw, cw, rfl, hd, he⟩
  exact ⟨⟨Aw, nw, cw, rfl, hd.rd⟩, he⟩

def PutEE (w : World) (b t : Nat) (T0 : Nat → Prop) (u : Value) (ls : List Ln) (x : Ev) (A : Option Addr) (m : Nat) (T : List (List UInt8)) (Y : List Int) (r : Value) (w' : World) : Prop :=
  ∃ T1 u' ls', BStep w w' b t T0 T1 u u' ls' T x.tick ∧ BtO w' w.heap.size r Y (inB b T1 u') ∧ (∀ s a, findL ls' s a = lookE (findL ls) x s a) ∧ ls'.length ≤ ls.length + 1 ∧ ∀ l ∈ ls', (∃ l0 ∈ ls, l.A = l0.A ∧ l.n = l0.n) ∨ (l.A = A ∧ l.n = m)
theorem PutS.callTold (h : PutS w1 b t T0 u ls tick g x A m c T Y out W) (hl : ls.length ≤ 1000000) :
    Calls Try.prog 41 #[.pointer (some ⟨b, 0, Option.none⟩), evv x A m c] W fun e W' => e = .returned (.tuple #[]) ∧ PutEE w1 b t T0 u ls x A m T Y out W' := by
  obtain ⟨T1, hB, hO, hH⟩ := h.ex
  refine (refTold_any b t T1 u ls T tick x A m c W hB.book hl hH).mono ?_
  rintro e W' ⟨rfl, ht⟩
  obtain ⟨u', ls', hB2, hf, hln, ha, hn, hm⟩ := ht
  refine ⟨rfl, T1, u', ls', ⟨hB2, hB.alt.trans ha fun j hj hk => (hB.new j hk).resolve_right (by omega), fun k hk => ?_⟩, hO.step ha hn, hf, hln, hm⟩
  rcases hn k hk with h1 | h1
  · exact hB.new k h1
  · exact .inr (Nat.le_trans hB.alt.size h1)
theorem PutEE.ahead {w : World} {r : Value} (hb : Below w.heap.size w w1) (h : PutEE w1 b t T0 u ls x A m T Y r W) : PutEE w b t T0 u ls x A m T Y r W := by
  obtain ⟨T1, u', ls', hB, hO, hf, hl, hm⟩ := h
  exact ⟨T1, u', ls', hB.ahead hb, ⟨hO.own.low hb.size, hO.off⟩, hf, hl, hm⟩
theorem PutEE.later {w : World} {r : Value} (h : PutEE w b t T0 u ls x A m T Y r W) (hb : Below W.heap.size W W') : PutEE w b t T0 u ls x A m T Y r W' := by
  obtain ⟨T1, u', ls', hB, hO, hf, hl, hm⟩ := h
  exact ⟨T1, u', ls', hB.later hb, hO.later hb, hf, hl, hm⟩
end

structure IQF (K : Nat → Value → World → Prop) (E1 E2 : Value → World → Prop) (u : Value) (i1 s1 j1 t1 i2 s2 j2 t2 : Nat) (D : Nat → Prop) (a : Act) (w : World) : Prop where
  n1 : ¬ D i1 → ¬ D i2 → K 0 u w
  d1 : D i1 → ¬ D i2 → K 1 (a.eval (.tmp s1)) w
  d2 : D i2 → K 2 (a.eval (.tmp s2)) w
  e1 : D j1 → ¬ D i1 → E1 (a.eval (.tmp t1)) w
  e2 : D j2 → ¬ D i2 → E2 (a.eval (.tmp t2)) w
section
variable {K : Nat → Value → World → Prop} {E1 E2 : Value → World → Prop} {u : Value} {i1 s1 j1 t1 i2 s2 j2 t2 : Nat} {D : Nat → Prop} {a : Act} {w w' : World}
theorem IQF.start (h : K 0 u w) : IQF K E1 E2 u i1 s1 j1 t1 i2 s2 j2 t2 (fun _ => False) a w := ⟨fun _ _ => h, fun h => h.elim, fun h => h.elim, fun h => h.elim, fun h => h.elim⟩
theorem IQF.get (h : IQF K E1 E2 u i1 s1 j1 t1 i2 s2 j2 t2 D a w) : ∃ k v, K k v w := by
  by_cases h2 : D i2
  · exact ⟨_, _, h.d2 h2⟩
  · by_cases h1 : D i1
    · exact ⟨_, _, h.d1 h1 h2⟩
    · exact ⟨_, _, h.n1 h1 h2⟩
theorem IQF.pure (h : IQF K E1 E2 u i1 s1 j1 t1 i2 s2 j2 t2 D a w) {i s : Nat} (z : Value) (hi : i ≠ i1 ∧ i ≠ i2 ∧ i ≠ j1 ∧ i ≠ j2) (hs : s ≠ s1 ∧ s ≠ s2 ∧ s ≠ t1 ∧ s ≠ t2) :
    IQF K E1 E2 u i1 s1 j1 t1 i2 s2 j2 t2 (fun j => D j ∨ j = i) (a.put (some s) z) w := by
  refine ⟨fun h1 h2 => h.n1 (fun d => h1 (.inl d)) (fun d => h2 (.inl d)), fun h1 h2 => ?_, fun h1 => ?_, fun h1 h2 => ?_, fun h1 h2 => ?_⟩
  · rw [eval_put_other _ _ (Ne.symm hs.1)]
    exact h.d1 (h1.resolve_right (Ne.symm hi.1)) (fun d => h2 (.inl d))
  · rw [eval_put_other _ _ (Ne.symm hs.2.1)]
    exact h.d2 (h1.resolve_right (Ne.symm hi.2.1))
  · rw [eval_put_other _ _ (Ne.symm hs.2.2.1)]
    exact h.e1 (h1.resolve_right (Ne.symm hi.2.2.1)) (fun d => h2 (.inl d))
  · rw [eval_put_other _ _ (Ne.symm hs.2.2.2)]
    exact h.e2 (h1.resolve_right (Ne.symm hi.2.2.2)) (fun d => h2 (.inl d))
theorem IQF.call1 (h : IQF K E1 E2 u i1 s1 j1 t1 i2 s2 j2 t2 D a w) (hK : ∀ k v, K k v w → K k v w') (hE : ∀ v, E2 v w → E2 v w') {r : Value} (hr : E1 r w') (hsz : t1 < a.tmps.size) (hj : j1 ≠ i1 ∧ j1 ≠ i2 ∧ j1 ≠ j2) (hs : t1 ≠ s1 ∧ t1 ≠ s2 ∧ t1 ≠ t2) :
    IQF K E1 E2 u i1 s1 j1 t1 i2 s2 j2 t2 (fun j => D j ∨ j = j1) (a.put (some t1) r) w' := by
  refine ⟨fun h1 h2 => hK _ _ (h.n1 (fun d => h1 (.inl d)) (fun d => h2 (.inl d))), fun h1 h2 => ?_, fun h1 => ?_, fun h1 h2 => ?_, fun h1 h2 => ?_⟩
  · rw [eval_put_other _ _ (Ne.symm hs.1)]
    exact hK _ _ (h.d1 (h1.resolve_right (Ne.symm hj.1)) (fun d => h2 (.inl d)))
  · rw [eval_put_other _ _ (Ne.symm hs.2.1)]
    exact hK _ _ (h.d2 (h1.resolve_right (Ne.symm hj.2.1)))
  · rw [eval_put_same _ _ _ hsz]
    exact hr
  · rw [eval_put_other _ _ (Ne.symm hs.2.2)]
    exact hE _ (h.e2 (h1.resolve_right (Ne.symm hj.2.2)) (fun d => h2 (.inl d)))
theorem IQF.call2 (h : IQF K E1 E2 u i1 s1 j1 t1 i2 s2 j2 t2 D a w) (hK : ∀ k v, K k v w → K k v w') (hE : ∀ v, E1 v w → E1 v w') {r : Value} (hr : E2 r w') (hsz : t2 < a.tmps.size) (hj : j2 ≠ i1 ∧ j2 ≠ i2 ∧ j2 ≠ j1) (hs : t2 ≠ s1 ∧ t2 ≠ s2 ∧ t2 ≠ t1) :
    IQF K E1 E2 u i1 s1 j1 t1 i2 s2 j2 t2 (fun j => D j ∨ j = j2) (a.put (some t2) r) w' := by
  refine ⟨fun h1 h2 => hK _ _ (h.n1 (fun d => h1 (.inl d)) (fun d => h2 (.inl d))), fun h1 h2 => ?_, fun h1 => ?_, fun h1 h2 => ?_, fun h1 h2 => ?_⟩
  · rw [eval_put_other _ _ (Ne.symm hs.1)]
    exact hK _ _ (h.d1 (h1.resolve_right (Ne.symm hj.1)) (fun d => h2 (.inl d)))
  · rw [eval_put_other _ _ (Ne.symm hs.2.1)]
    exact hK _ _ (h.d2 (h1.resolve_right (Ne.symm hj.2.1)))
  · rw [eval_put_other _ _ (Ne.symm hs.2.2)]
    exact hE _ (h.e1 (h1.resolve_right (Ne.symm hj.2.2)) (fun d => h2 (.inl d)))
  · rw [eval_put_same _ _ _ hsz]
    exact hr
theorem IQF.first {r : Value} (hr : K 1 r w') (hn2 : ¬ D i2) (hnj : ¬ D j2) (hsz : s1 < a.tmps.size) (h12 : i1 ≠ i2) (h1j : i1 ≠ j2) : IQF K E1 E2 u i1 s1 j1 t1 i2 s2 j2 t2 (fun j => D j ∨ j = i1) (a.put (some s1) r) w' := by
  refine ⟨fun h1 _ => absurd (.inr rfl) h1, fun _ _ => ?_, fun h1 => (h1.elim hn2 fun e => h12 e.symm).elim, fun _ h2 => absurd (.inr rfl) h2, fun h1 _ => (h1.elim hnj fun e => h1j e.symm).elim⟩
  rw [eval_put_same _ _ _ hsz]
  exact hr
theorem IQF.second {r : Value} (hr : K 2 r w') (hd1 : D i1) (hsz : s2 < a.tmps.size) : IQF K E1 E2 u i1 s1 j1 t1 i2 s2 j2 t2 (fun j => D j ∨ j = i2) (a.put (some s2) r) w' := by
  refine ⟨fun _ h2 => absurd (.inr rfl) h2, fun _ h2 => absurd (.inr rfl) h2, fun _ => ?_, fun _ h2 => absurd (.inl hd1) h2, fun _ h2 => absurd (.inr rfl) h2⟩
  rw [eval_put_same _ _ _ hsz]
  exact hr
end
def pick3 {α : Type} (k : Nat) (x y z : α) : α := match k with | 0 => x | 1 => y | _ => z
def PutK (w1 : World) (b t : Nat) (T0 : Nat → Prop) (u : Value) (ls : List Ln) (tick : Int) (g : Nat) (x : Ev) (A : Option Addr) (m c : Nat) (T1 T2 T3 : List (List UInt8)) (Y1 Y2 Y3 : List Int) (k : Nat) (out : Value) (W : World) : Prop :=
  PutS w1 b t T0 u ls tick g x A m c (pick3 k T1 T2 T3) (pick3 k Y1 Y2 Y3) out W
def ReadsB (Z : List Int) (v : Value) (W : World) : Prop := ∃ A k, v = .slice A Z.length k ∧ Holds W A Z.length k Z
def ReadsHs (l : List Hd) (v : Value) (W : World) : Prop := ∃ A n k, v = .slice A n k ∧ Hds W A n k l
theorem ReadsB.later {Z : List Int} {v : Value} {W W' : World} (h : ReadsB Z v W) (hb : Below W.heap.size W W') : ReadsB Z v W' := by
  obtain ⟨A, k, e, hX⟩ := h
  exact ⟨A, k, e, hX.later hb⟩
theorem ReadsHs.later {l : List Hd} {v : Value} {W W' : World} (h : ReadsHs l v W) (hb : Below W.heap.size W W') : ReadsHs l v W' := by
  obtain ⟨A, n, k, e, hX⟩ := h
  exact ⟨A, n, k, e, hX.later hb⟩
theorem Owns.reads {W : World} {B : Nat} {v : Value} {Z : List Int} (h : Owns W B 5 v Z) : ReadsB Z v W := by
  obtain ⟨A, k, e, hX⟩ := h.holds
  exact ⟨A, k, e, hX⟩
end Go.Proofs.Ytodncamohimmmaa

namespace Go.Proofs.Ytodncamohimmmaa
open Go.RowKit Go.Lib Go.Maps Leb

set_option maxRecDepth 100000 in
theorem run_fieldE_2 (w : World) (g : Nat) : (Instr.fieldAt 25 (.pointer (some ⟨g, 0, Option.none⟩)) 2).run Try.prog w = .ok (.pointer (some ⟨g, 2, Option.none⟩)) w := by go_simp
set_option maxRecDepth 100000 in
theorem run_fieldE_3 (w : World) (g : Nat) : (Instr.fieldAt 25 (.pointer (some ⟨g, 0, Option.none⟩)) 3).run Try.prog w = .ok (.pointer (some ⟨g, 3, Option.none⟩)) w := by go_simp
set_option maxRecDepth 100000 in
theorem run_fieldE_4 (w : World) (g : Nat) : (Instr.fieldAt 25 (.pointer (some ⟨g, 0, Option.none⟩)) 4).run Try.prog w = .ok (.pointer (some ⟨g, 4, Option.none⟩)) w := by go_simp
set_option maxRecDepth 100000 in
theorem run_fieldE_6 (w : World) (g : Nat) : (Instr.fieldAt 25 (.pointer (some ⟨g, 0, Option.none⟩)) 6).run Try.prog w = .ok (.pointer (some ⟨g, 6, Option.none⟩)) w := by go_simp
set_option maxRecDepth 100000 in
theorem run_fieldE_10 (w : World) (g : Nat) : (Instr.fieldAt 25 (.pointer (some ⟨g, 0, Option.none⟩)) 10).run Try.prog w = .ok (.pointer (some ⟨g, 10, Option.none⟩)) w := by go_simp
set_option maxRecDepth 100000 in
theorem run_fieldB0 (w : World) (b : Nat) : (Instr.fieldAt 73 (.pointer (some ⟨b, 0, Option.none⟩)) 0).run Try.prog w = .ok (.pointer (some ⟨b, 0, Option.none⟩)) w := by go_simp
set_option maxRecDepth 100000 in
theorem run_fieldB1 (w : World) (b : Nat) : (Instr.fieldAt 73 (.pointer (some ⟨b, 0, Option.none⟩)) 1).run Try.prog w = .ok (.pointer (some ⟨b, 1, Option.none⟩)) w := by go_simp
set_option maxRecDepth 100000 in
theorem run_loadT (w : World) (b k t : Nat) (h : w.cell? ⟨b, k, Option.none⟩ = some (.pointer (some ⟨t, 0, Option.none⟩))) : (Instr.loadAt 67 (.pointer (some ⟨b, k, Option.none⟩))).run Try.prog w = .ok (.pointer (some ⟨t, 0, Option.none⟩)) w := by go_simp
set_option maxRecDepth 100000 in
theorem run_build0B (w : World) : (Instr.buildSlice 43 0 #[]).run Try.prog w = .ok (.slice (some ⟨w.heap.size, 0, Option.none⟩) 0 0) (w.alloc (.cells #[] 5)) := by go_simp
set_option maxRecDepth 100000 in
theorem run_build1B (w : World) (a : Int) : (Instr.buildSlice 43 1 #[(0, .int .u8 a)]).run Try.prog w = .ok (.slice (some ⟨w.heap.size, 0, Option.none⟩) 1 1) (w.alloc (.cells #[.int .u8 a] 5)) := by go_simp
set_option maxRecDepth 100000 in
theorem run_conv8 (w : World) (x : Int) (h0 : 0 ≤ x) (h : x ≤ 255) : (convert 3 5 (.int .i64 x)).run Try.prog w = .ok (.int .u8 x) w := by
  have e : IntKind.u8.wrap x = x := by simp [IntKind.wrap, IntKind.bits, IntKind.signed]; omega
  go_simp
set_option maxRecDepth 100000 in
theorem run_convU (w : World) (x : Int) (h0 : 0 ≤ x) (h : x ≤ 9223372036854775807) : (convert 3 23 (.int .i64 x)).run Try.prog w = .ok (.int .u64 x) w := by
  have e : IntKind.u64.wrap x = x := by simp [IntKind.wrap, IntKind.bits, IntKind.signed]; omega
  go_simp
set_option maxRecDepth 100000 in
theorem run_subI {x y : Operand} (w : World) (p q r : Int) (h : p - q = r) (h0 : -9223372036854775808 ≤ r) (h1 : r ≤ 9223372036854775807) : (do eqGuard .sub 3 x y (.int .i64 p) (.int .i64 q); binOp .sub 3 (.int .i64 p) (.int .i64 q) : Sem Value).run Try.prog w = .ok (.int .i64 r) w := by
  subst h
  have e : IntKind.i64.wrap (p - q) = p - q := IntWalk.i64_in _ ⟨by omega, by omega⟩
  go_simp

section
variable {w1 W : World} {b t : Nat} {T0 : Nat → Prop} {u : Value} {ls : List Ln} {tick : Int} {g : Nat} {x : Ev} {A : Option Addr} {m c : Nat} {T : List (List UInt8)} {Y : List Int} {out : Value}
theorem PutS.start (h : RBk w1 b t T0 u ls T tick) (hx : HdO w1 A m c x.hs (inB b T0 u)) (he : w1.heap[g]? = some (.cells (ecell12 x A m c) 25 (0, 0))) (hg : g < w1.heap.size) (hn : ¬ inB b T0 u g) (hb : Below w1.heap.size w1 W) (ho : Owns W w1.heap.size 5 out Y) : PutS w1 b t T0 u ls tick g x A m c T Y out W := by
  refine ⟨⟨T0, BStep.same h hb, ⟨ho, fun k e hk => ?_⟩, hx.later hb⟩, (hb.block g hg).trans he, hg, hn, fun l hl k off e hn => ?_, fun k off e hn => ?_⟩
  · have h1 := (ho.2.lt k e).1
    have h2 := h.low k hk
    omega
  · have h1 := (h.hds l hl).rd
    rw [e] at h1
    exact h1.block hn
  · have h1 := hx.rd
    rw [e] at h1
    exact h1.block hn
theorem PutS.own (h : PutS w1 b t T0 u ls tick g x A m c T Y out W) : Owns W w1.heap.size 5 out Y := by
  obtain ⟨T1, hB, hO, hH⟩ := h.ex
  exact hO.own
theorem iqf_ev {T1 T2 T3 : List (List UInt8)} {Y1 Y2 Y3 : List Int} {E1 E2 : Value → World → Prop} {ov : Value} {i1 s1 j1 t1 i2 s2 j2 t2 : Nat} {D : Nat → Prop} {a : Act} (h : IQF (PutK w1 b t T0 u ls tick g x A m c T1 T2 T3 Y1 Y2 Y3) E1 E2 ov i1 s1 j1 t1 i2 s2 j2 t2 D a W) : EvAt W g x A m c := by
  obtain ⟨k, v, hk⟩ := h.get
  exact PutS.ev hk
theorem iqf_book {T1 T2 T3 : List (List UInt8)} {Y1 Y2 Y3 : List Int} {E1 E2 : Value → World → Prop} {ov : Value} {i1 s1 j1 t1 i2 s2 j2 t2 : Nat} {D : Nat → Prop} {a : Act} (h : IQF (PutK w1 b t T0 u ls tick g x A m c T1 T2 T3 Y1 Y2 Y3) E1 E2 ov i1 s1 j1 t1 i2 s2 j2 t2 D a W) : W.cell? ⟨b, 0, Option.none⟩ = some (.pointer (some ⟨t, 0, Option.none⟩)) ∧ W.cell? ⟨b, 1, Option.none⟩ = some (.int .i64 tick) := by
  obtain ⟨k, v, hk⟩ := h.get
  exact PutS.book hk
end
section
variable {P : Program} {ops : Array Oper} {Q : Exit → Act → World → Prop} {i : Nat} {o : Oper} {a : Act} {w : World} {K : Act → World → Prop}
theorem wpOp_call4e (ho : ops[i]? = some o) (hw : Region.wanted o (yielded ops a.tmps) = true) (f : FuncId) (x y z z' : Operand) (ts : Array TypeId) (hop : o.op = .call { callee := .value (.func f), args := #[x, y, z, z'], argTypes := ts }) (u u' u'' u3 : Value) (hx : a.eval x = u) (hy : a.eval y = u') (hz : a.eval z = u'') (hz' : a.eval z' = u3)
    {R : Ending → World → Prop} (hcf : (callFunc f #[u, u', u'', u3]).run P w = .ok (.enter f #[u, u', u'', u3]) w) (hc : Calls P f #[u, u', u'', u3] w R) (hK : ∀ e w', R e w' → ∃ v, e = .returned v ∧ K (a.put o.dst v) w') : wpOp P ops Q i K a w :=
  wpOp_call ho hw f #[u, u', u'', u3] (by
    subst hx
    subst hy
    subst hz
    subst hz'
    unfold execOp
    simp only [hop, resolve, Act.eval, Deferred.ofValue, invoke, Sem.run_bind, Sem.run_pure, Result.andThen_ok, List.map_toArray, List.map_cons, List.map_nil, Array.append_empty]
    exact hcf) hc hK
end
theorem undEv : ∃ fs, Try.prog.underlying 25 = some (.struct fs) := ⟨_, Try.underlying25⟩
theorem infoEv21 : (Try.prog.info? 25).map (·.size) = some 12 := by kernel_rfl
theorem enters_bytes21 (vs : Array Value) (w : World) : (callFunc 37 vs).run Try.prog w = .ok (.enter 37 vs) w := by kernel_rfl
theorem enters_list21 (vs : Array Value) (w : World) : (callFunc 40 vs).run Try.prog w = .ok (.enter 40 vs) w := by kernel_rfl
theorem enters_dput21 (vs : Array Value) (w : World) : (callFunc 39 vs).run Try.prog w = .ok (.enter 39 vs) w := by kernel_rfl

structure BX (B : Nat) (X : List Int) (kd : Int) (D : Nat → Prop) (a : Act) (w : World) : Prop where
  low : B ≤ w.heap.size
  e0 : D 0 → ¬ D 2 → Owns w B 5 (a.eval (.tmp 19)) []
  e2 : D 2 → Owns w B 5 (a.eval (.tmp 21)) X
  e6 : D 6 → ∃ g6, a.eval (.tmp 25) = .slice (some ⟨g6, 0, Option.none⟩) 1 1 ∧ Holds w (some ⟨g6, 0, Option.none⟩) 1 1 [kd] ∧ (D 0 → ¬ D 2 → (a.eval (.tmp 19)).ownBlock ≠ some g6)
section
variable {B : Nat} {X : List Int} {kd : Int} {D : Nat → Prop} {a : Act} {w w' : World}
theorem BX.start (h : B ≤ w.heap.size) : BX B X kd (fun _ => False) a w := ⟨h, fun h => h.elim, fun h => h.elim, fun h => h.elim⟩
theorem BX.pure (h : BX B X kd D a w) {i s : Nat} (z : Value) (hi : i ≠ 0 ∧ i ≠ 2 ∧ i ≠ 6) (hs : s ≠ 19 ∧ s ≠ 21 ∧ s ≠ 25) : BX B X kd (fun j => D j ∨ j = i) (a.put (some s) z) w := by
  refine ⟨h.low, fun h1 h2 => ?_, fun h1 => ?_, fun h1 => ?_⟩
  · rw [eval_put_other _ _ (Ne.symm hs.1)]
    exact h.e0 (h1.resolve_right (Ne.symm hi.1)) (fun d => h2 (.inl d))
  · rw [eval_put_other _ _ (Ne.symm hs.2.1)]
    exact h.e2 (h1.resolve_right (Ne.symm hi.2.1))
  · obtain ⟨g6, e, hH, hne⟩ := h.e6 (h1.resolve_right (Ne.symm hi.2.2))
    refine ⟨g6, by rw [eval_put_other _ _ (Ne.symm hs.2.2)]; exact e, hH, fun h3 h4 => ?_⟩
    rw [eval_put_other _ _ (Ne.symm hs.1)]
    exact hne (h3.resolve_right (Ne.symm hi.1)) (fun d => h4 (.inl d))
theorem BX.op0 (h : BX B X kd D a w) (hn2 : ¬ D 2) (hsz : 19 < a.tmps.size) : BX B X kd (fun j => D j ∨ j = 0) (a.put (some 19) (.slice (some ⟨w.heap.size, 0, Option.none⟩) 0 0)) (w.alloc (.cells #[] 5)) := by
  have hb := below_box w (.cells #[] 5)
  refine ⟨Nat.le_trans h.low hb.size, fun _ _ => ?_, fun h1 => ((h1.resolve_right (by decide)) |> hn2).elim, fun h1 => ?_⟩
  · rw [eval_put_same _ _ _ hsz]
    exact owns_lit w B 5 #[] [] rfl Bytes.nil (by simp) h.low
  · obtain ⟨g6, e, hH, _⟩ := h.e6 (h1.resolve_right (by decide))
    refine ⟨g6, by rw [eval_put_other _ _ (by decide)]; exact e, hH.later hb, fun _ _ => ?_⟩
    rw [eval_put_same _ _ _ hsz]
    intro e2
    have h2 := hH.block (by decide)
    have h3 : w.heap.size = g6 := by simpa [Value.ownBlock] using e2
    omega
theorem BX.op2 (h : BX B X kd D a w) (hd0 : D 0) (hn2 : ¬ D 2) {r : Value} (hown : Owns w' B 5 r X) (hg : w.grownBy w' (a.eval (.tmp 19)).ownBlock) (hsz : 21 < a.tmps.size) : BX B X kd (fun j => D j ∨ j = 2) (a.put (some 21) r) w' := by
  refine ⟨Nat.le_trans h.low hg.size, fun _ h2 => absurd (.inr rfl) h2, fun _ => ?_, fun h1 => ?_⟩
  · rw [eval_put_same _ _ _ hsz]
    exact hown
  · obtain ⟨g6, e, hH, hne⟩ := h.e6 (h1.resolve_right (by decide))
    refine ⟨g6, by rw [eval_put_other _ _ (by decide)]; exact e, hH.alt (alt_grown hg (S := fun k => (a.eval (.tmp 19)).ownBlock = some k) fun _ hk => hk) (fun k off e2 _ hk => ?_), fun _ h4 => absurd (.inr rfl) h4⟩
    injection e2 with e2
    injection e2 with e3 _
    exact hne hd0 hn2 (by rw [e3]; exact hk)
theorem BX.op6 (h : BX B X kd D a w) (hk : 0 ≤ kd ∧ kd ≤ 255) (hsz : 25 < a.tmps.size) : BX B X kd (fun j => D j ∨ j = 6) (a.put (some 25) (.slice (some ⟨w.heap.size, 0, Option.none⟩) 1 1)) (w.alloc (.cells #[.int .u8 kd] 5)) := by
  have hb := below_box w (.cells #[.int .u8 kd] 5)
  refine ⟨Nat.le_trans h.low hb.size, fun h1 h2 => ?_, fun h1 => ?_, fun _ => ⟨w.heap.size, by rw [eval_put_same _ _ _ hsz], ?_, fun h3 h4 => ?_⟩⟩
  · rw [eval_put_other _ _ (by decide)]
    exact (h.e0 (h1.resolve_right (by decide)) (fun d => h2 (.inl d))).kept hb (Nat.le_refl _)
  · rw [eval_put_other _ _ (by decide)]
    exact (h.e2 (h1.resolve_right (by decide))).kept hb (Nat.le_refl _)
  · exact holds_new w 5 #[.int .u8 kd] [kd] rfl (fun y hy => by simp at hy; omega) (by simp [maxLen])
  · rw [eval_put_other _ _ (by decide)]
    intro e
    have := ((h.e0 (h3.resolve_right (by decide)) (fun d => h4 (.inl d))).2.lt _ e).2
    omega
end
end Go.Proofs.Ytodncamohimmmaa

namespace Go.Proofs.Ytodncamohimmmaa
open Go.RowKit Go.Lib Leb

set_option maxHeartbeats 8000000 in
set_option maxRecDepth 100000 in
theorem refPutE_bad (b : Nat) (A : Option Addr) (n c : Nat) (x : Ev) (Ax : Option Addr) (m cx : Nat) (w : World) (hx : Hds w Ax m cx x.hs) (hcode : x.code ≤ 9223372036854775807) (hg : ¬ GoodE x) :
    Calls Try.prog 17 #[.pointer (some ⟨b, 0, Option.none⟩), .slice A n c, evv x Ax m cx] w fun e w' => e = .returned (.tuple #[.slice Option.none 0 0, .int .i64 4]) ∧ Below w.heap.size w w' := by
  have hgood := Lib.hid (fun W (hW : Below w.heap.size w W) => refGoodE_any x Ax m cx W (hx.later hW) hcode)
  rw [decide_eq_false hg] at hgood
  have hbe := Lib.hid (below_box w (.cells (ecell12 x Ax m cx) 25))
  clear hx hcode hg
  unfold evv at *
  unfold ecell12 at *
  go_enter Try.func17, Try.ntmps17
  go_wp2_with (first
    | (go_at_call 12; refine (hgood.out _ hbe.out).mono ?_; rintro e w2 ⟨rfl, hb2⟩; have hbw := Lib.hid (below_then hbe.out hb2); clear hb2))
  go_ret2
  exact ⟨rfl, hbw.out⟩

set_option maxHeartbeats 8000000 in
set_option maxRecDepth 100000 in
theorem refPutE_order (b t : Nat) (T0 : Nat → Prop) (u : Value) (ls : List Ln) (T : List (List UInt8)) (tick : Int) (A : Option Addr) (n c : Nat) (x : Ev) (Ax : Option Addr) (m cx : Nat) (w : World) (h : RBk w b t T0 u ls T tick) (hx : Hds w Ax m cx x.hs) (hcode : x.code ≤ 9223372036854775807) (hg : GoodE x) (ht : x.tick < tick) :
    Calls Try.prog 17 #[.pointer (some ⟨b, 0, Option.none⟩), .slice A n c, evv x Ax m cx] w fun e w' => e = .returned (.tuple #[.slice Option.none 0 0, .int .i64 9]) ∧ Below w.heap.size w w' := by
  have hgood := Lib.hid (fun W (hW : Below w.heap.size w W) => refGoodE_any x Ax m cx W (hx.later hW) hcode)
  rw [decide_eq_true hg] at hgood
  have hbe := Lib.hid (below_box w (.cells (ecell12 x Ax m cx) 25))
  have hev := Lib.hid (evAt_new w x Ax m cx 25)
  have hB := Lib.hid h
  have hlt : decide (x.tick < tick) = true := decide_eq_true ht
  clear hx hcode hg h ht
  unfold evv at *
  unfold ecell12 at *
  go_enter Try.func17, Try.ntmps17
  go_wp2_with (first
    | (go_at_call 12; refine (hgood.out _ hbe.out).mono ?_; rintro e w2 ⟨rfl, hb2⟩; have hbw := Lib.hid (below_then hbe.out hb2); have y2 := (hev.out.later hb2).c2; have b1 := (hB.out.later hbw.out).cell.2.1; clear hb2))
  go_quiet (fail)
  go_wp2
  go_ret2
  exact ⟨rfl, below_drewN hbw.out _⟩
end Go.Proofs.Ytodncamohimmmaa
