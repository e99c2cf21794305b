/-
  Texts of one sort, one behind the other: numbers, memory, regions, strings, headers. Conditions: those that each theorem states.
-/
import Derived.Test.YtodncamohimmmaaLow10
import Derived.Test.YtodncamohimmmaaTabRefTake
import Derived.Test.YtodncamohimmmaaLow4
import Derived.Test.YtodncamohimmmaaLow1
import Derived.Test.YtodncamohimmmaaLow3

namespace Go.Proofs.Ytodncamohimmmaa
open Go.RowKit Go.Lib Go.Maps Go.WideMaps Leb

def PTab (w : World) (b : Nat) (l : List (List UInt8)) (S : Nat → Prop) : Prop := ∃ o v, PT w b o v l ∧ ∀ k, S k ↔ inP b o v k
def RTab (w : World) (b : Nat) (l : List (List UInt8)) (S : Nat → Prop) : Prop := ∃ v, RT w b v l ∧ ∀ k, S k ↔ inR b v k

section
variable {w w' : World} {b : Nat} {l : List (List UInt8)} {S S' : Nat → Prop}
theorem PTab.low (h : PTab w b l S) : ∀ k, S k → k < w.heap.size := by
  obtain ⟨o, v, h, hS⟩ := h
  exact fun k hk => h.low k ((hS k).1 hk)
theorem RTab.low (h : RTab w b l S) : ∀ k, S k → k < w.heap.size := by
  obtain ⟨v, h, hS⟩ := h
  exact fun k hk => h.low k ((hS k).1 hk)
theorem PTab.alt (h : PTab w b l S) (ha : Alt w w' S') (hS' : ∀ k, S k → ¬ S' k) : PTab w' b l S := by
  obtain ⟨o, v, h, hS⟩ := h
  exact ⟨o, v, h.alt ha fun k hk => hS' k ((hS k).2 hk), hS⟩
theorem RTab.alt (h : RTab w b l S) (ha : Alt w w' S') (hS' : ∀ k, S k → ¬ S' k) : RTab w' b l S := by
  obtain ⟨v, h, hS⟩ := h
  exact ⟨v, h.alt ha fun k hk => hS' k ((hS k).2 hk), hS⟩
theorem PTab.later (h : PTab w b l S) (hb : Below w.heap.size w w') : PTab w' b l S := h.alt (alt_below hb fun _ => False) fun _ _ h => h
theorem RTab.later (h : RTab w b l S) (hb : Below w.heap.size w w') : RTab w' b l S := h.alt (alt_below hb fun _ => False) fun _ _ h => h
end

structure PStep (w w' : World) (b : Nat) (S S' : Nat → Prop) (l' : List (List UInt8)) : Prop where
  tab : PTab w' b l' S'
  alt : Alt w w' S
  new : ∀ k, S' k → S k ∨ w.heap.size ≤ k
structure RStep (w w' : World) (b : Nat) (S S' : Nat → Prop) (l' : List (List UInt8)) : Prop where
  tab : RTab w' b l' S'
  alt : Alt w w' S
  new : ∀ k, S' k → S k ∨ w.heap.size ≤ k

section
variable (b : Nat) (l : List (List UInt8)) (S : Nat → Prop) (A : Option Addr) (n c : Nat) (X : List Int) (p : List UInt8) (q : Int) (w : World)

theorem step_of {w w' : World} {b : Nat} {o o' : Option Nat} {v u : Value} {S : Nat → Prop} {l' : List (List UInt8)} (h : PAdd w w' b o o' v u l') (hS : ∀ k, S k ↔ inP b o v k) : PStep w w' b S (inP b o' u) l' :=
  ⟨⟨o', u, h.tab, fun _ => Iff.rfl⟩, h.alt.mono fun j _ hj => (hS j).2 hj, fun k hk => (h.inNew k hk).imp (hS k).2 id⟩
theorem step_ofR {w w' : World} {b : Nat} {v u : Value} {S : Nat → Prop} {l' : List (List UInt8)} (h : RPut w w' b v u l') (hS : ∀ k, S k ↔ inR b v k) : RStep w w' b S (inR b u) l' :=
  ⟨⟨u, h.tab, fun _ => Iff.rfl⟩, h.alt.mono fun j _ hj => (hS j).2 (.inl hj), fun k hk => (h.new k hk).imp (hS k).2 id⟩

def PutEnd (w : World) (b : Nat) (S : Nat → Prop) (Y : List Int) (l' : List (List UInt8)) (e : Ending) (w' : World) : Prop :=
  ∃ r S', e = .returned r ∧ Owns w' w.heap.size 5 r Y ∧ OffV S' r ∧ PStep w w' b S S' l'
def PutEndR (w : World) (b : Nat) (S : Nat → Prop) (Y : List Int) (l' : List (List UInt8)) (e : Ending) (w' : World) : Prop :=
  ∃ r S', e = .returned r ∧ Owns w' w.heap.size 5 r Y ∧ OffV S' r ∧ RStep w w' b S S' l'
def TakeEnd (w : World) (b : Nat) (S : Nat → Prop) (r : List UInt8 × Int × Int) (l' : List (List UInt8)) (e : Ending) (w' : World) : Prop :=
  ∃ S', e = .returned (.tuple #[.string (mk r.1), .int .i64 r.2.1, .int .i64 r.2.2]) ∧ PStep w w' b S S' l'
def TakeEndR (w : World) (b : Nat) (S : Nat → Prop) (r : List UInt8 × Int × Int) (l' : List (List UInt8)) (e : Ending) (w' : World) : Prop :=
  ∃ S', e = .returned (.tuple #[.string (mk r.1), .int .i64 r.2.1, .int .i64 r.2.2]) ∧ RStep w w' b S S' l'

theorem putP_any (h : PTab w b l S) (hl : l.length ≤ 1000000) (hX : Holds w A n c X) (ho : Off S A n) (hn : n + p.length ≤ 140737488000000) :
    Calls Try.prog 82 #[.pointer (some ⟨b, 0, Option.none⟩), .slice A n c, .string (mk p)] w (PutEnd w b S (X ++ putB l p) (putL l p)) := by
  obtain ⟨o, v, h, hS⟩ := h
  refine (put19_any b o v l A n c X p w h hl hX (ho.mono fun j hj => (hS j).2 hj) hn).mono ?_
  rintro e w' ⟨r, o1, u, rfl, hr, hof, hA⟩
  exact ⟨r, _, rfl, hr, hof, step_of hA hS⟩
theorem putR_any (h : RTab w b l S) (hl : l.length ≤ 1000000) (hX : Holds w A n c X) (hn : n + p.length ≤ 140737488000000) :
    Calls Try.prog 38 #[.pointer (some ⟨b, 0, Option.none⟩), .slice A n c, .string (mk p)] w (PutEndR w b S (X ++ putB l p) (putL l p)) := by
  obtain ⟨v, h, hS⟩ := h
  refine (refPut19_any b v l A n c X p w h hl hX hn).mono ?_
  rintro e w' ⟨r, u, rfl, hr, hof, hA⟩
  exact ⟨r, _, rfl, hr, hof, step_ofR hA hS⟩
theorem takeP_any (h : PTab w b l S) (hl : l.length ≤ 1000000) (hX : Holds w A n c X) (hn : n ≤ 140737488355328) :
    Calls Try.prog 89 #[.pointer (some ⟨b, 0, Option.none⟩), .slice A n c, .int .i64 q] w (TakeEnd w b S (takeB l X q) (takeL l X q)) := by
  obtain ⟨o, v, h, hS⟩ := h
  refine (take19_any b o v l A n c X q w h hl hX hn).mono ?_
  rintro e w' ⟨o1, u, rfl, hA⟩
  exact ⟨_, rfl, step_of hA hS⟩
theorem takeR_any (h : RTab w b l S) (hl : l.length ≤ 1000000) (hX : Holds w A n c X) (hn : n ≤ 140737488355328) :
    Calls Try.prog 47 #[.pointer (some ⟨b, 0, Option.none⟩), .slice A n c, .int .i64 q] w (TakeEndR w b S (takeB l X q) (takeL l X q)) := by
  obtain ⟨v, h, hS⟩ := h
  refine (refTake19_any b v l A n c X q w h hl hX hn).mono ?_
  rintro e w' ⟨u, rfl, hA⟩
  exact ⟨_, rfl, step_ofR hA hS⟩
theorem newP_any : Calls Try.prog 30 #[] w fun e w' => ∃ b S, e = .returned (.pointer (some ⟨b, 0, Option.none⟩)) ∧ PTab w' b [] S ∧ (∀ k, S k → w.heap.size ≤ k) ∧ Below w.heap.size w w' := by
  refine (new19_any w).mono ?_
  rintro e w' ⟨b, rfl, hP, h1, hb⟩
  exact ⟨b, _, rfl, ⟨_, _, hP, fun _ => Iff.rfl⟩, fun k hk => by
    rcases hk with rfl | hk | hk
    · exact h1
    · cases hk
    · simp [Value.ownBlock] at hk, hb⟩
end

theorem RTab.list {w : World} {b : Nat} {l : List (List UInt8)} {S : Nat → Prop} (h : RTab w b l S) : ∃ A c, w.cell? ⟨b, 0, Option.none⟩ = some (.slice A l.length c) := by
  obtain ⟨v, h, _⟩ := h
  have hc := h.cell
  obtain ⟨A, c, rfl, _⟩ := h.own.texts
  exact ⟨A, c, hc⟩
theorem newR (w : World) (g : Nat) (hg : g = w.heap.size) : RTab (w.alloc (.cells #[.slice Option.none 0 0] 70)) g [] (fun k => k = g) := by
  subst hg
  exact ⟨.slice Option.none 0 0, ⟨heap_alloc_new w _, World.ownsRow_nil _ _ _ _, by simp [Value.ownBlock]⟩, fun k => ⟨.inl, fun hk => by
    rcases hk with hk | hk
    · exact hk
    · simp [Value.ownBlock] at hk⟩⟩

structure Duo (B : Nat) (w : World) (b1 : Nat) (l1 : List (List UInt8)) (S1 : Nat → Prop) (b2 : Nat) (l2 : List (List UInt8)) (S2 : Nat → Prop) : Prop where
  p : PTab w b1 l1 S1
  r : RTab w b2 l2 S2
  ap : ∀ k, S1 k → ¬ S2 k
  lo1 : ∀ k, S1 k → B ≤ k
  lo2 : ∀ k, S2 k → B ≤ k
section
variable {B : Nat} {w w' : World} {b1 b2 : Nat} {l1 l2 l' : List (List UInt8)} {S1 S2 S' : Nat → Prop}
theorem Duo.later (h : Duo B w b1 l1 S1 b2 l2 S2) (hb : Below w.heap.size w w') : Duo B w' b1 l1 S1 b2 l2 S2 := ⟨h.p.later hb, h.r.later hb, h.ap, h.lo1, h.lo2⟩
theorem Duo.stepP (h : Duo B w b1 l1 S1 b2 l2 S2) (hs : PStep w w' b1 S1 S' l') (hB : B ≤ w.heap.size) : Duo B w' b1 l' S' b2 l2 S2 :=
  ⟨hs.tab, h.r.alt hs.alt fun k h2 h1 => h.ap k h1 h2, fun k hk h2 => by
    rcases hs.new k hk with h1 | h1
    · exact h.ap k h1 h2
    · have := h.r.low k h2; omega, fun k hk => by
    rcases hs.new k hk with h1 | h1
    · exact h.lo1 k h1
    · omega, h.lo2⟩
theorem Duo.stepR (h : Duo B w b1 l1 S1 b2 l2 S2) (hs : RStep w w' b2 S2 S' l') (hB : B ≤ w.heap.size) : Duo B w' b1 l1 S1 b2 l' S' :=
  ⟨h.p.alt hs.alt h.ap, hs.tab, fun k h1 hk => by
    rcases hs.new k hk with h2 | h2
    · exact h.ap k h1 h2
    · have := h.p.low k h1; omega, h.lo1, fun k hk => by
    rcases hs.new k hk with h1 | h1
    · exact h.lo2 k h1
    · omega⟩
end
theorem Off.next {w : World} {S S' : Nat → Prop} {A : Option Addr} {n c : Nat} {X : List Int} (h : Off S A n) (hX : Holds w A n c X) (hn : ∀ k, S' k → S k ∨ w.heap.size ≤ k) : Off S' A n := fun g off e h0 hs => by
  subst e
  have hg := hX.block h0
  rcases hn g hs with h1 | h1
  · exact h g off rfl h0 h1
  · omega
structure Bts (w : World) (v : Value) (X : List Int) (S1 S2 : Nat → Prop) : Prop where
  rd : ∃ A c, v = .slice A X.length c ∧ Holds w A X.length c X ∧ Off S1 A X.length ∧ Off S2 A X.length
section
variable {w w' : World} {v : Value} {X : List Int} {S1 S2 S' : Nat → Prop} {b : Nat} {l' : List (List UInt8)}
theorem Bts.stepP (h : Bts w v X S1 S2) (hs : PStep w w' b S1 S' l') : Bts w' v X S' S2 := by
  obtain ⟨A, c, rfl, hX, h1, h2⟩ := h.rd
  exact ⟨A, c, rfl, hX.alt hs.alt h1, h1.next hX hs.new, h2⟩
theorem Bts.stepR (h : Bts w v X S1 S2) (hs : RStep w w' b S2 S' l') : Bts w' v X S1 S' := by
  obtain ⟨A, c, rfl, hX, h1, h2⟩ := h.rd
  exact ⟨A, c, rfl, hX.alt hs.alt h2, h1, h2.next hX hs.new⟩
theorem Bts.later (h : Bts w v X S1 S2) (hb : Below w.heap.size w w') : Bts w' v X S1 S2 := by
  obtain ⟨A, c, rfl, hX, h1, h2⟩ := h.rd
  exact ⟨A, c, rfl, hX.later hb, h1, h2⟩
end
end Go.Proofs.Ytodncamohimmmaa

namespace Go.Proofs.Ytodncamohimmmaa
open Go.RowKit Go.Lib Go.Maps Go.WideMaps Leb

theorem Hds.alt {w w' : World} {S : Nat → Prop} {A : Option Addr} {n c : Nat} {l : List Hd} (h : Hds w A n c l) (ha : Alt w w' S) (ho : Off S A n) : Hds w' A n c l :=
  ⟨h.len, h.cap, h.room, h.bare, fun hn => by
    obtain ⟨b, off, e, hlt, hc⟩ := h.cell hn
    subst e
    refine ⟨b, off, rfl, Nat.lt_of_lt_of_le hlt ha.size, fun j hj => ?_⟩
    rw [← hc j hj]
    exact World.cell?_of_block (a := ⟨b, off + j, Option.none⟩) (ha.block b hlt (ho b off rfl hn))⟩
theorem Hds.block {w : World} {g off : Nat} {n c : Nat} {l : List Hd} (h : Hds w (some ⟨g, off, Option.none⟩) n c l) (hn : 0 < n) : g < w.heap.size := by
  obtain ⟨b, off', e, hlt, _⟩ := h.cell hn
  injection e with e
  injection e with e1 e2
  subst e1
  exact hlt
theorem OwnsH.alt {w w' : World} {S : Nat → Prop} {base : Nat} {v : Value} {l : List Hd} (h : OwnsH w base v l) (ha : Alt w w' S) (ho : OffV S v) : OwnsH w' base v l := ownsRow_alt h ha ho
theorem OwnsH.off {w : World} {S : Nat → Prop} {base : Nat} {v : Value} {l : List Hd} (h : OwnsH w base v l) (hS : ∀ j, S j → j < base) : OffV S v := fun g hg hs => by
  have := (World.ownsRow.lt h g hg).1
  have := hS g hs
  omega
structure HdO (w : World) (A : Option Addr) (n c : Nat) (l : List Hd) (S : Nat → Prop) : Prop where
  rd : Hds w A n c l
  off : Off S A n
structure BtO (w : World) (B : Nat) (v : Value) (Y : List Int) (S : Nat → Prop) : Prop where
  own : Owns w B 5 v Y
  off : OffV S v
structure ByO (w : World) (A : Option Addr) (n c : Nat) (X : List Int) (S : Nat → Prop) : Prop where
  rd : Holds w A n c X
  off : Off S A n
structure HwO (w : World) (B : Nat) (v : Value) (l : List Hd) (S : Nat → Prop) : Prop where
  own : OwnsH w B v l
  off : OffV S v
section
variable {w w' : World} {A : Option Addr} {n c B : Nat} {l : List Hd} {v : Value} {Y : List Int} {S S' : Nat → Prop}
theorem HdO.step (h : HdO w A n c l S) (ha : Alt w w' S) (hn : ∀ k, S' k → S k ∨ w.heap.size ≤ k) : HdO w' A n c l S' :=
  ⟨h.rd.alt ha h.off, fun g off e h0 hs => by
    subst e
    have hg := h.rd.block h0
    rcases hn g hs with h1 | h1
    · exact h.off g off rfl h0 h1
    · omega⟩
theorem HdO.later (h : HdO w A n c l S) (hb : Below w.heap.size w w') : HdO w' A n c l S := ⟨h.rd.later hb, h.off⟩
theorem ByO.step {X : List Int} (h : ByO w A n c X S) (ha : Alt w w' S) (hn : ∀ k, S' k → S k ∨ w.heap.size ≤ k) : ByO w' A n c X S' :=
  ⟨h.rd.alt ha h.off, fun g off e h0 hs => by
    subst e
    have hg := h.rd.block h0
    rcases hn g hs with h1 | h1
    · exact h.off g off rfl h0 h1
    · omega⟩
theorem ByO.later {X : List Int} (h : ByO w A n c X S) (hb : Below w.heap.size w w') : ByO w' A n c X S := ⟨h.rd.later hb, h.off⟩
theorem HdO.grown (h : HdO w A n c l S) {r : Option Nat} (hg : w.grownBy w' r) (hr : ∀ g off, A = some ⟨g, off, Option.none⟩ → 0 < n → r ≠ some g) : HdO w' A n c l S :=
  ⟨h.rd.alt (alt_grown hg (S := fun k => r = some k) fun _ hk => hk) fun g off e h0 hs => hr g off e h0 hs, h.off⟩
theorem ByO.grown {X : List Int} (h : ByO w A n c X S) {r : Option Nat} (hg : w.grownBy w' r) (hr : ∀ g off, A = some ⟨g, off, Option.none⟩ → 0 < n → r ≠ some g) : ByO w' A n c X S :=
  ⟨h.rd.alt (alt_grown hg (S := fun k => r = some k) fun _ hk => hk) fun g off e h0 hs => hr g off e h0 hs, h.off⟩
theorem BtO.step (h : BtO w B v Y S) (ha : Alt w w' S) (hn : ∀ k, S' k → S k ∨ w.heap.size ≤ k) : BtO w' B v Y S' :=
  ⟨h.own.alt ha h.off, fun g hg hs => by
    have := (h.own.2.lt g hg).2
    rcases hn g hs with h1 | h1
    · exact h.off g hg h1
    · omega⟩
theorem BtO.later (h : BtO w B v Y S) (hb : Below w.heap.size w w') : BtO w' B v Y S := ⟨h.own.kept hb (Nat.le_refl _), h.off⟩
theorem BtO.slice (h : BtO w B v Y S) : ∃ A c, v = .slice A Y.length c ∧ Holds w A Y.length c Y ∧ Off S A Y.length := by
  obtain ⟨A, c, rfl, hX⟩ := h.own.holds
  exact ⟨A, c, rfl, hX, h.off.off⟩
theorem BtO.reads {A : Option Addr} {n c : Nat} (h : BtO w B (.slice A n c) Y S) : Holds w A n c Y ∧ Off S A n := by
  obtain ⟨A', c', e, hX, ho⟩ := h.slice
  injection e with e1 e2 e3
  subst e1
  subst e2
  subst e3
  exact ⟨hX, ho⟩
theorem HwO.step (h : HwO w B v l S) (ha : Alt w w' S) (hn : ∀ k, S' k → S k ∨ w.heap.size ≤ k) : HwO w' B v l S' :=
  ⟨h.own.alt ha h.off, fun g hg hs => by
    have := (World.ownsRow.lt h.own g hg).2
    rcases hn g hs with h1 | h1
    · exact h.off g hg h1
    · omega⟩
theorem HwO.later (h : HwO w B v l S) (hb : Below w.heap.size w w') : HwO w' B v l S := ⟨h.own.kept hb (Nat.le_refl _), h.off⟩
end
def Bx (w : World) (g : Nat) (x y : ByteArray) : Prop := w.heap[g]? = some (.cells #[.string x, .string y] 59 (0, 0))
section
variable {w w' : World} {g : Nat} {x y : ByteArray} {S : Nat → Prop}
theorem bx_new (w : World) (x y : ByteArray) : Bx (w.alloc (.cells #[.string x, .string y] 59)) w.heap.size x y := heap_alloc_new w _
theorem Bx.lt (h : Bx w g x y) : g < w.heap.size := (Array.getElem?_eq_some_iff.1 h).1
theorem Bx.alt (h : Bx w g x y) (ha : Alt w w' S) (hg : ¬ S g) : Bx w' g x y := (ha.block g h.lt hg).trans h
theorem Bx.cell0 (h : Bx w g x y) : w.cell? ⟨g, 0, Option.none⟩ = some (.string x) := by rw [cell_of_row w _ 0 _ _ _ h]; rfl
theorem Bx.cell1 (h : Bx w g x y) : w.cell? ⟨g, 1, Option.none⟩ = some (.string y) := by rw [cell_of_row w _ 1 _ _ _ h]; rfl
theorem Bx.free (h : Bx w g x y) (k : Nat) : w.frozen? ⟨g, k, Option.none⟩ = false := frozen_of_row w g k _ _ h
theorem Bx.set0 (h : Bx w g x y) (z : ByteArray) : Bx (w.setCell ⟨g, 0, Option.none⟩ (.string z)) g z y := heap_setCell_same w g 0 _ _ _ h
theorem Bx.set1 (h : Bx w g x y) (z : ByteArray) : Bx (w.setCell ⟨g, 1, Option.none⟩ (.string z)) g x z := heap_setCell_same w g 1 _ _ _ h
end
theorem below_none20 {w0 w w' : World} {S : Nat → Prop} (h : Below ({ w0 with heap := #[] } : World).heap.size { w0 with heap := #[] } w) (ha : Alt w w' S) : Below ({ w0 with heap := #[] } : World).heap.size { w0 with heap := #[] } w' :=
  ⟨ha.os.trans h.os, ha.tape.trans h.tape, ha.output.trans h.output, Nat.zero_le _, fun k hk => absurd hk (by simp)⟩
theorem below_none0 {w w' : World} (h : Below w.heap.size w w') : Below ({ w with heap := #[] } : World).heap.size { w with heap := #[] } w' := ⟨h.os, h.tape, h.output, Nat.zero_le _, fun k hk => absurd hk (by simp)⟩
theorem putAll_eval20 {a0 : Act} {ds : List Nat} {f : Nat → Value} {a : Act} (ha : a = putAll a0 ds (ds.map f)) (hd : ds.Nodup) (hN : ∀ t ∈ ds, t < a0.tmps.size) {t : Nat} (ht : t ∈ ds) : a.eval (.tmp t) = f t := by
  rw [ha]
  exact putAll_at a0 f ds hd hN t ht

section
variable {w w1 w' W0 : World} {b : Nat} {S S1 S2 S' : Nat → Prop} {l1 l2 l' : List (List UInt8)} {A : Option Addr} {n c B m : Nat} {L : List Hd} {v : Value} {Y : List Int}
theorem RStep.same (h : RTab w b l1 S) (hb : Below w.heap.size w w') : RStep w w' b S S l1 := ⟨h.later hb, alt_below hb _, fun _ h => .inl h⟩
theorem RStep.trans (h : RStep w w1 b S S1 l1) (k : RStep w1 w' b S1 S2 l2) : RStep w w' b S S2 l2 :=
  ⟨k.tab, h.alt.trans k.alt fun j hj hs => by
    rcases h.new j hs with h1 | h1
    · exact h1
    · omega, fun j hj => by
    rcases k.new j hj with h1 | h1
    · exact h.new j h1
    · exact .inr (Nat.le_trans h.alt.size h1)⟩
theorem RStep.later (h : RStep w w1 b S S1 l1) (hb : Below w1.heap.size w1 w') : RStep w w' b S S1 l1 := ⟨h.tab.later hb, h.alt.behind hb, h.new⟩
theorem RStep.ahead (hb : Below w.heap.size w w1) (k : RStep w1 w' b S S1 l1) : RStep w w' b S S1 l1 :=
  ⟨k.tab, Alt.ahead hb k.alt, fun j hj => (k.new j hj).imp id fun h => Nat.le_trans hb.size h⟩
theorem RStep.set (h : RStep w w1 b S S1 l1) (p : Addr) (x : Value) (hp : w.heap.size ≤ p.block) (hn : ¬ S1 p.block) : RStep w (w1.setCell p x) b S S1 l1 :=
  ⟨h.tab.alt (alt_set w1 p x (S := fun k => k = p.block) rfl) fun k hk e => hn (e ▸ hk), h.alt.trans (alt_set w1 p x (S := fun k => k = p.block) rfl) fun j hj e => by omega, h.new⟩
theorem RStep.grown (h : RStep w w1 b S S1 l1) (hg : w1.grownBy w' v.ownBlock) (ho : OffV S1 v) (hB : ∀ g, v.ownBlock = some g → w.heap.size ≤ g) : RStep w w' b S S1 l1 :=
  ⟨h.tab.alt (alt_grown hg (S := fun k => v.ownBlock = some k) fun k hk => hk) fun k hk e => ho k e hk, h.alt.trans (alt_grown hg (S := fun k => v.ownBlock = some k) fun k hk => hk) fun j hj e => by have := hB j e; omega, h.new⟩

theorem RStep.appH {W1 : World} {v' : Value} {xs l : List Hd} {A2 : Option Addr} {n2 c2 : Nat} {X : List Int} (h : RStep w w1 b S S1 l1) (hO : HwO w1 w.heap.size v xs S1) (hW : HdO w1 A n c L S1) (hX : ByO w1 A2 n2 c2 X S1) (hW0 : Hds w A n c L) (hX0 : Holds w A2 n2 c2 X)
    (hb : Below w1.heap.size w1 W1) (hown : OwnsH w' w.heap.size v' (xs ++ l)) (hg : W1.grownBy w' v.ownBlock) (hat : v'.ownBlock = v.ownBlock ∨ v'.ownBlock = some W1.heap.size) :
    RStep w w' b S S1 l1 ∧ HwO w' w.heap.size v' (xs ++ l) S1 ∧ HdO w' A n c L S1 ∧ ByO w' A2 n2 c2 X S1 := by
  have hlt : ∀ g, v.ownBlock = some g → w.heap.size ≤ g := fun g e => (World.ownsRow.lt hO.own g e).1
  refine ⟨(h.later hb).grown hg hO.off hlt, ⟨hown, fun g e hs => ?_⟩, (hW.later hb).grown hg fun g off e h0 e2 => ?_, (hX.later hb).grown hg fun g off e h0 e2 => ?_⟩
  · rcases hat with hat | hat
    · exact hO.off g (by rw [← hat, e]) hs
    · rw [hat] at e
      injection e with e
      have h1 := h.tab.low g hs
      have h2 := hb.size
      omega
  · subst e
    have h1 := hW0.block h0
    have h2 := hlt g e2
    omega
  · subst e
    have h1 := hX0.block h0
    have h2 := hlt g e2
    omega
structure IQR (W0 : World) (b : Nat) (S : Nat → Prop) (A : Option Addr) (m c : Nat) (L : List Hd) (B : Nat) (T1 T2 T3 : List (List UInt8)) (Y1 Y2 Y3 : List Int) (u : Value) (i1 s1 i2 s2 : Nat) (D : Nat → Prop) (a : Act) (w : World) : Prop where
  rd : ∃ S1 l1, RStep W0 w b S S1 l1 ∧ HdO w A m c L S1 ∧ B ≤ w.heap.size ∧ (¬ D i1 → l1 = T1 ∧ BtO w B u Y1 S1) ∧ (D i1 → ¬ D i2 → l1 = T2 ∧ BtO w B (a.eval (.tmp s1)) Y2 S1) ∧ (D i2 → l1 = T3 ∧ BtO w B (a.eval (.tmp s2)) Y3 S1)
end
section
variable {W0 w w' : World} {b : Nat} {S : Nat → Prop} {A : Option Addr} {m c B : Nat} {L : List Hd} {T1 T2 T3 : List (List UInt8)} {Y1 Y2 Y3 : List Int} {u : Value} {i1 s1 i2 s2 : Nat} {D : Nat → Prop} {a : Act}
theorem IQR.pure (h : IQR W0 b S A m c L B T1 T2 T3 Y1 Y2 Y3 u i1 s1 i2 s2 D a w) {i s : Nat} (x : Value) (h1 : i ≠ i1) (h2 : i ≠ i2) (hs1 : s ≠ s1) (hs2 : s ≠ s2) : IQR W0 b S A m c L B T1 T2 T3 Y1 Y2 Y3 u i1 s1 i2 s2 (fun j => D j ∨ j = i) (a.put (some s) x) w := by
  obtain ⟨S1, l1, hS, hH, hB, n1, d1, d2⟩ := h.rd
  refine ⟨S1, l1, hS, hH, hB, fun hn => n1 fun h' => hn (.inl h'), fun hd hn => ?_, fun hd => ?_⟩
  · rw [eval_put_other _ _ (Ne.symm hs1)]
    exact d1 (hd.resolve_right fun e => h1 e.symm) fun h' => hn (.inl h')
  · rw [eval_put_other _ _ (Ne.symm hs2)]
    exact d2 (hd.resolve_right fun e => h2 e.symm)
theorem IQR.made (h : IQR W0 b S A m c L B T1 T2 T3 Y1 Y2 Y3 u i1 s1 i2 s2 D a w) {i s : Nat} (x : Value) (hb : Below w.heap.size w w') (h1 : i ≠ i1) (h2 : i ≠ i2) (hs1 : s ≠ s1) (hs2 : s ≠ s2) : IQR W0 b S A m c L B T1 T2 T3 Y1 Y2 Y3 u i1 s1 i2 s2 (fun j => D j ∨ j = i) (a.put (some s) x) w' := by
  obtain ⟨S1, l1, hS, hH, hB, n1, d1, d2⟩ := h.rd
  refine ⟨S1, l1, hS.later hb, hH.later hb, Nat.le_trans hB hb.size, fun hn => (n1 fun h' => hn (.inl h')).imp id (·.later hb), fun hd hn => ?_, fun hd => ?_⟩
  · rw [eval_put_other _ _ (Ne.symm hs1)]
    exact (d1 (hd.resolve_right fun e => h1 e.symm) fun h' => hn (.inl h')).imp id (·.later hb)
  · rw [eval_put_other _ _ (Ne.symm hs2)]
    exact (d2 (hd.resolve_right fun e => h2 e.symm)).imp id (·.later hb)
theorem iqR_first (hn2 : ¬ D i2) (hsz : s1 < a.tmps.size) (h12 : i1 ≠ i2) {S1 S' : Nat → Prop} (hS : RStep W0 w b S S1 T1) (hH : HdO w A m c L S1) (hB : B ≤ w.heap.size)
    {r : Value} (hown : Owns w' w.heap.size 5 r Y2) (hof : OffV S' r) (hst : RStep w w' b S1 S' T2) : IQR W0 b S A m c L B T1 T2 T3 Y1 Y2 Y3 u i1 s1 i2 s2 (fun j => D j ∨ j = i1) (a.put (some s1) r) w' := by
  refine ⟨S', T2, hS.trans hst, hH.step hst.alt hst.new, Nat.le_trans hB hst.alt.size, fun hn => absurd (.inr rfl) hn, fun _ _ => ?_, fun hd => hd.elim (fun h' => absurd h' hn2) fun e => absurd e.symm h12⟩
  rw [eval_put_same _ _ _ hsz]
  exact ⟨rfl, hown.low hB, hof⟩
theorem iqR_second (hd1 : D i1) (hsz : s2 < a.tmps.size) {S1 S' : Nat → Prop} (hS : RStep W0 w b S S1 T2) (hH : HdO w A m c L S1) (hB : B ≤ w.heap.size)
    {r : Value} (hown : Owns w' w.heap.size 5 r Y3) (hof : OffV S' r) (hst : RStep w w' b S1 S' T3) : IQR W0 b S A m c L B T1 T2 T3 Y1 Y2 Y3 u i1 s1 i2 s2 (fun j => D j ∨ j = i2) (a.put (some s2) r) w' := by
  refine ⟨S', T3, hS.trans hst, hH.step hst.alt hst.new, Nat.le_trans hB hst.alt.size, fun hn => absurd (.inl hd1) hn, fun _ hn => absurd (.inr rfl) hn, fun _ => ?_⟩
  rw [eval_put_same _ _ _ hsz]
  exact ⟨rfl, hown.low hB, hof⟩
theorem iqR_cells {g off : Nat} (h : IQR W0 b S (some ⟨g, off, Option.none⟩) m c L B T1 T2 T3 Y1 Y2 Y3 u i1 s1 i2 s2 D a w) {k : Nat} (hk : k < m) {x y : ByteArray} (hx : L[k]? = some (x, y)) : w.cell? ⟨g, off + k * 2, Option.none⟩ = some (.string x) ∧ w.cell? ⟨g, off + k * 2 + 1, Option.none⟩ = some (.string y) := by
  obtain ⟨S1, l1, hS, hH, _⟩ := h.rd
  have hl := hH.rd.len
  obtain ⟨b', off', e, h1, h2⟩ := hH.rd.at hk
  injection e with e
  injection e with e1 e2
  subst e1
  subst e2
  rw [List.getElem?_eq_getElem (by omega)] at hx
  injection hx with hx
  rw [hx] at h1 h2
  exact ⟨h1, h2⟩
end

section
variable {w w1 w' W0 : World} {b : Nat} {S S1 S2 S' : Nat → Prop} {l1 l2 l' : List (List UInt8)} {A : Option Addr} {n c B m : Nat} {L : List Hd} {v : Value} {Y : List Int}
theorem PStep.same (h : PTab w b l1 S) (hb : Below w.heap.size w w') : PStep w w' b S S l1 := ⟨h.later hb, alt_below hb _, fun _ h => .inl h⟩
theorem PStep.trans (h : PStep w w1 b S S1 l1) (k : PStep w1 w' b S1 S2 l2) : PStep w w' b S S2 l2 :=
  ⟨k.tab, h.alt.trans k.alt fun j hj hs => by
    rcases h.new j hs with h1 | h1
    · exact h1
    · omega, fun j hj => by
    rcases k.new j hj with h1 | h1
    · exact h.new j h1
    · exact .inr (Nat.le_trans h.alt.size h1)⟩
theorem PStep.later (h : PStep w w1 b S S1 l1) (hb : Below w1.heap.size w1 w') : PStep w w' b S S1 l1 := ⟨h.tab.later hb, h.alt.behind hb, h.new⟩
theorem PStep.ahead (hb : Below w.heap.size w w1) (k : PStep w1 w' b S S1 l1) : PStep w w' b S S1 l1 :=
  ⟨k.tab, Alt.ahead hb k.alt, fun j hj => (k.new j hj).imp id fun h => Nat.le_trans hb.size h⟩
theorem PStep.set (h : PStep w w1 b S S1 l1) (p : Addr) (x : Value) (hp : w.heap.size ≤ p.block) (hn : ¬ S1 p.block) : PStep w (w1.setCell p x) b S S1 l1 :=
  ⟨h.tab.alt (alt_set w1 p x (S := fun k => k = p.block) rfl) fun k hk e => hn (e ▸ hk), h.alt.trans (alt_set w1 p x (S := fun k => k = p.block) rfl) fun j hj e => by omega, h.new⟩
theorem PStep.grown (h : PStep w w1 b S S1 l1) (hg : w1.grownBy w' v.ownBlock) (ho : OffV S1 v) (hB : ∀ g, v.ownBlock = some g → w.heap.size ≤ g) : PStep w w' b S S1 l1 :=
  ⟨h.tab.alt (alt_grown hg (S := fun k => v.ownBlock = some k) fun k hk => hk) fun k hk e => ho k e hk, h.alt.trans (alt_grown hg (S := fun k => v.ownBlock = some k) fun k hk => hk) fun j hj e => by have := hB j e; omega, h.new⟩

theorem PStep.appH {W1 : World} {v' : Value} {xs l : List Hd} {A2 : Option Addr} {n2 c2 : Nat} {X : List Int} (h : PStep w w1 b S S1 l1) (hO : HwO w1 w.heap.size v xs S1) (hW : HdO w1 A n c L S1) (hX : ByO w1 A2 n2 c2 X S1) (hW0 : Hds w A n c L) (hX0 : Holds w A2 n2 c2 X)
    (hb : Below w1.heap.size w1 W1) (hown : OwnsH w' w.heap.size v' (xs ++ l)) (hg : W1.grownBy w' v.ownBlock) (hat : v'.ownBlock = v.ownBlock ∨ v'.ownBlock = some W1.heap.size) :
    PStep w w' b S S1 l1 ∧ HwO w' w.heap.size v' (xs ++ l) S1 ∧ HdO w' A n c L S1 ∧ ByO w' A2 n2 c2 X S1 := by
  have hlt : ∀ g, v.ownBlock = some g → w.heap.size ≤ g := fun g e => (World.ownsRow.lt hO.own g e).1
  refine ⟨(h.later hb).grown hg hO.off hlt, ⟨hown, fun g e hs => ?_⟩, (hW.later hb).grown hg fun g off e h0 e2 => ?_, (hX.later hb).grown hg fun g off e h0 e2 => ?_⟩
  · rcases hat with hat | hat
    · exact hO.off g (by rw [← hat, e]) hs
    · rw [hat] at e
      injection e with e
      have h1 := h.tab.low g hs
      have h2 := hb.size
      omega
  · subst e
    have h1 := hW0.block h0
    have h2 := hlt g e2
    omega
  · subst e
    have h1 := hX0.block h0
    have h2 := hlt g e2
    omega
structure IQP (W0 : World) (b : Nat) (S : Nat → Prop) (A : Option Addr) (m c : Nat) (L : List Hd) (B : Nat) (T1 T2 T3 : List (List UInt8)) (Y1 Y2 Y3 : List Int) (u : Value) (i1 s1 i2 s2 : Nat) (D : Nat → Prop) (a : Act) (w : World) : Prop where
  rd : ∃ S1 l1, PStep W0 w b S S1 l1 ∧ HdO w A m c L S1 ∧ B ≤ w.heap.size ∧ (¬ D i1 → l1 = T1 ∧ BtO w B u Y1 S1) ∧ (D i1 → ¬ D i2 → l1 = T2 ∧ BtO w B (a.eval (.tmp s1)) Y2 S1) ∧ (D i2 → l1 = T3 ∧ BtO w B (a.eval (.tmp s2)) Y3 S1)
end
section
variable {W0 w w' : World} {b : Nat} {S : Nat → Prop} {A : Option Addr} {m c B : Nat} {L : List Hd} {T1 T2 T3 : List (List UInt8)} {Y1 Y2 Y3 : List Int} {u : Value} {i1 s1 i2 s2 : Nat} {D : Nat → Prop} {a : Act}
theorem IQP.pure (h : IQP W0 b S A m c L B T1 T2 T3 Y1 Y2 Y3 u i1 s1 i2 s2 D a w) {i s : Nat} (x : Value) (h1 : i ≠ i1) (h2 : i ≠ i2) (hs1 : s ≠ s1) (hs2 : s ≠ s2) : IQP W0 b S A m c L B T1 T2 T3 Y1 Y2 Y3 u i1 s1 i2 s2 (fun j => D j ∨ j = i) (a.put (some s) x) w := by
  obtain ⟨S1, l1, hS, hH, hB, n1, d1, d2⟩ := h.rd
  refine ⟨S1, l1, hS, hH, hB, fun hn => n1 fun h' => hn (.inl h'), fun hd hn => ?_, fun hd => ?_⟩
  · rw [eval_put_other _ _ (Ne.symm hs1)]
    exact d1 (hd.resolve_right fun e => h1 e.symm) fun h' => hn (.inl h')
  · rw [eval_put_other _ _ (Ne.symm hs2)]
    exact d2 (hd.resolve_right fun e => h2 e.symm)
theorem IQP.made (h : IQP W0 b S A m c L B T1 T2 T3 Y1 Y2 Y3 u i1 s1 i2 s2 D a w) {i s : Nat} (x : Value) (hb : Below w.heap.size w w') (h1 : i ≠ i1) (h2 : i ≠ i2) (hs1 : s ≠ s1) (hs2 : s ≠ s2) : IQP W0 b S A m c L B T1 T2 T3 Y1 Y2 Y3 u i1 s1 i2 s2 (fun j => D j ∨ j = i) (a.put (some s) x) w' := by
  obtain ⟨S1, l1, hS, hH, hB, n1, d1, d2⟩ := h.rd
  refine ⟨S1, l1, hS.later hb, hH.later hb, Nat.le_trans hB hb.size, fun hn => (n1 fun h' => hn (.inl h')).imp id (·.later hb), fun hd hn => ?_, fun hd => ?_⟩
  · rw [eval_put_other _ _ (Ne.symm hs1)]
    exact (d1 (hd.resolve_right fun e => h1 e.symm) fun h' => hn (.inl h')).imp id (·.later hb)
  · rw [eval_put_other _ _ (Ne.symm hs2)]
    exact (d2 (hd.resolve_right fun e => h2 e.symm)).imp id (·.later hb)
end

section
variable {P : Program} {ops : Array Oper} {Q : Exit → Act → World → Prop} {i : Nat} {o : Oper} {a : Act} {w : World} {K : Act → World → Prop}
theorem wpOp_call3t (ho : ops[i]? = some o) (hw : Region.wanted o (yielded ops a.tmps) = true) (f : FuncId) (x y z : Operand) (ts : Array TypeId) (hop : o.op = .call { callee := .value (.func f), args := #[x, y, z], argTypes := ts }) (u u' u'' : Value) (hx : a.eval x = u) (hy : a.eval y = u') (hz : a.eval z = u'')
    {R : Ending → World → Prop} (hcf : (callFunc f #[u, u', u'']).run P w = .ok (.enter f #[u, u', u'']) w) (hc : Calls P f #[u, u', u''] w R) (hK : ∀ e w', R e w' → ∃ v, e = .returned v ∧ K (a.put o.dst v) w') : wpOp P ops Q i K a w :=
  wpOp_call ho hw f #[u, u', u''] (by
    subst hx
    subst hy
    subst hz
    unfold execOp
    simp only [hop, resolve, Act.eval, Deferred.ofValue, invoke, Sem.run_bind, Sem.run_pure, Result.andThen_ok, List.map_toArray, List.map_cons, List.map_nil, Array.append_empty]
    exact hcf) hc hK
end
theorem enters_putR (vs : Array Value) (w : World) : (callFunc 38 vs).run Try.prog w = .ok (.enter 38 vs) w := by kernel_rfl
end Go.Proofs.Ytodncamohimmmaa

namespace Go.Proofs.Ytodncamohimmmaa
open Go.RowKit Go.Lib Leb

structure Ln where
  ses : Int
  ans : Bool
  A : Option Addr
  n : Nat
  c : Nat
  hs : List Hd
def lcells (ls : List Ln) : List Value := ls.flatMap fun l => [.int .i64 l.ses, .bool l.ans, .slice l.A l.n l.c]
theorem lcells_append (a b : List Ln) : lcells (a ++ b) = lcells a ++ lcells b := by simp [lcells]
theorem lcells_at {ls : List Ln} {j : Nat} {l : Ln} (h : ls[j]? = some l) : (lcells ls)[j * 3]? = some (.int .i64 l.ses) ∧ (lcells ls)[j * 3 + 1]? = some (.bool l.ans) ∧ (lcells ls)[j * 3 + 2]? = some (.slice l.A l.n l.c) := by
  induction ls generalizing j with
  | nil => simp at h
  | cons x r ih =>
    cases j with
    | zero =>
      have : x = l := by simpa using h
      subst this
      simp [lcells]
    | succ j =>
      have := ih (j := j) (by simpa using h)
      have e : lcells (x :: r) = .int .i64 x.ses :: .bool x.ans :: .slice x.A x.n x.c :: lcells r := rfl
      rw [e, show (j + 1) * 3 = j * 3 + 3 by omega]
      simpa using this
def isL (s : Int) (a : Bool) (l : Ln) : Bool := decide (l.ses = s) && (l.ans == a)
def findL : List Ln → Int → Bool → List Hd
  | [], _, _ => []
  | l :: r, s, a => if isL s a l = true then l.hs else findL r s a
theorem findL_first : ∀ (ls : List Ln) (s : Int) (a : Bool) (k : Nat) (l : Ln), (∀ (j : Nat) (x : Ln), j < k → ls[j]? = some x → isL s a x = false) → ls[k]? = some l → isL s a l = true → findL ls s a = l.hs
  | [], _, _, k, l, _, h, _ => by simp at h
  | x :: r, s, a, 0, l, _, h, hl => by
    have : x = l := by simpa using h
    subst this
    exact if_pos hl
  | x :: r, s, a, k + 1, l, hb, h, hl => by
    have h0 := hb 0 x (by omega) rfl
    unfold findL
    rw [if_neg (by rw [h0]; simp)]
    exact findL_first r s a k l (fun j y hj hy => hb (j + 1) y (by omega) (by simpa using hy)) (by simpa using h) hl
theorem findL_none : ∀ (ls : List Ln) (s : Int) (a : Bool), (∀ (j : Nat) (x : Ln), ls[j]? = some x → isL s a x = false) → findL ls s a = []
  | [], _, _, _ => rfl
  | x :: r, s, a, hb => by
    unfold findL
    rw [if_neg (by rw [hb 0 x rfl]; simp)]
    exact findL_none r s a fun j y hy => hb (j + 1) y (by simpa using hy)

structure RBk (w : World) (b t : Nat) (T0 : Nat → Prop) (u : Value) (ls : List Ln) (T : List (List UInt8)) (tick : Int) : Prop where
  blk : w.heap[b]? = some (.cells #[.pointer (some ⟨t, 0, Option.none⟩), .int .i64 tick, u] 73 (0, 0))
  tab : RTab w t T T0
  own : w.ownsRow 0 123 3 u ls.length (lcells ls)
  nbt : ¬ T0 b
  nub : u.ownBlock ≠ some b
  nut : ∀ g, u.ownBlock = some g → ¬ T0 g
  hds : ∀ l ∈ ls, HdO w l.A l.n l.c l.hs fun k => k = b ∨ T0 k ∨ u.ownBlock = some k
def inB (b : Nat) (T0 : Nat → Prop) (u : Value) (k : Nat) : Prop := k = b ∨ T0 k ∨ u.ownBlock = some k

section
variable {w w' : World} {b t : Nat} {T0 : Nat → Prop} {u : Value} {ls : List Ln} {T : List (List UInt8)} {tick : Int}
theorem RBk.lt (h : RBk w b t T0 u ls T tick) : b < w.heap.size := (Array.getElem?_eq_some_iff.1 h.blk).1
theorem RBk.low (h : RBk w b t T0 u ls T tick) : ∀ k, inB b T0 u k → k < w.heap.size := fun k hk => by
  rcases hk with rfl | hk | hk
  · exact h.lt
  · exact h.tab.low k hk
  · exact (World.ownsRow.lt h.own k hk).2
theorem RBk.cell (h : RBk w b t T0 u ls T tick) : w.cell? ⟨b, 0, Option.none⟩ = some (.pointer (some ⟨t, 0, Option.none⟩)) ∧ w.cell? ⟨b, 1, Option.none⟩ = some (.int .i64 tick) ∧ w.cell? ⟨b, 2, Option.none⟩ = some u := by
  refine ⟨?_, ?_, ?_⟩
  · rw [cell_of_row w _ 0 _ _ _ h.blk]; rfl
  · rw [cell_of_row w _ 1 _ _ _ h.blk]; rfl
  · rw [cell_of_row w _ 2 _ _ _ h.blk]; rfl
theorem RBk.free (h : RBk w b t T0 u ls T tick) (i : Nat) : w.frozen? ⟨b, i, Option.none⟩ = false := frozen_of_row w _ i _ _ h.blk
theorem RBk.alt {S : Nat → Prop} (h : RBk w b t T0 u ls T tick) (ha : Alt w w' S) (hS : ∀ k, inB b T0 u k → ¬ S k) (hh : ∀ l ∈ ls, Off S l.A l.n) : RBk w' b t T0 u ls T tick :=
  ⟨(ha.block b h.lt (hS b (.inl rfl))).trans h.blk, h.tab.alt ha fun k hk => hS k (.inr (.inl hk)), ownsRow_alt h.own ha fun g hg => hS g (.inr (.inr hg)), h.nbt, h.nub, h.nut, fun l hl => ⟨(h.hds l hl).rd.alt ha (hh l hl), (h.hds l hl).off⟩⟩
theorem RBk.later (h : RBk w b t T0 u ls T tick) (hb : Below w.heap.size w w') : RBk w' b t T0 u ls T tick :=
  h.alt (alt_below hb fun _ => False) (fun _ _ h => h) fun _ _ _ _ _ _ h => h
theorem RBk.slice (h : RBk w b t T0 u ls T tick) : ∃ A c, u = .slice A ls.length c ∧ (0 < ls.length → ∃ g, A = some ⟨g, 0, Option.none⟩ ∧ ∀ j l, ls[j]? = some l → w.cell? ⟨g, j * 3, Option.none⟩ = some (.int .i64 l.ses) ∧ w.cell? ⟨g, j * 3 + 1, Option.none⟩ = some (.bool l.ans) ∧ w.cell? ⟨g, j * 3 + 2, Option.none⟩ = some (.slice l.A l.n l.c)) := by
  rcases h.own.2 with ⟨e, h0⟩ | ⟨g, cap, cur, e, hbg, hg, hn, hm, hs, ht⟩
  · exact ⟨Option.none, 0, by rw [e, h0], fun hp => absurd hp (by omega)⟩
  · refine ⟨_, cap, e, fun _ => ⟨g, rfl, fun j l hl => ?_⟩⟩
    have hj : j < ls.length := (List.getElem?_eq_some_iff.1 hl).1
    obtain ⟨c0, c1, c2⟩ := lcells_at hl
    have at_ := fun i (hi : i < ls.length * 3) => World.ownsRow.cellAt (by rw [← e]; exact h.own : w.ownsRow 0 123 3 (.slice (some ⟨g, 0, Option.none⟩) ls.length cap) ls.length (lcells ls)) i hi
    exact ⟨(at_ _ (by omega)).trans c0, (at_ _ (by omega)).trans c1, (at_ _ (by omega)).trans c2⟩
end

set_option maxHeartbeats 4000000 in
set_option maxRecDepth 100000 in
theorem refList_any (b t : Nat) (T0 : Nat → Prop) (u : Value) (ls : List Ln) (T : List (List UInt8)) (tick : Int) (s : Int) (a : Bool) (w : World) (h : RBk w b t T0 u ls T tick) (hl : ls.length ≤ 1000000) :
    Calls Try.prog 40 #[.pointer (some ⟨b, 0, Option.none⟩), .int .i64 s, .bool a] w fun e w' => ∃ A n c, e = .returned (.slice A n c) ∧ HdO w A n c (findL ls s a) (inB b T0 u) ∧ w = w' := by
  obtain ⟨A, c, hu, hcs⟩ := h.slice
  have hc2 := h.cell.2.2
  rw [hu] at hc2
  obtain ⟨n, hn⟩ : ∃ n, n = ls.length := ⟨_, rfl⟩
  rw [← hn] at hc2 hcs hl
  have hn' := Lib.hid hn
  have hh := Lib.hid h.hds
  have hcs' := Lib.hid hcs
  have hlow := Lib.hid h.lt
  clear h hu hcs hn
  go_enter Try.func40, Try.ntmps40
  go_wp2
  go_loop [7] (fun i => ∃ k : Nat, k ≤ n ∧ i = .int .i64 k ∧ ∀ j x, j < k → ls[j]? = some x → isL s a x = false) (fun i => n - (RowKit.intOf i).toNat)
  case atStart => exact ⟨0, Nat.zero_le _, rfl, fun j _ hj => absurd hj (by omega)⟩
  case round =>
    obtain ⟨k, hk, rfl, hno⟩ := hrel
    have hno' := Lib.hid hno
    clear hno
    by_cases hkn : k < n
    · obtain ⟨g, rfl, hc⟩ := hcs'.out (by omega)
      obtain ⟨l, hlk⟩ : ∃ l, ls[k]? = some l := ⟨_, List.getElem?_eq_getElem (by rw [← hn'.out]; exact hkn)⟩
      obtain ⟨d0, d1, d2⟩ := hc k l hlk
      have hlk' := Lib.hid hlk
      clear hc hlk
      obtain ⟨lses, lans, lA, ln, lc, lhs⟩ := l
      simp only at d0 d1 d2
      by_cases e1 : lses = s
      · subst e1
        by_cases e2 : lans = a
        · subst e2
          go_wp2
          all_goals
            go_ret
            refine ⟨lA, ln, lc, rfl, ?_, rfl⟩
            rw [findL_first ls lses lans k _ hno'.out hlk'.out (by simp [isL])]
            exact hh.out _ (List.mem_of_getElem? hlk'.out)
        · have q2 : (lans == a) = false := by cases lans <;> cases a <;> simp_all
          have e2' := Lib.hid q2
          clear e2
          go_wp2
          go_round
          case rel =>
            refine ⟨k + 1, by omega, by go_num, fun j x hj hx => ?_⟩
            by_cases ej : j = k
            · subst ej
              rw [hlk'.out] at hx
              injection hx with hx
              subst hx
              simp [isL, e2'.out]
            · exact hno'.out j x (by omega) hx
          case measure => simp [RowKit.intOf]; omega
      · have e1' := Lib.hid e1
        have q1 : decide (lses = s) = false := decide_eq_false e1
        go_wp2
        go_round
        case rel =>
          refine ⟨k + 1, by omega, by go_num, fun j x hj hx => ?_⟩
          by_cases ej : j = k
          · subst ej
            rw [hlk'.out] at hx
            injection hx with hx
            subst hx
            simp [isL, e1'.out]
          · exact hno'.out j x (by omega) hx
        case measure => simp [RowKit.intOf]; omega
    · obtain rfl : k = n := by omega
      go_wp2
      go_ret
      refine ⟨Option.none, 0, 0, rfl, ?_, rfl⟩
      rw [findL_none ls s a fun j x hx => hno'.out j x (by have := (List.getElem?_eq_some_iff.1 hx).1; rw [hn'.out]; exact this) hx]
      exact ⟨hds_empty _ _ _ (Nat.zero_le _) (fun _ => rfl), fun g off e h0 => absurd h0 (by omega)⟩
end Go.Proofs.Ytodncamohimmmaa
