/-
  Headers and bytes of the call's own beside a table, and two texts put one behind the other in open order. Conditions: those that each theorem states.
-/
import Derived.Test.YtkjnpdnihfohoaaTabDuo
import Derived.Test.YtkjnpdnihfohoaaDelOps
import Derived.Test.YtkjnpdnihfohoaaDelMath
namespace Go.Proofs.Ytkjnpdnihfohoaa
open Go.RowKit Go.Lib Go.Maps Go.WideMaps Leb

theorem Hds.alt {w w' : World} {S : Nat → Prop} {A : Option Addr} {n c : Nat} {l : List Hd} (h : Hds w A n c l) (ha : Alt w w' S) (ho : Off S A n) : Hds w' A n c l :=
  ⟨h.len, h.cap, h.room, h.bare, fun hn => by
    obtain ⟨b, off, e, hlt, hc⟩ := h.cell hn
    subst e
    refine ⟨b, off, rfl, Nat.lt_of_lt_of_le hlt ha.size, fun j hj => ?_⟩
    rw [← hc j hj]
    exact World.cell?_of_block (a := ⟨b, off + j, Option.none⟩) (ha.block b hlt (ho b off rfl hn))⟩
theorem Hds.block {w : World} {g off : Nat} {n c : Nat} {l : List Hd} (h : Hds w (some ⟨g, off, Option.none⟩) n c l) (hn : 0 < n) : g < w.heap.size := by
  obtain ⟨b, off', e, hlt, _⟩ := h.cell hn
  injection e with e
  injection e with e1 e2
  subst e1
  exact hlt
theorem OwnsH.alt {w w' : World} {S : Nat → Prop} {base : Nat} {v : Value} {l : List Hd} (h : OwnsH w base v l) (ha : Alt w w' S) (ho : OffV S v) : OwnsH w' base v l := ownsRow_alt h ha ho
theorem OwnsH.off {w : World} {S : Nat → Prop} {base : Nat} {v : Value} {l : List Hd} (h : OwnsH w base v l) (hS : ∀ j, S j → j < base) : OffV S v := fun g hg hs => by
  have := (World.ownsRow.lt h g hg).1
  have := hS g hs
  omega
/-- Headers that lie in none of a table's blocks. -/
structure HdO (w : World) (A : Option Addr) (n c : Nat) (l : List Hd) (S : Nat → Prop) : Prop where
  rd : Hds w A n c l
  off : Off S A n
/-- Bytes in memory of the call's own, which is none of a table's. -/
structure BtO (w : World) (B : Nat) (v : Value) (Y : List Int) (S : Nat → Prop) : Prop where
  own : Owns w B 5 v Y
  off : OffV S v
/-- Bytes that lie in none of a table's blocks. -/
structure ByO (w : World) (A : Option Addr) (n c : Nat) (X : List Int) (S : Nat → Prop) : Prop where
  rd : Holds w A n c X
  off : Off S A n
/-- Headers in memory of the call's own, which is none of a table's. -/
structure HwO (w : World) (B : Nat) (v : Value) (l : List Hd) (S : Nat → Prop) : Prop where
  own : OwnsH w B v l
  off : OffV S v
section
variable {w w' : World} {A : Option Addr} {n c B : Nat} {l : List Hd} {v : Value} {Y : List Int} {S S' : Nat → Prop}
theorem HdO.step (h : HdO w A n c l S) (ha : Alt w w' S) (hn : ∀ k, S' k → S k ∨ w.heap.size ≤ k) : HdO w' A n c l S' :=
  ⟨h.rd.alt ha h.off, fun g off e h0 hs => by
    subst e
    have hg := h.rd.block h0
    rcases hn g hs with h1 | h1
    · exact h.off g off rfl h0 h1
    · omega⟩
theorem HdO.later (h : HdO w A n c l S) (hb : Below w.heap.size w w') : HdO w' A n c l S := ⟨h.rd.later hb, h.off⟩
theorem ByO.step {X : List Int} (h : ByO w A n c X S) (ha : Alt w w' S) (hn : ∀ k, S' k → S k ∨ w.heap.size ≤ k) : ByO w' A n c X S' :=
  ⟨h.rd.alt ha h.off, fun g off e h0 hs => by
    subst e
    have hg := h.rd.block h0
    rcases hn g hs with h1 | h1
    · exact h.off g off rfl h0 h1
    · omega⟩
theorem ByO.later {X : List Int} (h : ByO w A n c X S) (hb : Below w.heap.size w w') : ByO w' A n c X S := ⟨h.rd.later hb, h.off⟩
/-- Memory of the call's own has grown in place, or anew. -/
theorem HdO.grown (h : HdO w A n c l S) {r : Option Nat} (hg : w.grownBy w' r) (hr : ∀ g off, A = some ⟨g, off, Option.none⟩ → 0 < n → r ≠ some g) : HdO w' A n c l S :=
  ⟨h.rd.alt (alt_grown hg (S := fun k => r = some k) fun _ hk => hk) fun g off e h0 hs => hr g off e h0 hs, h.off⟩
theorem ByO.grown {X : List Int} (h : ByO w A n c X S) {r : Option Nat} (hg : w.grownBy w' r) (hr : ∀ g off, A = some ⟨g, off, Option.none⟩ → 0 < n → r ≠ some g) : ByO w' A n c X S :=
  ⟨h.rd.alt (alt_grown hg (S := fun k => r = some k) fun _ hk => hk) fun g off e h0 hs => hr g off e h0 hs, h.off⟩
theorem BtO.step (h : BtO w B v Y S) (ha : Alt w w' S) (hn : ∀ k, S' k → S k ∨ w.heap.size ≤ k) : BtO w' B v Y S' :=
  ⟨h.own.alt ha h.off, fun g hg hs => by
    have := (h.own.2.lt g hg).2
    rcases hn g hs with h1 | h1
    · exact h.off g hg h1
    · omega⟩
theorem BtO.later (h : BtO w B v Y S) (hb : Below w.heap.size w w') : BtO w' B v Y S := ⟨h.own.kept hb (Nat.le_refl _), h.off⟩
theorem BtO.slice (h : BtO w B v Y S) : ∃ A c, v = .slice A Y.length c ∧ Holds w A Y.length c Y ∧ Off S A Y.length := by
  obtain ⟨A, c, rfl, hX⟩ := h.own.holds
  exact ⟨A, c, rfl, hX, h.off.off⟩
theorem BtO.reads {A : Option Addr} {n c : Nat} (h : BtO w B (.slice A n c) Y S) : Holds w A n c Y ∧ Off S A n := by
  obtain ⟨A', c', e, hX, ho⟩ := h.slice
  injection e with e1 e2 e3
  subst e1
  subst e2
  subst e3
  exact ⟨hX, ho⟩
theorem HwO.step (h : HwO w B v l S) (ha : Alt w w' S) (hn : ∀ k, S' k → S k ∨ w.heap.size ≤ k) : HwO w' B v l S' :=
  ⟨h.own.alt ha h.off, fun g hg hs => by
    have := (World.ownsRow.lt h.own g hg).2
    rcases hn g hs with h1 | h1
    · exact h.off g hg h1
    · omega⟩
theorem HwO.later (h : HwO w B v l S) (hb : Below w.heap.size w w') : HwO w' B v l S := ⟨h.own.kept hb (Nat.le_refl _), h.off⟩
theorem off_below {w : World} {S : Nat → Prop} {A : Option Addr} {n c : Nat} {l : List Hd} (h : Hds w A n c l) (hS : ∀ k, S k → w.heap.size ≤ k) : Off S A n := fun g off e h0 hs => by
  subst e
  have := h.block h0
  have := hS g hs
  omega
end
/-- Block g is a header's. -/
def Bx (w : World) (g : Nat) (x y : ByteArray) : Prop := w.heap[g]? = some (.cells #[.string x, .string y] 44 (0, 0))
section
variable {w w' : World} {g : Nat} {x y : ByteArray} {S : Nat → Prop}
theorem bx_new (w : World) (x y : ByteArray) : Bx (w.alloc (.cells #[.string x, .string y] 44)) w.heap.size x y := heap_alloc_new w _
theorem Bx.lt (h : Bx w g x y) : g < w.heap.size := (Array.getElem?_eq_some_iff.1 h).1
theorem Bx.alt (h : Bx w g x y) (ha : Alt w w' S) (hg : ¬ S g) : Bx w' g x y := (ha.block g h.lt hg).trans h
theorem Bx.cell0 (h : Bx w g x y) : w.cell? ⟨g, 0, Option.none⟩ = some (.string x) := by rw [cell_of_row w _ 0 _ _ _ h]; rfl
theorem Bx.cell1 (h : Bx w g x y) : w.cell? ⟨g, 1, Option.none⟩ = some (.string y) := by rw [cell_of_row w _ 1 _ _ _ h]; rfl
theorem Bx.free (h : Bx w g x y) (k : Nat) : w.frozen? ⟨g, k, Option.none⟩ = false := frozen_of_row w g k _ _ h
theorem Bx.set0 (h : Bx w g x y) (z : ByteArray) : Bx (w.setCell ⟨g, 0, Option.none⟩ (.string z)) g z y := heap_setCell_same w g 0 _ _ _ h
theorem Bx.set1 (h : Bx w g x y) (z : ByteArray) : Bx (w.setCell ⟨g, 1, Option.none⟩ (.string z)) g x z := heap_setCell_same w g 1 _ _ _ h
end
theorem below_none20 {w0 w w' : World} {S : Nat → Prop} (h : Below ({ w0 with heap := #[] } : World).heap.size { w0 with heap := #[] } w) (ha : Alt w w' S) : Below ({ w0 with heap := #[] } : World).heap.size { w0 with heap := #[] } w' :=
  ⟨ha.os.trans h.os, ha.tape.trans h.tape, ha.output.trans h.output, Nat.zero_le _, fun k hk => absurd hk (by simp)⟩
theorem below_none0 {w w' : World} (h : Below w.heap.size w w') : Below ({ w with heap := #[] } : World).heap.size { w with heap := #[] } w' := ⟨h.os, h.tape, h.output, Nat.zero_le _, fun k hk => absurd hk (by simp)⟩
theorem putAll_eval20 {a0 : Act} {ds : List Nat} {f : Nat → Value} {a : Act} (ha : a = putAll a0 ds (ds.map f)) (hd : ds.Nodup) (hN : ∀ t ∈ ds, t < a0.tmps.size) {t : Nat} (ht : t ∈ ds) : a.eval (.tmp t) = f t := by
  rw [ha]
  exact putAll_at a0 f ds hd hN t ht

section
variable {w w1 w' W0 : World} {b : Nat} {S S1 S2 S' : Nat → Prop} {l1 l2 l' : List (List UInt8)} {A : Option Addr} {n c B m : Nat} {L : List Hd} {v : Value} {Y : List Int}
theorem RStep.same (h : RTab w b l1 S) (hb : Below w.heap.size w w') : RStep w w' b S S l1 := ⟨h.later hb, alt_below hb _, fun _ h => .inl h⟩
theorem RStep.trans (h : RStep w w1 b S S1 l1) (k : RStep w1 w' b S1 S2 l2) : RStep w w' b S S2 l2 :=
  ⟨k.tab, h.alt.trans k.alt fun j hj hs => by
    rcases h.new j hs with h1 | h1
    · exact h1
    · omega, fun j hj => by
    rcases k.new j hj with h1 | h1
    · exact h.new j h1
    · exact .inr (Nat.le_trans h.alt.size h1)⟩
theorem RStep.later (h : RStep w w1 b S S1 l1) (hb : Below w1.heap.size w1 w') : RStep w w' b S S1 l1 := ⟨h.tab.later hb, h.alt.behind hb, h.new⟩
theorem RStep.ahead (hb : Below w.heap.size w w1) (k : RStep w1 w' b S S1 l1) : RStep w w' b S S1 l1 :=
  ⟨k.tab, Alt.ahead hb k.alt, fun j hj => (k.new j hj).imp id fun h => Nat.le_trans hb.size h⟩
/-- A cell of a block made since is stored. -/
theorem RStep.set (h : RStep w w1 b S S1 l1) (p : Addr) (x : Value) (hp : w.heap.size ≤ p.block) (hn : ¬ S1 p.block) : RStep w (w1.setCell p x) b S S1 l1 :=
  ⟨h.tab.alt (alt_set w1 p x (S := fun k => k = p.block) rfl) fun k hk e => hn (e ▸ hk), h.alt.trans (alt_set w1 p x (S := fun k => k = p.block) rfl) fun j hj e => by omega, h.new⟩
/-- What lies apart from the table, behind memory of the call's own that has grown in place. -/
theorem RStep.grown (h : RStep w w1 b S S1 l1) (hg : w1.grownBy w' v.ownBlock) (ho : OffV S1 v) (hB : ∀ g, v.ownBlock = some g → w.heap.size ≤ g) : RStep w w' b S S1 l1 :=
  ⟨h.tab.alt (alt_grown hg (S := fun k => v.ownBlock = some k) fun k hk => hk) fun k hk e => ho k e hk, h.alt.trans (alt_grown hg (S := fun k => v.ownBlock = some k) fun k hk => hk) fun j hj e => by have := hB j e; omega, h.new⟩

/-- Headers appended to a slice of the call's own, beside the table, other headers and bytes. -/
theorem RStep.appH {W1 : World} {v' : Value} {xs l : List Hd} {A2 : Option Addr} {n2 c2 : Nat} {X : List Int} (h : RStep w w1 b S S1 l1) (hO : HwO w1 w.heap.size v xs S1) (hW : HdO w1 A n c L S1) (hX : ByO w1 A2 n2 c2 X S1) (hW0 : Hds w A n c L) (hX0 : Holds w A2 n2 c2 X)
    (hb : Below w1.heap.size w1 W1) (hown : OwnsH w' w.heap.size v' (xs ++ l)) (hg : W1.grownBy w' v.ownBlock) (hat : v'.ownBlock = v.ownBlock ∨ v'.ownBlock = some W1.heap.size) :
    RStep w w' b S S1 l1 ∧ HwO w' w.heap.size v' (xs ++ l) S1 ∧ HdO w' A n c L S1 ∧ ByO w' A2 n2 c2 X S1 := by
  have hlt : ∀ g, v.ownBlock = some g → w.heap.size ≤ g := fun g e => (World.ownsRow.lt hO.own g e).1
  refine ⟨(h.later hb).grown hg hO.off hlt, ⟨hown, fun g e hs => ?_⟩, (hW.later hb).grown hg fun g off e h0 e2 => ?_, (hX.later hb).grown hg fun g off e h0 e2 => ?_⟩
  · rcases hat with hat | hat
    · exact hO.off g (by rw [← hat, e]) hs
    · rw [hat] at e
      injection e with e
      have h1 := h.tab.low g hs
      have h2 := hb.size
      omega
  · subst e
    have h1 := hW0.block h0
    have h2 := hlt g e2
    omega
  · subst e
    have h1 := hX0.block h0
    have h2 := hlt g e2
    omega
/-- While 'Put(Put(out, x), y)' is done: the table, the headers, and the bytes so far. -/
structure IQR (W0 : World) (b : Nat) (S : Nat → Prop) (A : Option Addr) (m c : Nat) (L : List Hd) (B : Nat) (T1 T2 T3 : List (List UInt8)) (Y1 Y2 Y3 : List Int) (u : Value) (i1 s1 i2 s2 : Nat) (D : Nat → Prop) (a : Act) (w : World) : Prop where
  rd : ∃ S1 l1, RStep W0 w b S S1 l1 ∧ HdO w A m c L S1 ∧ B ≤ w.heap.size ∧ (¬ D i1 → l1 = T1 ∧ BtO w B u Y1 S1) ∧ (D i1 → ¬ D i2 → l1 = T2 ∧ BtO w B (a.eval (.tmp s1)) Y2 S1) ∧ (D i2 → l1 = T3 ∧ BtO w B (a.eval (.tmp s2)) Y3 S1)
end
section
variable {W0 w w' : World} {b : Nat} {S : Nat → Prop} {A : Option Addr} {m c B : Nat} {L : List Hd} {T1 T2 T3 : List (List UInt8)} {Y1 Y2 Y3 : List Int} {u : Value} {i1 s1 i2 s2 : Nat} {D : Nat → Prop} {a : Act}
theorem IQR.pure (h : IQR W0 b S A m c L B T1 T2 T3 Y1 Y2 Y3 u i1 s1 i2 s2 D a w) {i s : Nat} (x : Value) (h1 : i ≠ i1) (h2 : i ≠ i2) (hs1 : s ≠ s1) (hs2 : s ≠ s2) : IQR W0 b S A m c L B T1 T2 T3 Y1 Y2 Y3 u i1 s1 i2 s2 (fun j => D j ∨ j = i) (a.put (some s) x) w := by
  obtain ⟨S1, l1, hS, hH, hB, n1, d1, d2⟩ := h.rd
  refine ⟨S1, l1, hS, hH, hB, fun hn => n1 fun h' => hn (.inl h'), fun hd hn => ?_, fun hd => ?_⟩
  · rw [eval_put_other _ _ (Ne.symm hs1)]
    exact d1 (hd.resolve_right fun e => h1 e.symm) fun h' => hn (.inl h')
  · rw [eval_put_other _ _ (Ne.symm hs2)]
    exact d2 (hd.resolve_right fun e => h2 e.symm)
/-- An operation that has made memory, and leaves what was there. -/
theorem IQR.made (h : IQR W0 b S A m c L B T1 T2 T3 Y1 Y2 Y3 u i1 s1 i2 s2 D a w) {i s : Nat} (x : Value) (hb : Below w.heap.size w w') (h1 : i ≠ i1) (h2 : i ≠ i2) (hs1 : s ≠ s1) (hs2 : s ≠ s2) : IQR W0 b S A m c L B T1 T2 T3 Y1 Y2 Y3 u i1 s1 i2 s2 (fun j => D j ∨ j = i) (a.put (some s) x) w' := by
  obtain ⟨S1, l1, hS, hH, hB, n1, d1, d2⟩ := h.rd
  refine ⟨S1, l1, hS.later hb, hH.later hb, Nat.le_trans hB hb.size, fun hn => (n1 fun h' => hn (.inl h')).imp id (·.later hb), fun hd hn => ?_, fun hd => ?_⟩
  · rw [eval_put_other _ _ (Ne.symm hs1)]
    exact (d1 (hd.resolve_right fun e => h1 e.symm) fun h' => hn (.inl h')).imp id (·.later hb)
  · rw [eval_put_other _ _ (Ne.symm hs2)]
    exact (d2 (hd.resolve_right fun e => h2 e.symm)).imp id (·.later hb)
theorem iqR_first (hn2 : ¬ D i2) (hsz : s1 < a.tmps.size) (h12 : i1 ≠ i2) {S1 S' : Nat → Prop} (hS : RStep W0 w b S S1 T1) (hH : HdO w A m c L S1) (hB : B ≤ w.heap.size)
    {r : Value} (hown : Owns w' w.heap.size 5 r Y2) (hof : OffV S' r) (hst : RStep w w' b S1 S' T2) : IQR W0 b S A m c L B T1 T2 T3 Y1 Y2 Y3 u i1 s1 i2 s2 (fun j => D j ∨ j = i1) (a.put (some s1) r) w' := by
  refine ⟨S', T2, hS.trans hst, hH.step hst.alt hst.new, Nat.le_trans hB hst.alt.size, fun hn => absurd (.inr rfl) hn, fun _ _ => ?_, fun hd => hd.elim (fun h' => absurd h' hn2) fun e => absurd e.symm h12⟩
  rw [eval_put_same _ _ _ hsz]
  exact ⟨rfl, hown.low hB, hof⟩
theorem iqR_second (hd1 : D i1) (hsz : s2 < a.tmps.size) {S1 S' : Nat → Prop} (hS : RStep W0 w b S S1 T2) (hH : HdO w A m c L S1) (hB : B ≤ w.heap.size)
    {r : Value} (hown : Owns w' w.heap.size 5 r Y3) (hof : OffV S' r) (hst : RStep w w' b S1 S' T3) : IQR W0 b S A m c L B T1 T2 T3 Y1 Y2 Y3 u i1 s1 i2 s2 (fun j => D j ∨ j = i2) (a.put (some s2) r) w' := by
  refine ⟨S', T3, hS.trans hst, hH.step hst.alt hst.new, Nat.le_trans hB hst.alt.size, fun hn => absurd (.inl hd1) hn, fun _ hn => absurd (.inr rfl) hn, fun _ => ?_⟩
  rw [eval_put_same _ _ _ hsz]
  exact ⟨rfl, hown.low hB, hof⟩
theorem iqR_cells {g off : Nat} (h : IQR W0 b S (some ⟨g, off, Option.none⟩) m c L B T1 T2 T3 Y1 Y2 Y3 u i1 s1 i2 s2 D a w) {k : Nat} (hk : k < m) {x y : ByteArray} (hx : L[k]? = some (x, y)) : w.cell? ⟨g, off + k * 2, Option.none⟩ = some (.string x) ∧ w.cell? ⟨g, off + k * 2 + 1, Option.none⟩ = some (.string y) := by
  obtain ⟨S1, l1, hS, hH, _⟩ := h.rd
  have hl := hH.rd.len
  obtain ⟨b', off', e, h1, h2⟩ := hH.rd.at hk
  injection e with e
  injection e with e1 e2
  subst e1
  subst e2
  rw [List.getElem?_eq_getElem (by omega)] at hx
  injection hx with hx
  rw [hx] at h1 h2
  exact ⟨h1, h2⟩
end

section
variable {w w1 w' W0 : World} {b : Nat} {S S1 S2 S' : Nat → Prop} {l1 l2 l' : List (List UInt8)} {A : Option Addr} {n c B m : Nat} {L : List Hd} {v : Value} {Y : List Int}
theorem PStep.same (h : PTab w b l1 S) (hb : Below w.heap.size w w') : PStep w w' b S S l1 := ⟨h.later hb, alt_below hb _, fun _ h => .inl h⟩
theorem PStep.trans (h : PStep w w1 b S S1 l1) (k : PStep w1 w' b S1 S2 l2) : PStep w w' b S S2 l2 :=
  ⟨k.tab, h.alt.trans k.alt fun j hj hs => by
    rcases h.new j hs with h1 | h1
    · exact h1
    · omega, fun j hj => by
    rcases k.new j hj with h1 | h1
    · exact h.new j h1
    · exact .inr (Nat.le_trans h.alt.size h1)⟩
theorem PStep.later (h : PStep w w1 b S S1 l1) (hb : Below w1.heap.size w1 w') : PStep w w' b S S1 l1 := ⟨h.tab.later hb, h.alt.behind hb, h.new⟩
theorem PStep.ahead (hb : Below w.heap.size w w1) (k : PStep w1 w' b S S1 l1) : PStep w w' b S S1 l1 :=
  ⟨k.tab, Alt.ahead hb k.alt, fun j hj => (k.new j hj).imp id fun h => Nat.le_trans hb.size h⟩
/-- A cell of a block made since is stored. -/
theorem PStep.set (h : PStep w w1 b S S1 l1) (p : Addr) (x : Value) (hp : w.heap.size ≤ p.block) (hn : ¬ S1 p.block) : PStep w (w1.setCell p x) b S S1 l1 :=
  ⟨h.tab.alt (alt_set w1 p x (S := fun k => k = p.block) rfl) fun k hk e => hn (e ▸ hk), h.alt.trans (alt_set w1 p x (S := fun k => k = p.block) rfl) fun j hj e => by omega, h.new⟩
/-- What lies apart from the table, behind memory of the call's own that has grown in place. -/
theorem PStep.grown (h : PStep w w1 b S S1 l1) (hg : w1.grownBy w' v.ownBlock) (ho : OffV S1 v) (hB : ∀ g, v.ownBlock = some g → w.heap.size ≤ g) : PStep w w' b S S1 l1 :=
  ⟨h.tab.alt (alt_grown hg (S := fun k => v.ownBlock = some k) fun k hk => hk) fun k hk e => ho k e hk, h.alt.trans (alt_grown hg (S := fun k => v.ownBlock = some k) fun k hk => hk) fun j hj e => by have := hB j e; omega, h.new⟩

/-- Headers appended to a slice of the call's own, beside the table, other headers and bytes. -/
theorem PStep.appH {W1 : World} {v' : Value} {xs l : List Hd} {A2 : Option Addr} {n2 c2 : Nat} {X : List Int} (h : PStep w w1 b S S1 l1) (hO : HwO w1 w.heap.size v xs S1) (hW : HdO w1 A n c L S1) (hX : ByO w1 A2 n2 c2 X S1) (hW0 : Hds w A n c L) (hX0 : Holds w A2 n2 c2 X)
    (hb : Below w1.heap.size w1 W1) (hown : OwnsH w' w.heap.size v' (xs ++ l)) (hg : W1.grownBy w' v.ownBlock) (hat : v'.ownBlock = v.ownBlock ∨ v'.ownBlock = some W1.heap.size) :
    PStep w w' b S S1 l1 ∧ HwO w' w.heap.size v' (xs ++ l) S1 ∧ HdO w' A n c L S1 ∧ ByO w' A2 n2 c2 X S1 := by
  have hlt : ∀ g, v.ownBlock = some g → w.heap.size ≤ g := fun g e => (World.ownsRow.lt hO.own g e).1
  refine ⟨(h.later hb).grown hg hO.off hlt, ⟨hown, fun g e hs => ?_⟩, (hW.later hb).grown hg fun g off e h0 e2 => ?_, (hX.later hb).grown hg fun g off e h0 e2 => ?_⟩
  · rcases hat with hat | hat
    · exact hO.off g (by rw [← hat, e]) hs
    · rw [hat] at e
      injection e with e
      have h1 := h.tab.low g hs
      have h2 := hb.size
      omega
  · subst e
    have h1 := hW0.block h0
    have h2 := hlt g e2
    omega
  · subst e
    have h1 := hX0.block h0
    have h2 := hlt g e2
    omega
/-- While 'Put(Put(out, x), y)' is done: the table, the headers, and the bytes so far. -/
structure IQP (W0 : World) (b : Nat) (S : Nat → Prop) (A : Option Addr) (m c : Nat) (L : List Hd) (B : Nat) (T1 T2 T3 : List (List UInt8)) (Y1 Y2 Y3 : List Int) (u : Value) (i1 s1 i2 s2 : Nat) (D : Nat → Prop) (a : Act) (w : World) : Prop where
  rd : ∃ S1 l1, PStep W0 w b S S1 l1 ∧ HdO w A m c L S1 ∧ B ≤ w.heap.size ∧ (¬ D i1 → l1 = T1 ∧ BtO w B u Y1 S1) ∧ (D i1 → ¬ D i2 → l1 = T2 ∧ BtO w B (a.eval (.tmp s1)) Y2 S1) ∧ (D i2 → l1 = T3 ∧ BtO w B (a.eval (.tmp s2)) Y3 S1)
end
section
variable {W0 w w' : World} {b : Nat} {S : Nat → Prop} {A : Option Addr} {m c B : Nat} {L : List Hd} {T1 T2 T3 : List (List UInt8)} {Y1 Y2 Y3 : List Int} {u : Value} {i1 s1 i2 s2 : Nat} {D : Nat → Prop} {a : Act}
theorem IQP.pure (h : IQP W0 b S A m c L B T1 T2 T3 Y1 Y2 Y3 u i1 s1 i2 s2 D a w) {i s : Nat} (x : Value) (h1 : i ≠ i1) (h2 : i ≠ i2) (hs1 : s ≠ s1) (hs2 : s ≠ s2) : IQP W0 b S A m c L B T1 T2 T3 Y1 Y2 Y3 u i1 s1 i2 s2 (fun j => D j ∨ j = i) (a.put (some s) x) w := by
  obtain ⟨S1, l1, hS, hH, hB, n1, d1, d2⟩ := h.rd
  refine ⟨S1, l1, hS, hH, hB, fun hn => n1 fun h' => hn (.inl h'), fun hd hn => ?_, fun hd => ?_⟩
  · rw [eval_put_other _ _ (Ne.symm hs1)]
    exact d1 (hd.resolve_right fun e => h1 e.symm) fun h' => hn (.inl h')
  · rw [eval_put_other _ _ (Ne.symm hs2)]
    exact d2 (hd.resolve_right fun e => h2 e.symm)
/-- An operation that has made memory, and leaves what was there. -/
theorem IQP.made (h : IQP W0 b S A m c L B T1 T2 T3 Y1 Y2 Y3 u i1 s1 i2 s2 D a w) {i s : Nat} (x : Value) (hb : Below w.heap.size w w') (h1 : i ≠ i1) (h2 : i ≠ i2) (hs1 : s ≠ s1) (hs2 : s ≠ s2) : IQP W0 b S A m c L B T1 T2 T3 Y1 Y2 Y3 u i1 s1 i2 s2 (fun j => D j ∨ j = i) (a.put (some s) x) w' := by
  obtain ⟨S1, l1, hS, hH, hB, n1, d1, d2⟩ := h.rd
  refine ⟨S1, l1, hS.later hb, hH.later hb, Nat.le_trans hB hb.size, fun hn => (n1 fun h' => hn (.inl h')).imp id (·.later hb), fun hd hn => ?_, fun hd => ?_⟩
  · rw [eval_put_other _ _ (Ne.symm hs1)]
    exact (d1 (hd.resolve_right fun e => h1 e.symm) fun h' => hn (.inl h')).imp id (·.later hb)
  · rw [eval_put_other _ _ (Ne.symm hs2)]
    exact (d2 (hd.resolve_right fun e => h2 e.symm)).imp id (·.later hb)
theorem iqP_first (hn2 : ¬ D i2) (hsz : s1 < a.tmps.size) (h12 : i1 ≠ i2) {S1 S' : Nat → Prop} (hS : PStep W0 w b S S1 T1) (hH : HdO w A m c L S1) (hB : B ≤ w.heap.size)
    {r : Value} (hown : Owns w' w.heap.size 5 r Y2) (hof : OffV S' r) (hst : PStep w w' b S1 S' T2) : IQP W0 b S A m c L B T1 T2 T3 Y1 Y2 Y3 u i1 s1 i2 s2 (fun j => D j ∨ j = i1) (a.put (some s1) r) w' := by
  refine ⟨S', T2, hS.trans hst, hH.step hst.alt hst.new, Nat.le_trans hB hst.alt.size, fun hn => absurd (.inr rfl) hn, fun _ _ => ?_, fun hd => hd.elim (fun h' => absurd h' hn2) fun e => absurd e.symm h12⟩
  rw [eval_put_same _ _ _ hsz]
  exact ⟨rfl, hown.low hB, hof⟩
theorem iqP_second (hd1 : D i1) (hsz : s2 < a.tmps.size) {S1 S' : Nat → Prop} (hS : PStep W0 w b S S1 T2) (hH : HdO w A m c L S1) (hB : B ≤ w.heap.size)
    {r : Value} (hown : Owns w' w.heap.size 5 r Y3) (hof : OffV S' r) (hst : PStep w w' b S1 S' T3) : IQP W0 b S A m c L B T1 T2 T3 Y1 Y2 Y3 u i1 s1 i2 s2 (fun j => D j ∨ j = i2) (a.put (some s2) r) w' := by
  refine ⟨S', T3, hS.trans hst, hH.step hst.alt hst.new, Nat.le_trans hB hst.alt.size, fun hn => absurd (.inl hd1) hn, fun _ hn => absurd (.inr rfl) hn, fun _ => ?_⟩
  rw [eval_put_same _ _ _ hsz]
  exact ⟨rfl, hown.low hB, hof⟩
theorem iqP_cells {g off : Nat} (h : IQP W0 b S (some ⟨g, off, Option.none⟩) m c L B T1 T2 T3 Y1 Y2 Y3 u i1 s1 i2 s2 D a w) {k : Nat} (hk : k < m) {x y : ByteArray} (hx : L[k]? = some (x, y)) : w.cell? ⟨g, off + k * 2, Option.none⟩ = some (.string x) ∧ w.cell? ⟨g, off + k * 2 + 1, Option.none⟩ = some (.string y) := by
  obtain ⟨S1, l1, hS, hH, _⟩ := h.rd
  have hl := hH.rd.len
  obtain ⟨b', off', e, h1, h2⟩ := hH.rd.at hk
  injection e with e
  injection e with e1 e2
  subst e1
  subst e2
  rw [List.getElem?_eq_getElem (by omega)] at hx
  injection hx with hx
  rw [hx] at h1 h2
  exact ⟨h1, h2⟩
end

section
variable {P : Program} {ops : Array Oper} {Q : Exit → Act → World → Prop} {i : Nat} {o : Oper} {a : Act} {w : World} {K : Act → World → Prop}
theorem wpOp_call3t (ho : ops[i]? = some o) (hw : Region.wanted o (yielded ops a.tmps) = true) (f : FuncId) (x y z : Operand) (ts : Array TypeId) (hop : o.op = .call { callee := .value (.func f), args := #[x, y, z], argTypes := ts }) (u u' u'' : Value) (hx : a.eval x = u) (hy : a.eval y = u') (hz : a.eval z = u'')
    {R : Ending → World → Prop} (hcf : (callFunc f #[u, u', u'']).run P w = .ok (.enter f #[u, u', u'']) w) (hc : Calls P f #[u, u', u''] w R) (hK : ∀ e w', R e w' → ∃ v, e = .returned v ∧ K (a.put o.dst v) w') : wpOp P ops Q i K a w :=
  wpOp_call ho hw f #[u, u', u''] (by
    subst hx
    subst hy
    subst hz
    unfold execOp
    simp only [hop, resolve, Act.eval, Deferred.ofValue, invoke, Sem.run_bind, Sem.run_pure, Result.andThen_ok, List.map_toArray, List.map_cons, List.map_nil, Array.append_empty]
    exact hcf) hc hK
end
theorem enters_putP (vs : Array Value) (w : World) : (callFunc 17 vs).run Try.prog w = .ok (.enter 17 vs) w := by kernel_rfl
theorem enters_putR (vs : Array Value) (w : World) : (callFunc 21 vs).run Try.prog w = .ok (.enter 21 vs) w := by kernel_rfl
end Go.Proofs.Ytkjnpdnihfohoaa
