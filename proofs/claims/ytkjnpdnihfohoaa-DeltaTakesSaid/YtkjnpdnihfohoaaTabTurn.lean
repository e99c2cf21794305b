/-
  Memory of which certain blocks alone have changed, and what stays in it. Conditions: those that each theorem states.
-/
import Derived.Test.YtkjnpdnihfohoaaLow
import Derived.Maps.OwnSet
namespace Go.Proofs.Ytkjnpdnihfohoaa
open Go.RowKit Go.Lib Leb

/-- Of what was there nothing has changed but blocks of which S holds. -/
structure Alt (w w' : World) (S : Nat → Prop) : Prop where
  os : w'.os = w.os
  tape : w'.tape = w.tape
  output : w'.output = w.output
  size : w.heap.size ≤ w'.heap.size
  block : ∀ k, k < w.heap.size → ¬ S k → w'.heap[k]? = w.heap[k]?

section
variable {w w1 w' : World} {S S' : Nat → Prop}

theorem alt_refl (w : World) (S : Nat → Prop) : Alt w w S := ⟨rfl, rfl, rfl, Nat.le_refl _, fun _ _ _ => rfl⟩
theorem alt_below (h : Below w.heap.size w w') (S : Nat → Prop) : Alt w w' S := ⟨h.os, h.tape, h.output, h.size, fun k hk _ => h.block k hk⟩
theorem alt_grown {r : Option Nat} (h : w.grownBy w' r) (hS : ∀ k, r = some k → S k) : Alt w w' S := ⟨h.os, h.tape, h.output, h.size, fun k hk hn => h.block k hk fun e => hn (hS k e.symm)⟩
theorem alt_set (w : World) (a : Addr) (v : Value) (hS : S a.block) : Alt w (w.setCell a v) S := ⟨rfl, rfl, rfl, by simp [World.setCell], fun k _ hn => heap_setCell_other w a k v fun e => hn (e ▸ hS)⟩
theorem Alt.trans (h : Alt w w1 S) (k : Alt w1 w' S') (hS : ∀ j, j < w.heap.size → S' j → S j) : Alt w w' S :=
  ⟨k.os.trans h.os, k.tape.trans h.tape, k.output.trans h.output, Nat.le_trans h.size k.size, fun j hj hn => (k.block j (Nat.lt_of_lt_of_le hj h.size) fun hs => hn (hS j hj hs)).trans (h.block j hj hn)⟩
theorem Alt.behind (h : Alt w w1 S) (k : Below w1.heap.size w1 w') : Alt w w' S := h.trans (alt_below k S) fun _ _ h => h
theorem Alt.ahead (h : Below w.heap.size w w1) (k : Alt w1 w' S) : Alt w w' S := (alt_below h S).trans k fun _ _ h => h
theorem Alt.mono (h : Alt w w' S) (hS : ∀ j, j < w.heap.size → S j → S' j) : Alt w w' S' := ⟨h.os, h.tape, h.output, h.size, fun k hk hn => h.block k hk fun hs => hn (hS k hk hs)⟩
theorem Alt.below (h : Alt w w' S) {B : Nat} (hB : B ≤ w.heap.size) (hS : ∀ j, S j → B ≤ j) : Below B w w' :=
  ⟨h.os, h.tape, h.output, h.size, fun k hk => h.block k (Nat.lt_of_lt_of_le hk hB) fun hs => Nat.not_lt.2 (hS k hs) hk⟩
theorem below_alt {w0 : World} {B : Nat} (hb : Below B w0 w) (h : Alt w w' S) (hB : B ≤ w.heap.size) (hS : ∀ j, S j → B ≤ j) : Below B w0 w' := hb.trans (h.below hB hS)

/-- The slice with address A and length n lies in no block of which S holds. -/
def Off (S : Nat → Prop) (A : Option Addr) (n : Nat) : Prop := ∀ g off, A = some ⟨g, off, Option.none⟩ → 0 < n → ¬ S g
/-- So does the slice v. -/
def OffV (S : Nat → Prop) (v : Value) : Prop := ∀ g, v.ownBlock = some g → ¬ S g

theorem OffV.off {A : Option Addr} {n m c : Nat} (h : OffV S (.slice A n c)) : Off S A m := fun g off e _ => h g (by rw [e]; rfl)
theorem Off.mono {A : Option Addr} {n : Nat} (h : Off S A n) (hS : ∀ j, S' j → S j) : Off S' A n := fun g off e hn hs => h g off e hn (hS g hs)
theorem OffV.mono {v : Value} (h : OffV S v) (hS : ∀ j, S' j → S j) : OffV S' v := fun g e hs => h g e (hS g hs)

theorem Holds.alt {A : Option Addr} {n c : Nat} {l : List Int} (h : Holds w A n c l) (ha : Alt w w' S) (ho : Off S A n) : Holds w' A n c l :=
  ⟨h.len, h.byt, h.cap, h.room, h.bare, fun hn => by
    obtain ⟨b, off, e, hc⟩ := h.cell hn
    subst e
    refine ⟨b, off, rfl, fun j hj => ?_⟩
    rw [World.cell?_of_block (ha.block b (h.block hn) (ho b off rfl hn))]
    exact hc j hj⟩
theorem ownsRow_alt {base : Nat} {e : TypeId} {k n : Nat} {v : Value} {xs : List Value} (h : w.ownsRow base e k v n xs) (ha : Alt w w' S) (ho : OffV S v) : w'.ownsRow base e k v n xs := by
  refine ⟨h.1, ?_⟩
  rcases h.2 with hn | ⟨g, cap, cur, rfl, hb, hgg, rest⟩
  · exact .inl hn
  · refine .inr ⟨g, cap, cur, rfl, hb, ?_, rest⟩
    rw [ha.block g (Array.getElem?_eq_some_iff.1 hgg).1 (ho g rfl)]
    exact hgg
theorem Owns.alt {base : Nat} {e : TypeId} {v : Value} {l : List Int} (h : Owns w base e v l) (ha : Alt w w' S) (ho : OffV S v) : Owns w' base e v l := ⟨h.1, ownsRow_alt h.2 ha ho⟩
theorem OwnsT.alt {base : Nat} {v : Value} {l : List (List UInt8)} (h : OwnsT w base v l) (ha : Alt w w' S) (ho : OffV S v) : OwnsT w' base v l := ownsRow_alt h ha ho
theorem ownsMap_alt {H : Type} {P : Program} {k : TypeId} {R : Value → Option (DataW H × List MemPlace)} {b n : Nat} {D : DataW H} (h : w.ownsMap P k R b n D) (ha : Alt w w' S) (ho : ¬ S b) : w'.ownsMap P k R b n D := by
  have hlt := h.lt
  obtain ⟨es, clock, hb, F, hs, hD⟩ := h
  exact ⟨es, clock, (ha.block b hlt ho).trans hb, F, hs, hD⟩
theorem Texts.alt {A : Option Addr} {n : Nat} {l : List (List UInt8)} (h : Texts w A n l) (ha : Alt w w' S) (ho : Off S A n) : Texts w' A n l :=
  ⟨h.len, fun hn => by
    obtain ⟨b, e, hlt, hc⟩ := h.cell hn
    subst e
    refine ⟨b, rfl, Nat.lt_of_lt_of_le hlt ha.size, fun j hj => ?_⟩
    rw [World.cell?_of_block (ha.block b hlt (ho b 0 rfl hn))]
    exact hc j hj⟩
/-- An own slice lies where S does not hold, if S holds of older blocks alone. -/
theorem Owns.off {base : Nat} {e : TypeId} {v : Value} {l : List Int} (h : Owns w base e v l) (hS : ∀ j, S j → j < base) : OffV S v := fun g hg hs => by
  have := (World.ownsRow.lt h.2 g hg).1
  have := hS g hs
  omega
end
end Go.Proofs.Ytkjnpdnihfohoaa
