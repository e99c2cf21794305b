/-
  Words for slices of strings in memory. Conditions: those that each theorem states.
-/
import Derived.Test.YtlmchoonokglaaaAscCut
import Derived.RegionTactic
import Derived.Shelf.Lay
namespace Go.Proofs.Ytlmchoonokglaaa
open Go.RowKit Go.Lib Go.Shelf

/-- The slice value with address A and length n reads as the texts l. -/
structure Texts (w : World) (A : Option Addr) (n : Nat) (l : List (List UInt8)) : Prop where
  len : l.length = n
  cell : 0 < n → ∃ b, A = some ⟨b, 0, Option.none⟩ ∧ b < w.heap.size ∧ ∀ j, j < n → w.cell? ⟨b, j, Option.none⟩ = some (.string (mk (l[j]?.getD [])))

theorem Texts.later {w w' : World} {A : Option Addr} {n : Nat} {l : List (List UInt8)} (h : Texts w A n l) (hb : Below w.heap.size w w') : Texts w' A n l :=
  ⟨h.len, fun hn => by
    obtain ⟨b, e, hlt, hc⟩ := h.cell hn
    exact ⟨b, e, Nat.lt_of_lt_of_le hlt hb.size, fun j hj => cell_later hb (hc j hj)⟩⟩

/-- The call owns the slice v, which reads as the texts l; its block is number 'base' or above. -/
def OwnsT (w : World) (base : Nat) (v : Value) (l : List (List UInt8)) : Prop := w.ownsRow base 9 1 v l.length (l.map fun p => Value.string (mk p))

theorem OwnsT.texts {w : World} {base : Nat} {v : Value} {l : List (List UInt8)} (h : OwnsT w base v l) : ∃ A c, v = .slice A l.length c ∧ Texts w A l.length l := by
  rcases h.2 with ⟨rfl, h0⟩ | ⟨g, cap, cur, rfl, hb, hg, hn, hm, hs, ht⟩
  · have hl : l = [] := List.eq_nil_of_length_eq_zero h0
    subst hl
    exact ⟨Option.none, 0, rfl, rfl, fun hn => absurd hn (by simp)⟩
  · refine ⟨_, cap, rfl, rfl, fun hp => ⟨g, rfl, ?_, fun j hj => ?_⟩⟩
    · rcases Nat.lt_or_ge g w.heap.size with hlt | hge
      · exact hlt
      · rw [Array.getElem?_eq_none hge] at hg; cases hg
    · have := (World.ownsRow.cells h (g := g) rfl) j (.string (mk (l[j]?.getD []))) (by simp [List.getElem?_eq_getElem hj])
      rwa [addr_add, Nat.zero_add] at this
theorem OwnsT.alloc {w : World} {base : Nat} {v : Value} {l : List (List UInt8)} (h : OwnsT w base v l) (o : Obj) : OwnsT (w.alloc o) base v l := World.ownsRow.alloc h o
theorem OwnsT.kept {w w' : World} {base : Nat} {v : Value} {l : List (List UInt8)} {B : Nat} (h : OwnsT w base v l) (hb : Below B w w') (hB : w.heap.size ≤ B) : OwnsT w' base v l :=
  World.ownsRow.kept (row := Option.none) h ⟨hb.os, hb.tape, hb.output, hb.size, fun k hk _ => hb.block k (by omega)⟩ (by cases hv : v.ownBlock <;> simp)
theorem OwnsT.below {w0 w w' : World} {B : Nat} {v : Value} {l : List (List UInt8)} (hown : OwnsT w B v l) (hb : Below B w0 w) (hg : w.grownBy w' v.ownBlock) (hB : B ≤ w.heap.size) : Below B w0 w' :=
  hb.grown hg hB fun k hk => (World.ownsRow.lt hown k hk).1

/-- A new block of texts. -/
theorem texts_new (w : World) (cs : Array Value) (l : List (List UInt8)) (hcs : cs = (l.map fun p => Value.string (mk p)).toArray) : Texts (w.alloc (.cells cs 9)) (some ⟨w.heap.size, 0, Option.none⟩) l.length l :=
  ⟨rfl, fun _ => ⟨w.heap.size, rfl, by simp, fun j hj => by
    have := cell_of_row (w.alloc (.cells cs 9)) w.heap.size j cs 9 (0, 0) (heap_alloc_new w _)
    rw [this, hcs]
    simp [List.getElem?_eq_getElem hj]⟩⟩

theorem Try.info9 : (Try.prog.info? 9).map (fun i => (i.zero, i.size, i.bytes)) = some (some (.string ByteArray.empty), 1, 16) := by kernel_rfl

/-- A call gives back the texts l in memory of its own, and changes nothing that was there. -/
def GivesT (w : World) (l : List (List UInt8)) (en : Ending) (w' : World) : Prop := ∃ v, en = .returned v ∧ OwnsT w' w.heap.size v l ∧ Below w.heap.size w w'

theorem text_eq (a b : List UInt8) : ((mk a).toList == (mk b).toList) = decide (a = b) := by
  rw [ByteArray.toList_eq, ByteArray.toList_eq, mk_list, mk_list]
  by_cases h : a = b
  · simp [h]
  · simp [h]

theorem same_of {a b : List (List UInt8)} (hl : a.length = b.length) (h : ∀ j, j < a.length → a[j]?.getD [] = b[j]?.getD []) : a = b := by
  apply List.ext_getElem hl
  intro j h1 h2
  have := h j h1
  rw [List.getElem?_eq_getElem h1, List.getElem?_eq_getElem h2] at this
  exact this

theorem below_drawn {B : Nat} {a w : World} (h : Below B a w) (n : Nat) : Below B a (w.drewN n) := ⟨h.os, h.tape, h.output, h.size, h.block⟩
end Go.Proofs.Ytlmchoonokglaaa
