/-
  Words for slices of headers in memory (two cells an element), and the library's contracts of slices.Contains and strings.Join in our words. Conditions: those that each theorem states.
-/
import Derived.Test.YtklbikafkdjgpaaDoorHeadMath
import Derived.Test.YtklbikafkdjgpaaDoorHeadShelf
import Derived.Test.YtklbikafkdjgpaaDoorAscTexts
import Derived.Test.YtklbikafkdjgpaaDoorRegion
namespace Go.Proofs.YtklbikafkdjgpaaDoor
open Go.RowKit Go.Lib Go.Shelf

/-- The cells of headers, one behind the other. -/
def hcells (l : List Hd) : List Value := l.flatMap fun h => [.string h.1, .string h.2]
theorem hcells_len (l : List Hd) : (hcells l).length = l.length * 2 := by
  induction l with
  | nil => rfl
  | cons h r ih => simp only [hcells, List.flatMap_cons, List.length_append, List.length_cons, List.length_nil] at ih ⊢; omega
theorem hcells_append (a b : List Hd) : hcells (a ++ b) = hcells a ++ hcells b := by simp [hcells]
theorem hcells_at {l : List Hd} {j : Nat} (hj : j < l.length) : (hcells l)[j * 2]? = some (.string l[j].1) ∧ (hcells l)[j * 2 + 1]? = some (.string l[j].2) := by
  induction l generalizing j with
  | nil => simp at hj
  | cons h r ih =>
    cases j with
    | zero => simp [hcells]
    | succ j =>
      have := ih (j := j) (by simpa using hj)
      have e : hcells (h :: r) = .string h.1 :: .string h.2 :: hcells r := rfl
      rw [e, show (j + 1) * 2 = j * 2 + 2 by omega]
      simpa using this
theorem hcells_one (l : List Hd) : ∀ u ∈ hcells l, u.oneCell' = true := by
  intro u hu
  obtain ⟨h, _, hh⟩ := List.mem_flatMap.1 hu
  simp at hh
  rcases hh with rfl | rfl <;> rfl

/-- The slice value with address A, length n and capacity c reads as the headers l. -/
structure Hds (w : World) (A : Option Addr) (n c : Nat) (l : List Hd) : Prop where
  len : l.length = n
  cap : n ≤ c
  room : c ≤ maxLen
  bare : A = Option.none → c = 0
  cell : 0 < n → ∃ b off, A = some ⟨b, off, Option.none⟩ ∧ b < w.heap.size ∧ ∀ j, j < n * 2 → w.cell? ⟨b, off + j, Option.none⟩ = (hcells l)[j]?

section
variable {w w' : World} {A : Option Addr} {n c : Nat} {l : List Hd}
theorem Hds.later (h : Hds w A n c l) (hb : Below w.heap.size w w') : Hds w' A n c l :=
  ⟨h.len, h.cap, h.room, h.bare, fun hn => by
    obtain ⟨b, off, e, hlt, hc⟩ := h.cell hn
    refine ⟨b, off, e, Nat.lt_of_lt_of_le hlt hb.size, fun j hj => ?_⟩
    rw [← hc j hj]
    exact hb.cell (p := ⟨b, off + j, Option.none⟩) hlt⟩
theorem Hds.keeps (h : Hds w A n c l) (hk : Keeps w w') : Hds w' A n c l :=
  ⟨h.len, h.cap, h.room, h.bare, fun hn => by
    obtain ⟨b, off, e, hlt, hc⟩ := h.cell hn
    refine ⟨b, off, e, Nat.lt_of_lt_of_le hlt hk.size, fun j hj => ?_⟩
    have hl : j < (hcells l).length := by rw [hcells_len, h.len]; omega
    have h1 := hc j hj
    rw [List.getElem?_eq_getElem hl] at h1 ⊢
    exact hk.cell _ _ h1⟩
theorem Hds.at (h : Hds w A n c l) {k : Nat} (hk : k < n) : ∃ b off, A = some ⟨b, off, Option.none⟩ ∧ w.cell? ⟨b, off + k * 2, Option.none⟩ = some (.string (l[k]'(by rw [h.len]; exact hk)).1) ∧ w.cell? ⟨b, off + k * 2 + 1, Option.none⟩ = some (.string (l[k]'(by rw [h.len]; exact hk)).2) := by
  obtain ⟨b, off, e, _, hc⟩ := h.cell (by omega)
  have hl : k < l.length := by rw [h.len]; exact hk
  refine ⟨b, off, e, ?_, ?_⟩
  · rw [hc (k * 2) (by omega), (hcells_at hl).1]
  · rw [Nat.add_assoc, hc (k * 2 + 1) (by omega), (hcells_at hl).2]
theorem hds_empty (w : World) (A : Option Addr) (c : Nat) (hc : c ≤ maxLen) (hb : A = Option.none → c = 0) : Hds w A 0 c [] := ⟨rfl, Nat.zero_le _, hc, hb, fun h => absurd h (by omega)⟩
theorem Hds.front (h : Hds w A n c l) {k : Nat} (hk : k ≤ n) : Hds w A k c (l.take k) :=
  ⟨by rw [List.length_take, h.len]; omega, Nat.le_trans hk h.cap, h.room, h.bare, fun hp => by
    obtain ⟨b, off, e, hlt, hc⟩ := h.cell (by omega)
    refine ⟨b, off, e, hlt, fun j hj => ?_⟩
    rw [hc j (by omega)]
    conv => lhs; rw [← List.take_append_drop k l, hcells_append]
    rw [List.getElem?_append_left (by rw [hcells_len, List.length_take, h.len]; omega)]⟩
theorem Hds.back {b off : Nat} (h : Hds w (some ⟨b, off, Option.none⟩) n c l) {k : Nat} (hk : k ≤ n) : Hds w (some ⟨b, off + k * 2, Option.none⟩) (n - k) (c - k) (l.drop k) :=
  ⟨by rw [List.length_drop, h.len], by have := h.cap; omega, by have := h.room; omega, (fun e => by cases e), fun hp => by
    obtain ⟨b', off', e, hlt, hc⟩ := h.cell (by omega)
    injection e with e
    injection e with e1 e2
    subst e1
    subst e2
    refine ⟨b, off + k * 2, rfl, hlt, fun j hj => ?_⟩
    rw [Nat.add_assoc, hc (k * 2 + j) (by omega)]
    conv => lhs; rw [← List.take_append_drop k l, hcells_append]
    have e : (hcells (l.take k)).length = k * 2 := by rw [hcells_len, List.length_take, h.len]; congr 1; omega
    rw [List.getElem?_append_right (by omega), e]
    congr 1
    omega⟩

/-- The call owns the slice v, which reads as the headers l; its block is number 'base' or above. -/
def OwnsH (w : World) (base : Nat) (v : Value) (l : List Hd) : Prop := w.ownsRow base 29 2 v l.length (hcells l)
theorem OwnsH.hds {base : Nat} {v : Value} (h : OwnsH w base v l) : ∃ A c, v = .slice A l.length c ∧ Hds w A l.length c l := by
  rcases h.2 with ⟨rfl, h0⟩ | ⟨g, cap, cur, rfl, hb, hg, hn, hm, hs, ht⟩
  · have hl : l = [] := List.eq_nil_of_length_eq_zero h0
    subst hl
    exact ⟨Option.none, 0, rfl, hds_empty w _ _ (Nat.zero_le _) (fun _ => rfl)⟩
  · refine ⟨_, cap, rfl, rfl, hn, hm, (fun e => by cases e), fun hp => ⟨g, 0, rfl, (Array.getElem?_eq_some_iff.1 hg).1, fun j hj => ?_⟩⟩
    rw [Nat.zero_add]
    exact World.ownsRow.cellAt h j hj
/-- The same, its length behind a name. -/
theorem OwnsH.hds' {base : Nat} {v : Value} (h : OwnsH w base v l) : ∃ A m c, v = .slice A m c ∧ Hid (m = l.length) ∧ Hds w A m c l := by
  obtain ⟨A, c, e, hS⟩ := h.hds
  exact ⟨A, _, c, e, Lib.hid rfl, hS⟩
theorem OwnsH.alloc {base : Nat} {v : Value} (h : OwnsH w base v l) (o : Obj) : OwnsH (w.alloc o) base v l := World.ownsRow.alloc h o
theorem OwnsH.kept {base : Nat} {v : Value} {B : Nat} (h : OwnsH w base v l) (hb : Below B w w') (hB : w.heap.size ≤ B) : OwnsH w' base v l :=
  World.ownsRow.kept (row := Option.none) h ⟨hb.os, hb.tape, hb.output, hb.size, fun k hk _ => hb.block k (by omega)⟩ (by cases hv : v.ownBlock <;> simp)
theorem OwnsH.below {w0 : World} {B : Nat} {v : Value} (hown : OwnsH w B v l) (hb : Below B w0 w) (hg : w.grownBy w' v.ownBlock) (hB : B ≤ w.heap.size) : Below B w0 w' :=
  hb.grown hg hB fun k hk => (World.ownsRow.lt hown k hk).1
theorem OwnsH.low {base base' : Nat} {v : Value} (h : OwnsH w base v l) (hB : base' ≤ base) : OwnsH w base' v l := by
  refine ⟨h.1, ?_⟩
  rcases h.2 with h0 | ⟨g, cap, cur, e1, hb, rest⟩
  · exact .inl h0
  · exact .inr ⟨g, cap, cur, e1, Nat.le_trans hB hb, rest⟩
/-- A call gives back the headers l in memory of its own, and changes nothing that was there. -/
def GivesH (w : World) (l : List Hd) (en : Ending) (w' : World) : Prop := ∃ v, en = .returned v ∧ OwnsH w' w.heap.size v l ∧ Below w.heap.size w w'
end

theorem Tryd.infoHd : (Tryd.prog.info? 29).map (fun i => (i.zero, i.size, i.bytes)) = some (some (.agg #[.string ByteArray.empty, .string ByteArray.empty]), 2, 32) := by kernel_rfl

theorem Tryd.extra156 : Builder.Extra Tryd.prog Tryd.lays156_ren where
  sizeBuilder := by kernel_rfl
  liesBuilder := by kernel_rfl
  t5 := by kernel_rfl
  a5 := fun _ => by kernel_rfl
  z5 := fun _ => by kernel_rfl
  v5 := fun _ => by kernel_rfl
  infoByte := by kernel_rfl
  cellsByte := by kernel_rfl
  sizeByte := by kernel_rfl
  neB5 := by decide

/-- The slice value with address A, length n and capacity c reads as the strings l. -/
structure Strs (w : World) (A : Option Addr) (n c : Nat) (l : List ByteArray) : Prop where
  len : l.length = n
  cap : n ≤ c
  room : c ≤ maxLen
  bare : A = Option.none → c = 0
  cell : 0 < n → ∃ b off, A = some ⟨b, off, Option.none⟩ ∧ b < w.heap.size ∧ ∀ j (hj : j < l.length), w.cell? ⟨b, off + j, Option.none⟩ = some (.string l[j])

section
variable {w w' : World} {A : Option Addr} {n c : Nat} {l : List ByteArray}
theorem Strs.later (h : Strs w A n c l) (hb : Below w.heap.size w w') : Strs w' A n c l :=
  ⟨h.len, h.cap, h.room, h.bare, fun hn => by
    obtain ⟨b, off, e, hlt, hc⟩ := h.cell hn
    exact ⟨b, off, e, Nat.lt_of_lt_of_le hlt hb.size, fun j hj => cell_later hb (hc j hj)⟩⟩
theorem Strs.keeps (h : Strs w A n c l) (hk : Keeps w w') : Strs w' A n c l :=
  ⟨h.len, h.cap, h.room, h.bare, fun hn => by
    obtain ⟨b, off, e, hlt, hc⟩ := h.cell hn
    exact ⟨b, off, e, Nat.lt_of_lt_of_le hlt hk.size, fun j hj => hk.cell _ _ (hc j hj)⟩⟩
theorem strs_empty (w : World) (A : Option Addr) (c : Nat) (hc : c ≤ maxLen) (hb : A = Option.none → c = 0) : Strs w A 0 c [] := ⟨rfl, Nat.zero_le _, hc, hb, fun h => absurd h (by omega)⟩
theorem Strs.front (h : Strs w A n c l) {k : Nat} (hk : k ≤ n) : Strs w A k c (l.take k) :=
  ⟨by rw [List.length_take, h.len]; omega, Nat.le_trans hk h.cap, h.room, h.bare, fun hp => by
    obtain ⟨b, off, e, hlt, hc⟩ := h.cell (by omega)
    refine ⟨b, off, e, hlt, fun j hj => ?_⟩
    rw [List.length_take] at hj
    rw [hc j (by omega), List.getElem_take]⟩
/-- A new block of strings. -/
theorem strs_new (w : World) (cs : Array Value) (l : List ByteArray) (hcs : cs = (l.map Value.string).toArray) (hm : l.length ≤ maxLen) : Strs (w.alloc (.cells cs 9)) (some ⟨w.heap.size, 0, Option.none⟩) l.length l.length l :=
  ⟨rfl, Nat.le_refl _, hm, (fun e => by cases e), fun _ => ⟨w.heap.size, 0, rfl, by simp, fun j hj => by
    have := cell_of_row (w.alloc (.cells cs 9)) w.heap.size (0 + j) cs 9 (0, 0) (heap_alloc_new w _)
    rw [this, hcs]
    simp [List.getElem?_eq_getElem hj]⟩⟩
/-- The call owns the slice v, which reads as the strings l. -/
def OwnsS (w : World) (base : Nat) (v : Value) (l : List ByteArray) : Prop := w.ownsRow base 9 1 v l.length (l.map Value.string)
theorem OwnsS.strs {base : Nat} {v : Value} (h : OwnsS w base v l) : ∃ A c, v = .slice A l.length c ∧ Strs w A l.length c l := by
  rcases h.2 with ⟨rfl, h0⟩ | ⟨g, cap, cur, rfl, hb, hg, hn, hm, hs, ht⟩
  · have hl : l = [] := List.eq_nil_of_length_eq_zero h0
    subst hl
    exact ⟨Option.none, 0, rfl, strs_empty w _ _ (Nat.zero_le _) (fun _ => rfl)⟩
  · refine ⟨_, cap, rfl, rfl, hn, hm, (fun e => by cases e), fun hp => ⟨g, 0, rfl, (Array.getElem?_eq_some_iff.1 hg).1, fun j hj => ?_⟩⟩
    rw [Nat.zero_add, World.ownsRow.cellAt h j (by omega)]
    simp [List.getElem?_eq_getElem hj]
/-- The same, its length behind a name. -/
theorem OwnsS.strs' {base : Nat} {v : Value} (h : OwnsS w base v l) : ∃ A m c, v = .slice A m c ∧ Hid (m = l.length) ∧ Strs w A m c l := by
  obtain ⟨A, c, e, hS⟩ := h.strs
  exact ⟨A, _, c, e, Lib.hid rfl, hS⟩
theorem OwnsS.alloc {base : Nat} {v : Value} (h : OwnsS w base v l) (o : Obj) : OwnsS (w.alloc o) base v l := World.ownsRow.alloc h o
theorem OwnsS.kept {base : Nat} {v : Value} {B : Nat} (h : OwnsS w base v l) (hb : Below B w w') (hB : w.heap.size ≤ B) : OwnsS w' base v l :=
  World.ownsRow.kept (row := Option.none) h ⟨hb.os, hb.tape, hb.output, hb.size, fun k hk _ => hb.block k (by omega)⟩ (by cases hv : v.ownBlock <;> simp)
theorem OwnsS.below {w0 : World} {B : Nat} {v : Value} (hown : OwnsS w B v l) (hb : Below B w0 w) (hg : w.grownBy w' v.ownBlock) (hB : B ≤ w.heap.size) : Below B w0 w' :=
  hb.grown hg hB fun k hk => (World.ownsRow.lt hown k hk).1
end

theorem contains_any (A : Option Addr) (n c : Nat) (zs : List ByteArray) (x : ByteArray) (w : World) (h : Strs w A n c zs) :
    Calls Tryd.prog 37 #[.slice A n c, .string x] w fun e w' => e = .returned (.bool (zs.any fun z => z.data.toList == x.data.toList)) ∧ w' = w := by
  have hr : Lib.containsS zs x = zs.any (fun z => z.data.toList == x.data.toList) := by
    rw [Bool.eq_iff_iff, Lib.containsS_iff, List.any_eq_true]
    constructor
    · intro hx
      exact ⟨x, hx, by simp⟩
    · rintro ⟨z, hz, e⟩
      rw [beq_iff_eq] at e
      have : z = x := by rw [← mk_of z, ← mk_of x, e]
      rw [← this]
      exact hz
  by_cases hn : 0 < n
  · obtain ⟨b, off, rfl, _, hc⟩ := h.cell hn
    have hm := h.room
    have hcap := h.cap
    unfold maxLen at hm
    have key := Any.slices_Contains_string Tryd.lays110 b off n c zs x w (by rw [h.len]; exact Nat.le_refl _) (by omega) (fun j hj => by rw [hc j hj, List.getD_eq_getElem?_getD, List.getElem?_eq_getElem hj]; rfl)
    rw [show zs.take n = zs by rw [← h.len, List.take_length], hr] at key
    exact key
  · have h0 : n = 0 := by omega
    subst h0
    have hz : zs = [] := List.eq_nil_of_length_eq_zero h.len
    subst hz
    exact Any.slices_Contains_string_empty Tryd.lays110 A c x w

theorem joined_text (xs : List ByteArray) : (⟨(Lib.join (xs.map (·.data.toList)) (⟨#[44, 32]⟩ : ByteArray).data.toList).toArray⟩ : ByteArray) = mk (joined xs) := rfl
theorem join_any (A : Option Addr) (n c : Nat) (xs : List ByteArray) (w : World) (h : Strs w A n c xs) (hN : n ≤ 140737488355328) (hlen : (joined xs).length ≤ 140737488355328) :
    Calls Tryd.prog 28 #[.slice A n c, .string ⟨#[44, 32]⟩] w fun e w' => e = .returned (.string (mk (joined xs))) ∧ Below w.heap.size w w' := by
  by_cases hn : 0 < n
  · obtain ⟨b, off, rfl, hlt, hc⟩ := h.cell hn
    have e := h.len
    subst e
    exact Any.strings_Join Tryd.lays156 Tryd.extra156 b off c xs ⟨#[44, 32]⟩ w (fun j x hx => by
      obtain ⟨hj, e⟩ := List.getElem?_eq_some_iff.1 hx
      rw [← e]
      exact hc j hj) hlt hN h.cap hlen
  · have h0 : n = 0 := by omega
    subst h0
    have hz : xs = [] := List.eq_nil_of_length_eq_zero h.len
    subst hz
    exact (Any.strings_Join_none Tryd.lays156 Tryd.extra156 A c ⟨#[44, 32]⟩ w).mono fun e w' ⟨he, hw⟩ => ⟨he, hw ▸ Below.refl _ _⟩
end Go.Proofs.YtklbikafkdjgpaaDoor
