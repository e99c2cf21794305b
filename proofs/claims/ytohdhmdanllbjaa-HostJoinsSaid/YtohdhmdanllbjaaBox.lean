/-
  Variables in boxes that a loop over a function changes: what a round of it keeps; a variable that collects bytes. Conditions: those that each theorem states.
-/
import Derived.Test.YtohdhmdanllbjaaTail
namespace Go.Proofs.Ytohdhmdanllbjaa
open Go.RowKit Leb

/-- Nothing below n₀ has turned, and no block of cells of another type than e, but for the boxes Bs. -/
structure Kept (n₀ : Nat) (e : TypeId) (Bs : List Nat) (W W' : World) : Prop where
  below : Below n₀ W W'
  other : ∀ (k : Nat) (cs : Array Value) (t : TypeId) (fr : Nat × Nat), k ∉ Bs → t ≠ e → W.heap[k]? = some (.cells cs t fr) → W'.heap[k]? = some (.cells cs t fr)

section
variable {n₀ : Nat} {e : TypeId} {Bs : List Nat} {W W' X : World}
theorem Kept.refl (n₀ : Nat) (e : TypeId) (Bs : List Nat) (W : World) : Kept n₀ e Bs W W := ⟨Below.refl _ _, fun _ _ _ _ _ _ h => h⟩
theorem Kept.trans (h : Kept n₀ e Bs W W') (k : Kept n₀ e Bs W' X) : Kept n₀ e Bs W X := ⟨h.below.trans k.below, fun i cs t fr h1 h2 h3 => k.other i cs t fr h1 h2 (h.other i cs t fr h1 h2 h3)⟩
theorem kept_t {A B C : World} (h : Kept n₀ e Bs A B) (k : Kept n₀ e Bs B C) : Kept n₀ e Bs A C := h.trans k
theorem kept_of_below (h : Below W.heap.size W W') (hn : n₀ ≤ W.heap.size) : Kept n₀ e Bs W W' :=
  ⟨h.mono hn, fun k _ _ _ _ _ hk => (h.block k (Array.getElem?_eq_some_iff.1 hk).1).trans hk⟩
theorem kept_drew : Kept n₀ e Bs W W.drew := ⟨(Below.refl _ _).drew, fun _ _ _ _ _ _ h => h⟩
theorem kept_b {w : World} (hn : n₀ ≤ w.heap.size) (W : World) (l : Nat) (o o' : Obj) (hl : w.heap.size ≤ l) (h : W.heap[l]? = some o) (h1 : o.isCells = false) (h2 : o.isWalk = false) : Kept n₀ e Bs W (W.putObj l o') :=
  ⟨belowK_b hn W l o o' hl h h1 h2, fun k cs t fr _ _ hk => ((grownBy_putObj' W l o').block k (Array.getElem?_eq_some_iff.1 hk).1 (fun e' => by
    obtain rfl : k = l := by simpa using e'
    rw [hk] at h
    cases h
    cases h1)).trans hk⟩
theorem kept_set {B : Nat} (hB : B ∈ Bs) (hn : n₀ ≤ B) (W : World) (v : Value) : Kept n₀ e Bs W (W.setCell ⟨B, 0, Option.none⟩ v) :=
  ⟨(Below.refl _ _).setCell (p := ⟨B, 0, Option.none⟩) hn v, fun k _ _ _ hk _ h => ((grownBy_setCell' W B v).block k (Array.getElem?_eq_some_iff.1 h).1 (fun e' => by
    have e'' : k = B := by simpa using e'
    exact hk (e'' ▸ hB))).trans h⟩
theorem own_cells {base : Nat} {v : Value} {xs : List Int} (h : Owns W base e v xs) {g : Nat} (hg : v.ownBlock = some g) : base ≤ g ∧ ∃ cs, W.heap[g]? = some (.cells cs e (0, 0)) := by
  rcases h.2.2 with ⟨rfl, _⟩ | ⟨g', cap, cur, rfl, hb, hgb, _⟩
  · simp [Value.ownBlock] at hg
  · obtain rfl : g' = g := by simpa [Value.ownBlock] using hg
    exact ⟨hb, cur, hgb⟩
theorem kept_grown {v : Value} {xs : List Int} (h : Owns W n₀ e v xs) (hn : n₀ ≤ W.heap.size) (hg : W.grownBy W' v.ownBlock) : Kept n₀ e Bs W W' :=
  ⟨(Below.refl _ _).grown hg hn (fun _ hk => (own_cells h hk).1), fun k cs t fr _ ht hk => (hg.block k (Array.getElem?_eq_some_iff.1 hk).1 (fun e' => by
    obtain ⟨_, cs', h'⟩ := own_cells h e'.symm
    rw [hk] at h'
    injection h' with h'
    injection h' with _ h'
    exact ht h')).trans hk⟩
theorem others_of_below (h : Below W.heap.size W W') : KeepsOthers W W' := ⟨h.size, fun k _ hk _ => (h.block k (Array.getElem?_eq_some_iff.1 hk).1).trans hk⟩
theorem others_grown {base : Nat} {v : Value} {xs : List Int} (h : Owns W base e v xs) (hg : W.grownBy W' v.ownBlock) : KeepsOthers W W' :=
  KeepsOthers.of_grownBy hg fun j o ej hj => by
    obtain ⟨_, cs, h'⟩ := own_cells h ej
    rw [hj] at h'
    cases h'
    rfl

/-- A box outlives what is kept. -/
theorem box_kept {B : Nat} {t : TypeId} {v : Value} (hb : Boxed W B t v) (hk : Kept n₀ e Bs W W') (h1 : B ∉ Bs) (h2 : t ≠ e) : Boxed W' B t v := hk.other B _ t _ h1 h2 hb

theorem box_later {B : Nat} {t : TypeId} {v : Value} (hb : Boxed W B t v) (h : Below W.heap.size W W') : Boxed W' B t v := (h.block B hb.lt).trans hb

/-- A slice that reads as bytes, in a block that lies below n₀. -/
theorem Holds.keptBy {w : World} {A : Option Addr} {n c : Nat} {l : List Int} (h : Holds w A n c l) (hb : Below w.heap.size w W) : Holds W A n c l := h.later hb

/-- A slice that reads as bytes reads so behind the turn of another block. -/
theorem holds_grown {row : Option Nat} {A : Option Addr} {n c : Nat} {l : List Int} (h : Holds W A n c l) (hg : W.grownBy W' row) (ha : ∀ b off, A = some ⟨b, off, Option.none⟩ → row ≠ some b) : Holds W' A n c l :=
  ⟨h.len, h.byt, h.cap, h.room, h.bare, fun hn => by
    obtain ⟨b, off, rfl, hc⟩ := h.cell hn
    refine ⟨b, off, rfl, fun j hj => ?_⟩
    have hlt := World.block_lt_of_cell? W _ (hc 0 hn)
    rw [← hc j hj]
    exact World.cell?_of_block (hg.block b hlt (fun e' => ha b off rfl e'.symm))⟩

/-- Where a slice of the call's own lies. -/
theorem owns_at {base : Nat} {A : Option Addr} {n c : Nat} {l : List Int} (h : Owns W base e (.slice A n c) l) : ∀ b off, A = some ⟨b, off, Option.none⟩ → base ≤ b ∧ b < W.heap.size := by
  intro b off e'
  subst e'
  exact h.2.lt b rfl

/-- Behind an append onto the boxed variable, and the store. -/
theorem boxed_append {B base : Nat} {t : TypeId} {v v' : Value} {xs ys : List Int} (hv : Boxed W B t v) (hte : t ≠ e) (hown : Owns W base e v xs) (hown' : Owns W' base e v' ys) (hg : W.grownBy W' v.ownBlock) (hn : base ≤ W.heap.size) (hB : base ≤ B) (hBs : B ∈ Bs) :
    Boxed W' B t v ∧ Boxed (W'.setCell ⟨B, 0, Option.none⟩ v') B t v' ∧ Owns (W'.setCell ⟨B, 0, Option.none⟩ v') base e v' ys ∧ KeepsOthers W (W'.setCell ⟨B, 0, Option.none⟩ v') ∧ Kept base e Bs W (W'.setCell ⟨B, 0, Option.none⟩ v') := by
  have hv1 : Boxed W' B t v := hv.kept hg (hv.not_row hte hown.2)
  exact ⟨hv1, hv1.set v', ⟨hown'.1, hown'.2.kept (grownBy_setCell' W' B v') (.inr (hv1.not_row hte hown'.2).symm)⟩, (others_grown hown hg).trans (KeepsOthers.setCell _ _ _), (kept_grown hown hn hg).trans (kept_set hBs hB W' v')⟩

/-- A whole block of cells abides. -/
theorem cells_own {β : Type} (B : Nat) (cs : Array Value) (t : TypeId) : Own (fun (_ : β) W => W.heap[B]? = some (.cells cs t (0, 0))) := fun _ X Y row hs hg hrow =>
  (hg.block B (Array.getElem?_eq_some_iff.1 hs).1 (fun e' => by
    obtain ⟨o, ho, hc⟩ := hrow B e'.symm
    rw [hs] at ho
    cases ho
    cases hc)).trans hs

/-- A boxed slice that owns bytes abides. -/
theorem boxedOwns_own {β : Type} (base B : Nat) (t e : TypeId) (f : β → List Int) : Own (fun s W => ∃ v, Boxed W B t v ∧ Owns W base e v (f s)) := by
  rintro s X Y row ⟨v, hv, hr⟩ hg hrow
  obtain ⟨v', h1, h2, h3⟩ := holdsRow_own (β := Unit) base B t e 1 (fun _ => (f s).length) (fun _ => (f s).map (Value.int .u8)) (fun _ u => u = v) () X Y row ⟨v, hv, hr.2, rfl⟩ hg hrow
  subst h3
  exact ⟨v', h1, hr.1, h2⟩

theorem Owns.putObj {base : Nat} {v : Value} {xs : List Int} (h : Owns W base e v xs) {l : Nat} {o : Obj} (o' : Obj) (hl : W.heap[l]? = some o) (ho : o.isCells = false) : Owns (W.putObj l o') base e v xs := ⟨h.1, ownsRow_putObj h.2 o' hl ho⟩
theorem owns_nil (W : World) (base : Nat) (e : TypeId) : Owns W base e (.slice Option.none 0 0) [] := ⟨Bytes.nil, World.ownsRow_nil _ _ _ _⟩
end
end Go.Proofs.Ytohdhmdanllbjaa
