/-
  Words for slices of headers (two cells an element) and of strings in memory. Conditions: those that each theorem states.
-/
import Derived.Test.YtkjnpdnihfohoaaHeadHd
import Derived.Test.YtkjnpdnihfohoaaLow
import Derived.WalkSmall
namespace Go.Proofs.Ytkjnpdnihfohoaa
open Go.RowKit Go.Lib Go.Shelf

/-- The cells of headers, one behind the other. -/
def hcells (l : List Hd) : List Value := l.flatMap fun h => [.string h.1, .string h.2]
theorem hcells_len (l : List Hd) : (hcells l).length = l.length * 2 := by
  induction l with
  | nil => rfl
  | cons h r ih => simp only [hcells, List.flatMap_cons, List.length_append, List.length_cons, List.length_nil] at ih ⊢; omega
theorem hcells_append (a b : List Hd) : hcells (a ++ b) = hcells a ++ hcells b := by simp [hcells]
theorem hcells_at {l : List Hd} {j : Nat} (hj : j < l.length) : (hcells l)[j * 2]? = some (.string l[j].1) ∧ (hcells l)[j * 2 + 1]? = some (.string l[j].2) := by
  induction l generalizing j with
  | nil => simp at hj
  | cons h r ih =>
    cases j with
    | zero => simp [hcells]
    | succ j =>
      have := ih (j := j) (by simpa using hj)
      have e : hcells (h :: r) = .string h.1 :: .string h.2 :: hcells r := rfl
      rw [e, show (j + 1) * 2 = j * 2 + 2 by omega]
      simpa using this
theorem hcells_one (l : List Hd) : ∀ u ∈ hcells l, u.oneCell' = true := by
  intro u hu
  obtain ⟨h, _, hh⟩ := List.mem_flatMap.1 hu
  simp at hh
  rcases hh with rfl | rfl <;> rfl

/-- The slice value with address A, length n and capacity c reads as the headers l. -/
structure Hds (w : World) (A : Option Addr) (n c : Nat) (l : List Hd) : Prop where
  len : l.length = n
  cap : n ≤ c
  room : c ≤ maxLen
  bare : A = Option.none → c = 0
  cell : 0 < n → ∃ b off, A = some ⟨b, off, Option.none⟩ ∧ b < w.heap.size ∧ ∀ j, j < n * 2 → w.cell? ⟨b, off + j, Option.none⟩ = (hcells l)[j]?

section
variable {w w' : World} {A : Option Addr} {n c : Nat} {l : List Hd}
theorem Hds.later (h : Hds w A n c l) (hb : Below w.heap.size w w') : Hds w' A n c l :=
  ⟨h.len, h.cap, h.room, h.bare, fun hn => by
    obtain ⟨b, off, e, hlt, hc⟩ := h.cell hn
    refine ⟨b, off, e, Nat.lt_of_lt_of_le hlt hb.size, fun j hj => ?_⟩
    rw [← hc j hj]
    exact hb.cell (p := ⟨b, off + j, Option.none⟩) hlt⟩
theorem Hds.keeps (h : Hds w A n c l) (hk : Keeps w w') : Hds w' A n c l :=
  ⟨h.len, h.cap, h.room, h.bare, fun hn => by
    obtain ⟨b, off, e, hlt, hc⟩ := h.cell hn
    refine ⟨b, off, e, Nat.lt_of_lt_of_le hlt hk.size, fun j hj => ?_⟩
    have hl : j < (hcells l).length := by rw [hcells_len, h.len]; omega
    have h1 := hc j hj
    rw [List.getElem?_eq_getElem hl] at h1 ⊢
    exact hk.cell _ _ h1⟩
theorem Hds.at (h : Hds w A n c l) {k : Nat} (hk : k < n) : ∃ b off, A = some ⟨b, off, Option.none⟩ ∧ w.cell? ⟨b, off + k * 2, Option.none⟩ = some (.string (l[k]'(by rw [h.len]; exact hk)).1) ∧ w.cell? ⟨b, off + k * 2 + 1, Option.none⟩ = some (.string (l[k]'(by rw [h.len]; exact hk)).2) := by
  obtain ⟨b, off, e, _, hc⟩ := h.cell (by omega)
  have hl : k < l.length := by rw [h.len]; exact hk
  refine ⟨b, off, e, ?_, ?_⟩
  · rw [hc (k * 2) (by omega), (hcells_at hl).1]
  · rw [Nat.add_assoc, hc (k * 2 + 1) (by omega), (hcells_at hl).2]
theorem hds_empty (w : World) (A : Option Addr) (c : Nat) (hc : c ≤ maxLen) (hb : A = Option.none → c = 0) : Hds w A 0 c [] := ⟨rfl, Nat.zero_le _, hc, hb, fun h => absurd h (by omega)⟩
theorem Hds.front (h : Hds w A n c l) {k : Nat} (hk : k ≤ n) : Hds w A k c (l.take k) :=
  ⟨by rw [List.length_take, h.len]; omega, Nat.le_trans hk h.cap, h.room, h.bare, fun hp => by
    obtain ⟨b, off, e, hlt, hc⟩ := h.cell (by omega)
    refine ⟨b, off, e, hlt, fun j hj => ?_⟩
    rw [hc j (by omega)]
    conv => lhs; rw [← List.take_append_drop k l, hcells_append]
    rw [List.getElem?_append_left (by rw [hcells_len, List.length_take, h.len]; omega)]⟩
theorem Hds.back {b off : Nat} (h : Hds w (some ⟨b, off, Option.none⟩) n c l) {k : Nat} (hk : k ≤ n) : Hds w (some ⟨b, off + k * 2, Option.none⟩) (n - k) (c - k) (l.drop k) :=
  ⟨by rw [List.length_drop, h.len], by have := h.cap; omega, by have := h.room; omega, (fun e => by cases e), fun hp => by
    obtain ⟨b', off', e, hlt, hc⟩ := h.cell (by omega)
    injection e with e
    injection e with e1 e2
    subst e1
    subst e2
    refine ⟨b, off + k * 2, rfl, hlt, fun j hj => ?_⟩
    rw [Nat.add_assoc, hc (k * 2 + j) (by omega)]
    conv => lhs; rw [← List.take_append_drop k l, hcells_append]
    have e : (hcells (l.take k)).length = k * 2 := by rw [hcells_len, List.length_take, h.len]; congr 1; omega
    rw [List.getElem?_append_right (by omega), e]
    congr 1
    omega⟩

/-- The call owns the slice v, which reads as the headers l; its block is number 'base' or above. -/
def OwnsH (w : World) (base : Nat) (v : Value) (l : List Hd) : Prop := w.ownsRow base 44 2 v l.length (hcells l)
theorem OwnsH.hds {base : Nat} {v : Value} (h : OwnsH w base v l) : ∃ A c, v = .slice A l.length c ∧ Hds w A l.length c l := by
  rcases h.2 with ⟨rfl, h0⟩ | ⟨g, cap, cur, rfl, hb, hg, hn, hm, hs, ht⟩
  · have hl : l = [] := List.eq_nil_of_length_eq_zero h0
    subst hl
    exact ⟨Option.none, 0, rfl, hds_empty w _ _ (Nat.zero_le _) (fun _ => rfl)⟩
  · refine ⟨_, cap, rfl, rfl, hn, hm, (fun e => by cases e), fun hp => ⟨g, 0, rfl, (Array.getElem?_eq_some_iff.1 hg).1, fun j hj => ?_⟩⟩
    rw [Nat.zero_add]
    exact World.ownsRow.cellAt h j hj
/-- The same, its length behind a name. -/
theorem OwnsH.hds' {base : Nat} {v : Value} (h : OwnsH w base v l) : ∃ A m c, v = .slice A m c ∧ Hid (m = l.length) ∧ Hds w A m c l := by
  obtain ⟨A, c, e, hS⟩ := h.hds
  exact ⟨A, _, c, e, Lib.hid rfl, hS⟩
theorem OwnsH.alloc {base : Nat} {v : Value} (h : OwnsH w base v l) (o : Obj) : OwnsH (w.alloc o) base v l := World.ownsRow.alloc h o
theorem OwnsH.kept {base : Nat} {v : Value} {B : Nat} (h : OwnsH w base v l) (hb : Below B w w') (hB : w.heap.size ≤ B) : OwnsH w' base v l :=
  World.ownsRow.kept (row := Option.none) h ⟨hb.os, hb.tape, hb.output, hb.size, fun k hk _ => hb.block k (by omega)⟩ (by cases hv : v.ownBlock <;> simp)
theorem OwnsH.below {w0 : World} {B : Nat} {v : Value} (hown : OwnsH w B v l) (hb : Below B w0 w) (hg : w.grownBy w' v.ownBlock) (hB : B ≤ w.heap.size) : Below B w0 w' :=
  hb.grown hg hB fun k hk => (World.ownsRow.lt hown k hk).1
theorem OwnsH.low {base base' : Nat} {v : Value} (h : OwnsH w base v l) (hB : base' ≤ base) : OwnsH w base' v l := by
  refine ⟨h.1, ?_⟩
  rcases h.2 with h0 | ⟨g, cap, cur, e1, hb, rest⟩
  · exact .inl h0
  · exact .inr ⟨g, cap, cur, e1, Nat.le_trans hB hb, rest⟩
/-- A call gives back the headers l in memory of its own, and changes nothing that was there. -/
def GivesH (w : World) (l : List Hd) (en : Ending) (w' : World) : Prop := ∃ v, en = .returned v ∧ OwnsH w' w.heap.size v l ∧ Below w.heap.size w w'
end

theorem Try.infoHd : (Try.prog.info? 44).map (fun i => (i.zero, i.size, i.bytes)) = some (some (.agg #[.string ByteArray.empty, .string ByteArray.empty]), 2, 32) := by kernel_rfl

/-- The slice value with address A, length n and capacity c reads as the strings l. -/
structure Strs (w : World) (A : Option Addr) (n c : Nat) (l : List ByteArray) : Prop where
  len : l.length = n
  cap : n ≤ c
  room : c ≤ maxLen
  bare : A = Option.none → c = 0
  cell : 0 < n → ∃ b off, A = some ⟨b, off, Option.none⟩ ∧ b < w.heap.size ∧ ∀ j (hj : j < l.length), w.cell? ⟨b, off + j, Option.none⟩ = some (.string l[j])

section
variable {w w' : World} {A : Option Addr} {n c : Nat} {l : List ByteArray}
theorem Strs.later (h : Strs w A n c l) (hb : Below w.heap.size w w') : Strs w' A n c l :=
  ⟨h.len, h.cap, h.room, h.bare, fun hn => by
    obtain ⟨b, off, e, hlt, hc⟩ := h.cell hn
    exact ⟨b, off, e, Nat.lt_of_lt_of_le hlt hb.size, fun j hj => cell_later hb (hc j hj)⟩⟩
theorem Strs.keeps (h : Strs w A n c l) (hk : Keeps w w') : Strs w' A n c l :=
  ⟨h.len, h.cap, h.room, h.bare, fun hn => by
    obtain ⟨b, off, e, hlt, hc⟩ := h.cell hn
    exact ⟨b, off, e, Nat.lt_of_lt_of_le hlt hk.size, fun j hj => hk.cell _ _ (hc j hj)⟩⟩
theorem strs_empty (w : World) (A : Option Addr) (c : Nat) (hc : c ≤ maxLen) (hb : A = Option.none → c = 0) : Strs w A 0 c [] := ⟨rfl, Nat.zero_le _, hc, hb, fun h => absurd h (by omega)⟩
theorem Strs.front (h : Strs w A n c l) {k : Nat} (hk : k ≤ n) : Strs w A k c (l.take k) :=
  ⟨by rw [List.length_take, h.len]; omega, Nat.le_trans hk h.cap, h.room, h.bare, fun hp => by
    obtain ⟨b, off, e, hlt, hc⟩ := h.cell (by omega)
    refine ⟨b, off, e, hlt, fun j hj => ?_⟩
    rw [List.length_take] at hj
    rw [hc j (by omega), List.getElem_take]⟩
/-- A new block of strings. -/
theorem strs_new (w : World) (cs : Array Value) (l : List ByteArray) (hcs : cs = (l.map Value.string).toArray) (hm : l.length ≤ maxLen) : Strs (w.alloc (.cells cs 9)) (some ⟨w.heap.size, 0, Option.none⟩) l.length l.length l :=
  ⟨rfl, Nat.le_refl _, hm, (fun e => by cases e), fun _ => ⟨w.heap.size, 0, rfl, by simp, fun j hj => by
    have := cell_of_row (w.alloc (.cells cs 9)) w.heap.size (0 + j) cs 9 (0, 0) (heap_alloc_new w _)
    rw [this, hcs]
    simp [List.getElem?_eq_getElem hj]⟩⟩
/-- The call owns the slice v, which reads as the strings l. -/
def OwnsS (w : World) (base : Nat) (v : Value) (l : List ByteArray) : Prop := w.ownsRow base 9 1 v l.length (l.map Value.string)
theorem OwnsS.strs {base : Nat} {v : Value} (h : OwnsS w base v l) : ∃ A c, v = .slice A l.length c ∧ Strs w A l.length c l := by
  rcases h.2 with ⟨rfl, h0⟩ | ⟨g, cap, cur, rfl, hb, hg, hn, hm, hs, ht⟩
  · have hl : l = [] := List.eq_nil_of_length_eq_zero h0
    subst hl
    exact ⟨Option.none, 0, rfl, strs_empty w _ _ (Nat.zero_le _) (fun _ => rfl)⟩
  · refine ⟨_, cap, rfl, rfl, hn, hm, (fun e => by cases e), fun hp => ⟨g, 0, rfl, (Array.getElem?_eq_some_iff.1 hg).1, fun j hj => ?_⟩⟩
    rw [Nat.zero_add, World.ownsRow.cellAt h j (by omega)]
    simp [List.getElem?_eq_getElem hj]
/-- The same, its length behind a name. -/
theorem OwnsS.strs' {base : Nat} {v : Value} (h : OwnsS w base v l) : ∃ A m c, v = .slice A m c ∧ Hid (m = l.length) ∧ Strs w A m c l := by
  obtain ⟨A, c, e, hS⟩ := h.strs
  exact ⟨A, _, c, e, Lib.hid rfl, hS⟩
theorem OwnsS.alloc {base : Nat} {v : Value} (h : OwnsS w base v l) (o : Obj) : OwnsS (w.alloc o) base v l := World.ownsRow.alloc h o
theorem OwnsS.kept {base : Nat} {v : Value} {B : Nat} (h : OwnsS w base v l) (hb : Below B w w') (hB : w.heap.size ≤ B) : OwnsS w' base v l :=
  World.ownsRow.kept (row := Option.none) h ⟨hb.os, hb.tape, hb.output, hb.size, fun k hk _ => hb.block k (by omega)⟩ (by cases hv : v.ownBlock <;> simp)
theorem OwnsS.below {w0 : World} {B : Nat} {v : Value} (hown : OwnsS w B v l) (hb : Below B w0 w) (hg : w.grownBy w' v.ownBlock) (hB : B ≤ w.heap.size) : Below B w0 w' :=
  hb.grown hg hB fun k hk => (World.ownsRow.lt hown k hk).1
end


/-- Every name and value is at most so long. -/
def Short (B : Nat) (l : List Hd) : Prop := ∀ h ∈ l, h.1.size ≤ B ∧ h.2.size ≤ B
theorem Hds.few {w : World} {A : Option Addr} {n c : Nat} {l : List Hd} (h : Hds w A n c l) : Hds w A (min n 30) c (l.take 30) := by
  have h1 := h.front (k := min n 30) (by omega)
  have e : l.take (min n 30) = l.take 30 := by
    rcases Nat.le_total n 30 with hn | hn
    · rw [Nat.min_eq_left hn, List.take_of_length_le (by rw [h.len]; exact Nat.le_refl _), List.take_of_length_le (by rw [h.len]; exact hn)]
    · rw [Nat.min_eq_right hn]
  rw [e] at h1
  exact h1
theorem Short.take {B : Nat} {l : List Hd} (h : Short B l) (k : Nat) : Short B (l.take k) := fun x hx => h x (List.mem_of_mem_take hx)
/-- Every name and value is at most so long as one argument may be. -/
abbrev Fits (l : List Hd) : Prop := Short 140737488351232 l
theorem Short.mono {B B' : Nat} {l : List Hd} (h : Short B l) (hB : B ≤ B') : Short B' l := fun x hx => ⟨Nat.le_trans (h x hx).1 hB, Nat.le_trans (h x hx).2 hB⟩
theorem cells_pair_new (w : World) (x y : Value) (t : TypeId) : ∀ j u, [x, y][j]? = some u → (w.alloc (.cells #[x, y] t)).cell? ((⟨w.heap.size, 0, Option.none⟩ : Addr).add j) = some u := by
  intro j u hj
  rw [addr_add, cell_of_row _ w.heap.size (0 + j) _ t (0, 0) (heap_alloc_new w _)]
  match j, hj with
  | 0, hj => simpa using hj
  | 1, hj => simpa using hj
theorem strs_one (w : World) (x : ByteArray) (g : Nat) (hg : g = w.heap.size) : Strs (w.alloc (.cells #[.string x] 9)) (some ⟨g, 0, Option.none⟩) 1 1 [x] := by
  subst hg
  exact strs_new w _ [x] rfl (by simp [maxLen])

theorem run_frontH (w : World) (A : Option Addr) (n c k : Nat) (h : k ≤ n) (hc : n ≤ c) : (Instr.sliceAt 23 (.slice A n c) Option.none (some (.int .i64 (k : Int))) Option.none).run Try.prog w = .ok (.slice A k c) w := by
  have f3 : (0 : Int) ≤ (k : Int) := by omega
  have f5 : (k : Int) ≤ (c : Int) := by omega
  go_simp
theorem run_backH (w : World) (A : Option Addr) (n c k : Nat) (h : k ≤ n) (hc : n ≤ c) : (Instr.sliceAt 23 (.slice A n c) (some (.int .i64 (k : Int))) Option.none Option.none).run Try.prog w = .ok (.slice (if c = k then A else A.map (·.add (k * 2))) (n - k) (c - k)) w := by
  have f3 : (0 : Int) ≤ (k : Int) := by omega
  have f4 : (k : Int) ≤ (n : Int) := by omega
  have f5 : (n : Int) ≤ (c : Int) := by omega
  go_simp
theorem run_loadH (w : World) (g o : Nat) (x y : ByteArray) (h1 : w.cell? ⟨g, o, Option.none⟩ = some (.string x)) (h2 : w.cell? ⟨g, o + 1, Option.none⟩ = some (.string y)) : (Instr.loadAt 44 (.pointer (some ⟨g, o, Option.none⟩))).run Try.prog w = .ok (.agg #[.string x, .string y]) w := by go_simp
theorem run_load9 (w : World) (g k : Nat) (x : ByteArray) (h : w.cell? ⟨g, k, Option.none⟩ = some (.string x)) : (Instr.loadAt 9 (.pointer (some ⟨g, k, Option.none⟩))).run Try.prog w = .ok (.string x) w := by go_simp
theorem run_field0 (w : World) (g o : Nat) : (Instr.fieldAt 44 (.pointer (some ⟨g, o, Option.none⟩)) 0).run Try.prog w = .ok (.pointer (some ⟨g, o, Option.none⟩)) w := by go_simp
theorem run_field1 (w : World) (g o : Nat) : (Instr.fieldAt 44 (.pointer (some ⟨g, o, Option.none⟩)) 1).run Try.prog w = .ok (.pointer (some ⟨g, o + 1, Option.none⟩)) w := by go_simp
theorem run_buildH (w : World) (x y : ByteArray) : (Instr.buildSlice 23 1 #[(0, .agg #[.string x, .string y])]).run Try.prog w = .ok (.slice (some ⟨w.heap.size, 0, Option.none⟩) 1 1) (w.alloc (.cells #[.string x, .string y] 44)) := by go_simp
theorem run_build9 (w : World) (x : ByteArray) : (Instr.buildSlice 31 1 #[(0, .string x)]).run Try.prog w = .ok (.slice (some ⟨w.heap.size, 0, Option.none⟩) 1 1) (w.alloc (.cells #[.string x] 9)) := by go_simp
theorem Hds.backAny {w : World} {A : Option Addr} {n c : Nat} {l : List Hd} (h : Hds w A n c l) {k : Nat} (hk : k ≤ n) : Hds w (if c = k then A else A.map (·.add (k * 2))) (n - k) (c - k) (l.drop k) := by
  have hcap := h.cap
  by_cases hp : 0 < n - k
  · obtain ⟨b, off, e, _, _⟩ := h.cell (by omega)
    subst e
    rw [if_neg (by omega)]
    have := h.back hk
    simpa [addr_add] using this
  · refine ⟨by rw [List.length_drop, h.len], by omega, by have := h.room; omega, fun e => ?_, fun hq => absurd hq hp⟩
    by_cases hc : c = k
    · omega
    · rw [if_neg hc] at e
      have : A = Option.none := by cases A with | none => rfl | some a => cases e
      have := h.bare this
      omega
/-- A new block of headers. -/
theorem hds_new (w : World) (cs : Array Value) (l : List Hd) (hcs : cs = (hcells l).toArray) (hm : l.length ≤ maxLen) : Hds (w.alloc (.cells cs 44)) (some ⟨w.heap.size, 0, Option.none⟩) l.length l.length l :=
  ⟨rfl, Nat.le_refl _, hm, (fun e => by cases e), fun _ => ⟨w.heap.size, 0, rfl, by simp, fun j hj => by
    rw [cell_of_row (w.alloc (.cells cs 44)) w.heap.size (0 + j) cs 44 (0, 0) (heap_alloc_new w _), hcs]
    simp⟩⟩
theorem Short.drop {B : Nat} {l : List Hd} (h : Short B l) (k : Nat) : Short B (l.drop k) := fun x hx => h x (List.mem_of_mem_drop hx)
theorem short_of {B : Nat} {l : List Hd} (h : (l.all fun x => decide (x.1.size ≤ 1000) && decide (x.2.size ≤ 1000)) = true) (hB : 1000 ≤ B) : Short B l := fun x hx => by
  rw [List.all_eq_true] at h
  have := h x hx
  simp only [Bool.and_eq_true, decide_eq_true_eq] at this
  omega
theorem owns_snoc {w3 : World} {B : Nat} {v1 : Value} {x y : ByteArray} {xs : List Hd} (h : w3.ownsRow B 44 2 v1 (xs.length + 1) (hcells xs ++ [.string x, .string y])) : OwnsH w3 B v1 (xs ++ [(x, y)]) := by
  unfold OwnsH
  rw [List.length_append, hcells_append]
  exact h

theorem run_idxH (w : World) (g off n c k : Nat) (h : k < n) : (Instr.indexAt 23 (.slice (some ⟨g, off, Option.none⟩) n c) (.int .i64 (k : Int))).run Try.prog w = .ok (.pointer (some ⟨g, off + k * 2, Option.none⟩)) w := by go_simp
theorem run_idx9 (w : World) (g off n c k : Nat) (h : k < n) : (Instr.indexAt 31 (.slice (some ⟨g, off, Option.none⟩) n c) (.int .i64 (k : Int))).run Try.prog w = .ok (.pointer (some ⟨g, off + k, Option.none⟩)) w := by go_simp
/-- A slice value that reads as headers, as strings. -/
def HH (l : List Hd) (v : Value) (w : World) : Prop := ∃ A n c, v = .slice A n c ∧ Hds w A n c l
def SS (l : List ByteArray) (v : Value) (w : World) : Prop := ∃ A n c, v = .slice A n c ∧ Strs w A n c l
theorem HH.keeps {l : List Hd} {v : Value} {w w' : World} (h : HH l v w) (hk : Keeps w w') : HH l v w' := by
  obtain ⟨A, n, c, e, h1⟩ := h
  exact ⟨A, n, c, e, h1.keeps hk⟩
theorem SS.keeps {l : List ByteArray} {v : Value} {w w' : World} (h : SS l v w) (hk : Keeps w w') : SS l v w' := by
  obtain ⟨A, n, c, e, h1⟩ := h
  exact ⟨A, n, c, e, h1.keeps hk⟩
theorem OwnsH.hh {w : World} {base : Nat} {v : Value} {l : List Hd} (h : OwnsH w base v l) : HH l v w := by
  obtain ⟨A, c, e, h1⟩ := h.hds
  exact ⟨A, _, c, e, h1⟩
/-- A call gives back the headers l, and changes nothing that was there. -/
def ReadsH (w : World) (l : List Hd) (en : Ending) (w' : World) : Prop := ∃ v, en = .returned v ∧ HH l v w' ∧ Below w.heap.size w w'
theorem GivesH.reads {w : World} {l : List Hd} {e : Ending} {w' : World} (h : GivesH w l e w') : ReadsH w l e w' := by
  obtain ⟨v, he, ho, hb⟩ := h
  exact ⟨v, he, ho.hh, hb⟩
end Go.Proofs.Ytkjnpdnihfohoaa
