/-
  Words for slices of entries (six cells each) in memory. Conditions: those that each theorem states.
-/
import Derived.Test.YthojnhdnflakiaaMemoMath
import Derived.Test.YthojnhdnflakiaaAscTexts
import Derived.Test.YthojnhdnflakiaaRegion
import Derived.Test.YthojnhdnflakiaaMemBelow
import Derived.WalkSmall
namespace Go.Proofs.Ythojnhdnflakiaa
open Go.RowKit Go.Lib Go.Shelf

/-- The six cells of an entry. -/
def ecell (x : Ent) : List Value := [.string x.fr, .string x.at_, .bool x.cred, .string x.me, .string x.he, .int .i64 x.til]
/-- An entry by value. -/
def evalue (x : Ent) : Value := .agg #[.string x.fr, .string x.at_, .bool x.cred, .string x.me, .string x.he, .int .i64 x.til]
def ecells (l : List Ent) : List Value := l.flatMap ecell
theorem ecells_len (l : List Ent) : (ecells l).length = l.length * 6 := by
  induction l with
  | nil => rfl
  | cons h r ih => simp only [ecells, List.flatMap_cons, List.length_append, List.length_cons, ecell, List.length_nil] at ih ⊢; omega
theorem ecells_append (a b : List Ent) : ecells (a ++ b) = ecells a ++ ecells b := by simp [ecells]
theorem ecells_at {l : List Ent} {j i : Nat} (hj : j < l.length) (hi : i < 6) : (ecells l)[j * 6 + i]? = (ecell l[j])[i]? := by
  induction l generalizing j with
  | nil => simp at hj
  | cons h r ih =>
    have e : ecells (h :: r) = ecell h ++ ecells r := rfl
    rw [e]
    cases j with
    | zero => rw [Nat.zero_mul, Nat.zero_add, List.getElem?_append_left (by simp [ecell]; omega)]; rfl
    | succ j =>
      have := ih (j := j) (by simpa using hj)
      rw [List.getElem?_append_right (by simp [ecell]; omega)]
      have e2 : (j + 1) * 6 + i - (ecell h).length = j * 6 + i := by simp [ecell]; omega
      rw [e2, this]
      rfl
theorem ecells_one (l : List Ent) : ∀ u ∈ ecells l, u.oneCell' = true := by
  intro u hu
  obtain ⟨h, _, hh⟩ := List.mem_flatMap.1 hu
  simp [ecell] at hh
  rcases hh with rfl | rfl | rfl | rfl | rfl | rfl <;> rfl

/-- The slice value with address A, length n and capacity c reads as the entries l. -/
structure Eds (w : World) (A : Option Addr) (n c : Nat) (l : List Ent) : Prop where
  len : l.length = n
  cap : n ≤ c
  room : c ≤ maxLen
  bare : A = Option.none → c = 0
  cell : 0 < n → ∃ b off, A = some ⟨b, off, Option.none⟩ ∧ b < w.heap.size ∧ ∀ j, j < n * 6 → w.cell? ⟨b, off + j, Option.none⟩ = (ecells l)[j]?

section
variable {w w' : World} {A : Option Addr} {n c : Nat} {l : List Ent}
theorem Eds.later (h : Eds w A n c l) (hb : Below w.heap.size w w') : Eds w' A n c l :=
  ⟨h.len, h.cap, h.room, h.bare, fun hn => by
    obtain ⟨b, off, e, hlt, hc⟩ := h.cell hn
    refine ⟨b, off, e, Nat.lt_of_lt_of_le hlt hb.size, fun j hj => ?_⟩
    rw [← hc j hj]
    exact hb.cell (p := ⟨b, off + j, Option.none⟩) hlt⟩
theorem Eds.at (h : Eds w A n c l) {k : Nat} (hk : k < n) : ∃ b off, A = some ⟨b, off, Option.none⟩ ∧ b < w.heap.size ∧ ∀ i, i < 6 → w.cell? ⟨b, off + k * 6 + i, Option.none⟩ = (ecell (l[k]'(by rw [h.len]; exact hk)))[i]? := by
  obtain ⟨b, off, e, hlt, hc⟩ := h.cell (by omega)
  have hl : k < l.length := by rw [h.len]; exact hk
  refine ⟨b, off, e, hlt, fun i hi => ?_⟩
  rw [Nat.add_assoc, hc (k * 6 + i) (by omega), ecells_at hl hi]
/-- The six cells, one by one. -/
theorem Eds.six (h : Eds w A n c l) {k : Nat} (hk : k < n) {x : Ent} (hx : x = l[k]'(by rw [h.len]; exact hk)) : ∃ b off, A = some ⟨b, off, Option.none⟩ ∧
    w.cell? ⟨b, off + k * 6, Option.none⟩ = some (.string x.fr) ∧ w.cell? ⟨b, off + k * 6 + 1, Option.none⟩ = some (.string x.at_) ∧ w.cell? ⟨b, off + k * 6 + 2, Option.none⟩ = some (.bool x.cred) ∧
    w.cell? ⟨b, off + k * 6 + 3, Option.none⟩ = some (.string x.me) ∧ w.cell? ⟨b, off + k * 6 + 4, Option.none⟩ = some (.string x.he) ∧ w.cell? ⟨b, off + k * 6 + 5, Option.none⟩ = some (.int .i64 x.til) := by
  subst hx
  obtain ⟨b, off, e, _, hc⟩ := h.at hk
  exact ⟨b, off, e, hc 0 (by omega), hc 1 (by omega), hc 2 (by omega), hc 3 (by omega), hc 4 (by omega), hc 5 (by omega)⟩
theorem eds_empty (w : World) (A : Option Addr) (c : Nat) (hc : c ≤ maxLen) (hb : A = Option.none → c = 0) : Eds w A 0 c [] := ⟨rfl, Nat.zero_le _, hc, hb, fun h => absurd h (by omega)⟩
theorem Eds.back {b off : Nat} (h : Eds w (some ⟨b, off, Option.none⟩) n c l) {k : Nat} (hk : k ≤ n) : Eds w (some ⟨b, off + k * 6, Option.none⟩) (n - k) (c - k) (l.drop k) :=
  ⟨by rw [List.length_drop, h.len], by have := h.cap; omega, by have := h.room; omega, (fun e => by cases e), fun hp => by
    obtain ⟨b', off', e, hlt, hc⟩ := h.cell (by omega)
    injection e with e
    injection e with e1 e2
    subst e1
    subst e2
    refine ⟨b, off + k * 6, rfl, hlt, fun j hj => ?_⟩
    rw [Nat.add_assoc, hc (k * 6 + j) (by omega)]
    conv => lhs; rw [← List.take_append_drop k l, ecells_append]
    have e : (ecells (l.take k)).length = k * 6 := by rw [ecells_len, List.length_take, h.len]; congr 1; omega
    rw [List.getElem?_append_right (by omega), e]
    congr 1
    omega⟩

/-- The call owns the slice v, which reads as the entries l; its block is number 'base' or above. -/
def OwnsE (w : World) (base : Nat) (v : Value) (l : List Ent) : Prop := w.ownsRow base 32 6 v l.length (ecells l)
theorem OwnsE.eds {base : Nat} {v : Value} (h : OwnsE w base v l) : ∃ A c, v = .slice A l.length c ∧ Eds w A l.length c l := by
  rcases h.2 with ⟨rfl, h0⟩ | ⟨g, cap, cur, rfl, hb, hg, hn, hm, hs, ht⟩
  · have hl : l = [] := List.eq_nil_of_length_eq_zero h0
    subst hl
    exact ⟨Option.none, 0, rfl, eds_empty w _ _ (Nat.zero_le _) (fun _ => rfl)⟩
  · refine ⟨_, cap, rfl, rfl, hn, hm, (fun e => by cases e), fun hp => ⟨g, 0, rfl, (Array.getElem?_eq_some_iff.1 hg).1, fun j hj => ?_⟩⟩
    rw [Nat.zero_add]
    exact World.ownsRow.cellAt h j hj
theorem OwnsE.alloc {base : Nat} {v : Value} (h : OwnsE w base v l) (o : Obj) : OwnsE (w.alloc o) base v l := World.ownsRow.alloc h o
theorem OwnsE.kept {base : Nat} {v : Value} {B : Nat} (h : OwnsE w base v l) (hb : Below B w w') (hB : w.heap.size ≤ B) : OwnsE w' base v l :=
  World.ownsRow.kept (row := Option.none) h ⟨hb.os, hb.tape, hb.output, hb.size, fun k hk _ => hb.block k (by omega)⟩ (by cases hv : v.ownBlock <;> simp)
theorem OwnsE.below {w0 : World} {B : Nat} {v : Value} (hown : OwnsE w B v l) (hb : Below B w0 w) (hg : w.grownBy w' v.ownBlock) (hB : B ≤ w.heap.size) : Below B w0 w' :=
  hb.grown hg hB fun k hk => (World.ownsRow.lt hown k hk).1
theorem OwnsE.low {base base' : Nat} {v : Value} (h : OwnsE w base v l) (hB : base' ≤ base) : OwnsE w base' v l := by
  refine ⟨h.1, ?_⟩
  rcases h.2 with h0 | ⟨g, cap, cur, e1, hb, rest⟩
  · exact .inl h0
  · exact .inr ⟨g, cap, cur, e1, Nat.le_trans hB hb, rest⟩
/-- A call gives back the entries l in memory of its own, and changes nothing that was there. -/
def GivesE (w : World) (l : List Ent) (en : Ending) (w' : World) : Prop := ∃ v, en = .returned v ∧ OwnsE w' w.heap.size v l ∧ Below w.heap.size w w'
end

set_option maxRecDepth 100000 in
theorem Try.infoE : (Try.prog.info? 32).map (fun i => (i.zero, i.size, i.bytes)) = some (some (.agg #[.string ByteArray.empty, .string ByteArray.empty, .bool false, .string ByteArray.empty, .string ByteArray.empty, .int .i64 0]), 6, 80) := by kernel_rfl

section
variable {P : Program} {w : World}
/-- 'append' of whatever reads as entries onto a slice of the call's own. -/
theorem run_append_eds (base : Nat) (t ty : TypeId) (i : TypeInfo) (ht : P.underlying t = some (.slice 32)) (hi : P.info? 32 = some i) (hz : i.zero = some (.agg #[.string ByteArray.empty, .string ByteArray.empty, .bool false, .string ByteArray.empty, .string ByteArray.empty, .int .i64 0])) (hs : i.size = 6) (hb : i.bytes = 80)
    {v : Value} {xs : List Ent} (hown : OwnsE w base v xs) {A : Option Addr} {m c : Nat} {l : List Ent} (h : Eds w A m c l) (hlim : xs.length + m ≤ 1000000) (hbase : base ≤ w.heap.size) :
    ∃ v' w', (Builtin.append_ #[t, t] ty #[v, .slice A m c]).run P w = .ok v' w' ∧ OwnsE w' base v' (xs ++ l) ∧ w.grownBy w' v.ownBlock ∧ (v'.ownBlock = v.ownBlock ∨ v'.ownBlock = some w.heap.size) := by
  have hl := h.len
  subst hl
  cases A with
  | none =>
    have hc := h.bare rfl
    subst hc
    have h0 : l.length = 0 := by have := h.cap; omega
    have hl : l = [] := List.eq_nil_of_length_eq_zero h0
    subst hl
    exact ⟨v, w, run_append_owned_none (P := P) w base t ty _ i 6 ht hi v _ _ hown, by simpa using hown, World.grownBy.refl w _, .inl rfl⟩
  | some ad =>
    have hcs : ∀ j u, (ecells l)[j]? = some u → w.cell? (ad.add j) = some u := by
      intro j u hu
      have hj : j < l.length * 6 := by
        have := (List.getElem?_eq_some_iff.1 hu).1
        rwa [ecells_len] at this
      obtain ⟨b, off, e1, _, hc⟩ := h.cell (by omega)
      injection e1 with e1
      subst e1
      rw [addr_add, hc j hj, hu]
    have h63 : xs.length + l.length ≤ maxLen := by simp only [maxLen]; omega
    obtain ⟨v', w', hrun, h2, h3, _, h5⟩ := run_append_own_at (P := P) w base t ty _ i _ 6 80 ht hi hz hs hb rfl (by omega) v _ _ hown ad l.length c (ecells l) (ecells_len l) hcs (ecells_one l) h63 (by omega) hbase
    refine ⟨v', w', hrun, ?_, h3, h5⟩
    unfold OwnsE
    rw [List.length_append, ecells_append]
    exact h2
theorem wpList_append_eds {ops : Array Oper} {rest : List Oper} {o : Oper} {a : Act} {Q : Exit → Act → World → Prop} (hgd : o.guard = Option.none) (s x : Operand) (t : TypeId)
    (ho : o.op = .call { callee := .builtin .append, args := #[s, x], argTypes := #[t, t] })
    (base : Nat) (i : TypeInfo) (ht : P.underlying t = some (.slice 32)) (hi : P.info? 32 = some i) (hz : i.zero = some (.agg #[.string ByteArray.empty, .string ByteArray.empty, .bool false, .string ByteArray.empty, .string ByteArray.empty, .int .i64 0])) (hz1 : i.size = 6) (hz2 : i.bytes = 80)
    (v : Value) (xs : List Ent) (hs : a.eval s = v) (hown : OwnsE w base v xs) (A : Option Addr) (m c : Nat) (l : List Ent) (hx : a.eval x = .slice A m c) (h : Eds w A m c l)
    (hlim : xs.length + m ≤ 1000000) (hbase : base ≤ w.heap.size)
    (hK : ∀ v' w', OwnsE w' base v' (xs ++ l) → w.grownBy w' v.ownBlock → (v'.ownBlock = v.ownBlock ∨ v'.ownBlock = some w.heap.size) → wpList P ops Q rest (a.put o.dst v') w') : wpList P ops Q (o :: rest) a w :=
  wpList_plain hgd fun _ hK' => by
    obtain ⟨v', w', hrun, h2, h3, h4⟩ := run_append_eds (P := P) base t o.type i ht hi hz hz1 hz2 hown h hlim hbase
    unfold Oper.wp execOp
    simp only [ho, resolve, invoke, builtin, Sem.run_bind, Sem.run_pure, Result.andThen_ok, List.map_toArray, List.map_cons, List.map_nil, hs, hx, hrun]
    exact hK' _ _ (hK v' w' h2 h3 h4)
end
/-- A new block of entries. -/
theorem eds_new (w : World) (cs : Array Value) (l : List Ent) (hcs : cs = (ecells l).toArray) (hm : l.length ≤ maxLen) : Eds (w.alloc (.cells cs 32)) (some ⟨w.heap.size, 0, Option.none⟩) l.length l.length l :=
  ⟨rfl, Nat.le_refl _, hm, (fun e => by cases e), fun _ => ⟨w.heap.size, 0, rfl, by simp, fun j hj => by
    rw [cell_of_row (w.alloc (.cells cs 32)) w.heap.size (0 + j) cs 32 (0, 0) (heap_alloc_new w _), hcs]
    simp⟩⟩
theorem owns_eds (w : World) (l : List Ent) (hm : l.length ≤ maxLen) (cs : Array Value) (hcs : cs = (ecells l).toArray) : OwnsE (w.alloc (.cells cs 32)) w.heap.size (.slice (some ⟨w.heap.size, 0, Option.none⟩) l.length l.length) l := by
  subst hcs
  have := World.ownsRow_lit (base := w.heap.size) (size := 6) (e := 32) w (ecells l).toArray l.length (Nat.le_refl _) hm (by simp [ecells_len])
  simpa [OwnsE] using this
end Go.Proofs.Ythojnhdnflakiaa
