/-
  Texts of one sort, one behind the other: numbers, memory, regions, strings, headers. Conditions: those that each theorem states.
-/
import Derived.Test.YtodncamohimmmaaLow1
import Derived.WalkSmall

namespace Go.Proofs.Ytodncamohimmmaa
open Go.RowKit Go.Lib Go.Shelf

def hcells (l : List Hd) : List Value := l.flatMap fun h => [.string h.1, .string h.2]
theorem hcells_len (l : List Hd) : (hcells l).length = l.length * 2 := by
  induction l with
  | nil => rfl
  | cons h r ih => simp only [hcells, List.flatMap_cons, List.length_append, List.length_cons, List.length_nil] at ih ⊢; omega
theorem hcells_append (a b : List Hd) : hcells (a ++ b) = hcells a ++ hcells b := by simp [hcells]
theorem hcells_at {l : List Hd} {j : Nat} (hj : j < l.length) : (hcells l)[j * 2]? = some (.string l[j].1) ∧ (hcells l)[j * 2 + 1]? = some (.string l[j].2) := by
  induction l generalizing j with
  | nil => simp at hj
  | cons h r ih =>
    cases j with
    | zero => simp [hcells]
    | succ j =>
      have := ih (j := j) (by simpa using hj)
      have e : hcells (h :: r) = .string h.1 :: .string h.2 :: hcells r := rfl
      rw [e, show (j + 1) * 2 = j * 2 + 2 by omega]
      simpa using this
theorem hcells_one (l : List Hd) : ∀ u ∈ hcells l, u.oneCell' = true := by
  intro u hu
  obtain ⟨h, _, hh⟩ := List.mem_flatMap.1 hu
  simp at hh
  rcases hh with rfl | rfl <;> rfl

structure Hds (w : World) (A : Option Addr) (n c : Nat) (l : List Hd) : Prop where
  len : l.length = n
  cap : n ≤ c
  room : c ≤ maxLen
  bare : A = Option.none → c = 0
  cell : 0 < n → ∃ b off, A = some ⟨b, off, Option.none⟩ ∧ b < w.heap.size ∧ ∀ j, j < n * 2 → w.cell? ⟨b, off + j, Option.none⟩ = (hcells l)[j]?

section
variable {w w' : World} {A : Option Addr} {n c : Nat} {l : List Hd}
theorem Hds.later (h : Hds w A n c l) (hb : Below w.heap.size w w') : Hds w' A n c l :=
  ⟨h.len, h.cap, h.room, h.bare, fun hn => by
    obtain ⟨b, off, e, hlt, hc⟩ := h.cell hn
    refine ⟨b, off, e, Nat.lt_of_lt_of_le hlt hb.size, fun j hj => ?_⟩
    rw [← hc j hj]
    exact hb.cell (p := ⟨b, off + j, Option.none⟩) hlt⟩
theorem Hds.keeps (h : Hds w A n c l) (hk : Keeps w w') : Hds w' A n c l :=
  ⟨h.len, h.cap, h.room, h.bare, fun hn => by
    obtain ⟨b, off, e, hlt, hc⟩ := h.cell hn
    refine ⟨b, off, e, Nat.lt_of_lt_of_le hlt hk.size, fun j hj => ?_⟩
    have hl : j < (hcells l).length := by rw [hcells_len, h.len]; omega
    have h1 := hc j hj
    rw [List.getElem?_eq_getElem hl] at h1 ⊢
    exact hk.cell _ _ h1⟩
theorem Hds.at (h : Hds w A n c l) {k : Nat} (hk : k < n) : ∃ b off, A = some ⟨b, off, Option.none⟩ ∧ w.cell? ⟨b, off + k * 2, Option.none⟩ = some (.string (l[k]'(by rw [h.len]; exact hk)).1) ∧ w.cell? ⟨b, off + k * 2 + 1, Option.none⟩ = some (.string (l[k]'(by rw [h.len]; exact hk)).2) := by
  obtain ⟨b, off, e, _, hc⟩ := h.cell (by omega)
  have hl : k < l.length := by rw [h.len]; exact hk
  refine ⟨b, off, e, ?_, ?_⟩
  · rw [hc (k * 2) (by omega), (hcells_at hl).1]
  · rw [Nat.add_assoc, hc (k * 2 + 1) (by omega), (hcells_at hl).2]
theorem hds_empty (w : World) (A : Option Addr) (c : Nat) (hc : c ≤ maxLen) (hb : A = Option.none → c = 0) : Hds w A 0 c [] := ⟨rfl, Nat.zero_le _, hc, hb, fun h => absurd h (by omega)⟩
theorem Hds.front (h : Hds w A n c l) {k : Nat} (hk : k ≤ n) : Hds w A k c (l.take k) :=
  ⟨by rw [List.length_take, h.len]; omega, Nat.le_trans hk h.cap, h.room, h.bare, fun hp => by
    obtain ⟨b, off, e, hlt, hc⟩ := h.cell (by omega)
    refine ⟨b, off, e, hlt, fun j hj => ?_⟩
    rw [hc j (by omega)]
    conv => lhs; rw [← List.take_append_drop k l, hcells_append]
    rw [List.getElem?_append_left (by rw [hcells_len, List.length_take, h.len]; omega)]⟩
theorem Hds.back {b off : Nat} (h : Hds w (some ⟨b, off, Option.none⟩) n c l) {k : Nat} (hk : k ≤ n) : Hds w (some ⟨b, off + k * 2, Option.none⟩) (n - k) (c - k) (l.drop k) :=
  ⟨by rw [List.length_drop, h.len], by have := h.cap; omega, by have := h.room; omega, (fun e => by cases e), fun hp => by
    obtain ⟨b', off', e, hlt, hc⟩ := h.cell (by omega)
    injection e with e
    injection e with e1 e2
    subst e1
    subst e2
    refine ⟨b, off + k * 2, rfl, hlt, fun j hj => ?_⟩
    rw [Nat.add_assoc, hc (k * 2 + j) (by omega)]
    conv => lhs; rw [← List.take_append_drop k l, hcells_append]
    have e : (hcells (l.take k)).length = k * 2 := by rw [hcells_len, List.length_take, h.len]; congr 1; omega
    rw [List.getElem?_append_right (by omega), e]
    congr 1
    omega⟩

def OwnsH (w : World) (base : Nat) (v : Value) (l : List Hd) : Prop := w.ownsRow base 59 2 v l.length (hcells l)
theorem OwnsH.hds {base : Nat} {v : Value} (h : OwnsH w base v l) : ∃ A c, v = .slice A l.length c ∧ Hds w A l.length c l := by
  rcases h.2 with ⟨rfl, h0⟩ | ⟨g, cap, cur, rfl, hb, hg, hn, hm, hs, ht⟩
  · have hl : l = [] := List.eq_nil_of_length_eq_zero h0
    subst hl
    exact ⟨Option.none, 0, rfl, hds_empty w _ _ (Nat.zero_le _) (fun _ => rfl)⟩
  · refine ⟨_, cap, rfl, rfl, hn, hm, (fun e => by cases e), fun hp => ⟨g, 0, rfl, (Array.getElem?_eq_some_iff.1 hg).1, fun j hj => ?_⟩⟩
    rw [Nat.zero_add]
    exact World.ownsRow.cellAt h j hj
theorem OwnsH.hds' {base : Nat} {v : Value} (h : OwnsH w base v l) : ∃ A m c, v = .slice A m c ∧ Hid (m = l.length) ∧ Hds w A m c l := by
  obtain ⟨A, c, e, hS⟩ := h.hds
  exact ⟨A, _, c, e, Lib.hid rfl, hS⟩
theorem OwnsH.alloc {base : Nat} {v : Value} (h : OwnsH w base v l) (o : Obj) : OwnsH (w.alloc o) base v l := World.ownsRow.alloc h o
theorem OwnsH.kept {base : Nat} {v : Value} {B : Nat} (h : OwnsH w base v l) (hb : Below B w w') (hB : w.heap.size ≤ B) : OwnsH w' base v l :=
  World.ownsRow.kept (row := Option.none) h ⟨hb.os, hb.tape, hb.output, hb.size, fun k hk _ => hb.block k (by omega)⟩ (by cases hv : v.ownBlock <;> simp)
theorem OwnsH.below {w0 : World} {B : Nat} {v : Value} (hown : OwnsH w B v l) (hb : Below B w0 w) (hg : w.grownBy w' v.ownBlock) (hB : B ≤ w.heap.size) : Below B w0 w' :=
  hb.grown hg hB fun k hk => (World.ownsRow.lt hown k hk).1
theorem OwnsH.low {base base' : Nat} {v : Value} (h : OwnsH w base v l) (hB : base' ≤ base) : OwnsH w base' v l := by
  refine ⟨h.1, ?_⟩
  rcases h.2 with h0 | ⟨g, cap, cur, e1, hb, rest⟩
  · exact .inl h0
  · exact .inr ⟨g, cap, cur, e1, Nat.le_trans hB hb, rest⟩
def GivesH (w : World) (l : List Hd) (en : Ending) (w' : World) : Prop := ∃ v, en = .returned v ∧ OwnsH w' w.heap.size v l ∧ Below w.heap.size w w'
end

theorem Try.infoHd : (Try.prog.info? 59).map (fun i => (i.zero, i.size, i.bytes)) = some (some (.agg #[.string ByteArray.empty, .string ByteArray.empty]), 2, 32) := by kernel_rfl

structure Strs (w : World) (A : Option Addr) (n c : Nat) (l : List ByteArray) : Prop where
  len : l.length = n
  cap : n ≤ c
  room : c ≤ maxLen
  bare : A = Option.none → c = 0
  cell : 0 < n → ∃ b off, A = some ⟨b, off, Option.none⟩ ∧ b < w.heap.size ∧ ∀ j (hj : j < l.length), w.cell? ⟨b, off + j, Option.none⟩ = some (.string l[j])

section
variable {w w' : World} {A : Option Addr} {n c : Nat} {l : List ByteArray}
theorem Strs.later (h : Strs w A n c l) (hb : Below w.heap.size w w') : Strs w' A n c l :=
  ⟨h.len, h.cap, h.room, h.bare, fun hn => by
    obtain ⟨b, off, e, hlt, hc⟩ := h.cell hn
    exact ⟨b, off, e, Nat.lt_of_lt_of_le hlt hb.size, fun j hj => cell_later hb (hc j hj)⟩⟩
theorem Strs.keeps (h : Strs w A n c l) (hk : Keeps w w') : Strs w' A n c l :=
  ⟨h.len, h.cap, h.room, h.bare, fun hn => by
    obtain ⟨b, off, e, hlt, hc⟩ := h.cell hn
    exact ⟨b, off, e, Nat.lt_of_lt_of_le hlt hk.size, fun j hj => hk.cell _ _ (hc j hj)⟩⟩
theorem Strs.front (h : Strs w A n c l) {k : Nat} (hk : k ≤ n) : Strs w A k c (l.take k) :=
  ⟨by rw [List.length_take, h.len]; omega, Nat.le_trans hk h.cap, h.room, h.bare, fun hp => by
    obtain ⟨b, off, e, hlt, hc⟩ := h.cell (by omega)
    refine ⟨b, off, e, hlt, fun j hj => ?_⟩
    rw [List.length_take] at hj
    rw [hc j (by omega), List.getElem_take]⟩
def OwnsS (w : World) (base : Nat) (v : Value) (l : List ByteArray) : Prop := w.ownsRow base 9 1 v l.length (l.map Value.string)
theorem OwnsS.alloc {base : Nat} {v : Value} (h : OwnsS w base v l) (o : Obj) : OwnsS (w.alloc o) base v l := World.ownsRow.alloc h o
theorem OwnsS.kept {base : Nat} {v : Value} {B : Nat} (h : OwnsS w base v l) (hb : Below B w w') (hB : w.heap.size ≤ B) : OwnsS w' base v l :=
  World.ownsRow.kept (row := Option.none) h ⟨hb.os, hb.tape, hb.output, hb.size, fun k hk _ => hb.block k (by omega)⟩ (by cases hv : v.ownBlock <;> simp)
theorem OwnsS.below {w0 : World} {B : Nat} {v : Value} (hown : OwnsS w B v l) (hb : Below B w0 w) (hg : w.grownBy w' v.ownBlock) (hB : B ≤ w.heap.size) : Below B w0 w' :=
  hb.grown hg hB fun k hk => (World.ownsRow.lt hown k hk).1
end


def Short (B : Nat) (l : List Hd) : Prop := ∀ h ∈ l, h.1.size ≤ B ∧ h.2.size ≤ B
theorem Hds.few {w : World} {A : Option Addr} {n c : Nat} {l : List Hd} (h : Hds w A n c l) : Hds w A (min n 30) c (l.take 30) := by
  have h1 := h.front (k := min n 30) (by omega)
  have e : l.take (min n 30) = l.take 30 := by
    rcases Nat.le_total n 30 with hn | hn
    · rw [Nat.min_eq_left hn, List.take_of_length_le (by rw [h.len]; exact Nat.le_refl _), List.take_of_length_le (by rw [h.len]; exact hn)]
    · rw [Nat.min_eq_right hn]
  rw [e] at h1
  exact h1
theorem Short.take {B : Nat} {l : List Hd} (h : Short B l) (k : Nat) : Short B (l.take k) := fun x hx => h x (List.mem_of_mem_take hx)
abbrev Fits (l : List Hd) : Prop := Short 140737488351232 l
theorem Short.mono {B B' : Nat} {l : List Hd} (h : Short B l) (hB : B ≤ B') : Short B' l := fun x hx => ⟨Nat.le_trans (h x hx).1 hB, Nat.le_trans (h x hx).2 hB⟩
theorem run_backH (w : World) (A : Option Addr) (n c k : Nat) (h : k ≤ n) (hc : n ≤ c) : (Instr.sliceAt 22 (.slice A n c) (some (.int .i64 (k : Int))) Option.none Option.none).run Try.prog w = .ok (.slice (if c = k then A else A.map (·.add (k * 2))) (n - k) (c - k)) w := by
  have f3 : (0 : Int) ≤ (k : Int) := by omega
  have f4 : (k : Int) ≤ (n : Int) := by omega
  have f5 : (n : Int) ≤ (c : Int) := by omega
  go_simp
theorem run_load9 (w : World) (g k : Nat) (x : ByteArray) (h : w.cell? ⟨g, k, Option.none⟩ = some (.string x)) : (Instr.loadAt 9 (.pointer (some ⟨g, k, Option.none⟩))).run Try.prog w = .ok (.string x) w := by go_simp
theorem run_field0 (w : World) (g o : Nat) : (Instr.fieldAt 59 (.pointer (some ⟨g, o, Option.none⟩)) 0).run Try.prog w = .ok (.pointer (some ⟨g, o, Option.none⟩)) w := by go_simp
theorem run_field1 (w : World) (g o : Nat) : (Instr.fieldAt 59 (.pointer (some ⟨g, o, Option.none⟩)) 1).run Try.prog w = .ok (.pointer (some ⟨g, o + 1, Option.none⟩)) w := by go_simp
theorem Hds.backAny {w : World} {A : Option Addr} {n c : Nat} {l : List Hd} (h : Hds w A n c l) {k : Nat} (hk : k ≤ n) : Hds w (if c = k then A else A.map (·.add (k * 2))) (n - k) (c - k) (l.drop k) := by
  have hcap := h.cap
  by_cases hp : 0 < n - k
  · obtain ⟨b, off, e, _, _⟩ := h.cell (by omega)
    subst e
    rw [if_neg (by omega)]
    have := h.back hk
    simpa [addr_add] using this
  · refine ⟨by rw [List.length_drop, h.len], by omega, by have := h.room; omega, fun e => ?_, fun hq => absurd hq hp⟩
    by_cases hc : c = k
    · omega
    · rw [if_neg hc] at e
      have : A = Option.none := by cases A with | none => rfl | some a => cases e
      have := h.bare this
      omega
theorem hds_new (w : World) (cs : Array Value) (l : List Hd) (hcs : cs = (hcells l).toArray) (hm : l.length ≤ maxLen) : Hds (w.alloc (.cells cs 59)) (some ⟨w.heap.size, 0, Option.none⟩) l.length l.length l :=
  ⟨rfl, Nat.le_refl _, hm, (fun e => by cases e), fun _ => ⟨w.heap.size, 0, rfl, by simp, fun j hj => by
    rw [cell_of_row (w.alloc (.cells cs 59)) w.heap.size (0 + j) cs 59 (0, 0) (heap_alloc_new w _), hcs]
    simp⟩⟩
theorem Short.drop {B : Nat} {l : List Hd} (h : Short B l) (k : Nat) : Short B (l.drop k) := fun x hx => h x (List.mem_of_mem_drop hx)
theorem run_idxH (w : World) (g off n c k : Nat) (h : k < n) : (Instr.indexAt 22 (.slice (some ⟨g, off, Option.none⟩) n c) (.int .i64 (k : Int))).run Try.prog w = .ok (.pointer (some ⟨g, off + k * 2, Option.none⟩)) w := by go_simp
def HH (l : List Hd) (v : Value) (w : World) : Prop := ∃ A n c, v = .slice A n c ∧ Hds w A n c l
def SS (l : List ByteArray) (v : Value) (w : World) : Prop := ∃ A n c, v = .slice A n c ∧ Strs w A n c l
theorem HH.keeps {l : List Hd} {v : Value} {w w' : World} (h : HH l v w) (hk : Keeps w w') : HH l v w' := by
  obtain ⟨A, n, c, e, h1⟩ := h
  exact ⟨A, n, c, e, h1.keeps hk⟩
theorem SS.keeps {l : List ByteArray} {v : Value} {w w' : World} (h : SS l v w) (hk : Keeps w w') : SS l v w' := by
  obtain ⟨A, n, c, e, h1⟩ := h
  exact ⟨A, n, c, e, h1.keeps hk⟩
theorem OwnsH.hh {w : World} {base : Nat} {v : Value} {l : List Hd} (h : OwnsH w base v l) : HH l v w := by
  obtain ⟨A, c, e, h1⟩ := h.hds
  exact ⟨A, _, c, e, h1⟩
def ReadsH (w : World) (l : List Hd) (en : Ending) (w' : World) : Prop := ∃ v, en = .returned v ∧ HH l v w' ∧ Below w.heap.size w w'
theorem GivesH.reads {w : World} {l : List Hd} {e : Ending} {w' : World} (h : GivesH w l e w') : ReadsH w l e w' := by
  obtain ⟨v, he, ho, hb⟩ := h
  exact ⟨v, he, ho.hh, hb⟩
end Go.Proofs.Ytodncamohimmmaa

namespace Go.Proofs.Ytodncamohimmmaa
open Go.RowKit Go.Lib Go.Shelf

set_option maxHeartbeats 2000000 in
set_option maxRecDepth 100000 in
theorem same9_any (A B : Option Addr) (n m c d : Nat) (a : List Hd) (w : World) (ha : Hds w A n c a) (hb : Hds w B m d a) :
    Calls Try.prog 29 #[.slice A n c, .slice B m d] w fun e w' => e = .returned (.bool true) ∧ Below w.heap.size w w' := by
  have hnm : n = m := by rw [← ha.len, ← hb.len]
  subst hnm
  have hn : n ≤ 9223372036854775807 := by have h1 := ha.cap; have h2 := ha.room; unfold maxLen at h2; omega
  have hl := Lib.hid ha.len
  have ha' := Lib.hid ha
  have hb' := Lib.hid hb
  clear ha hb
  go_enter Try.func29, Try.ntmps29
  go_wp2
  go_loopw [5] (fun i wr => ∃ k : Nat, k ≤ n ∧ i = .int .i64 k ∧ Below w.heap.size w wr) (fun i _ => n - (RowKit.intOf i).toNat)
  case atStart => exact ⟨0, Nat.zero_le _, rfl, Below.refl _ _⟩
  case round =>
    obtain ⟨k, hk, rfl, hbe⟩ := hrel
    by_cases hkn : k < n
    · obtain ⟨ga, oa, rfl, h1, h2⟩ := (ha'.out.later hbe).at hkn
      obtain ⟨gb, ob, rfl, h3, h4⟩ := (hb'.out.later hbe).at hkn
      generalize (a[k]'(by rw [hl.out]; exact hkn)).1 = x at h1 h3
      generalize (a[k]'(by rw [hl.out]; exact hkn)).2 = y at h2 h4
      go_wp2
      go_region
      all_goals go_wp2
      all_goals
        go_roundw
        case rel =>
          refine ⟨k + 1, by omega, by go_num, ?_⟩
          first | exact hbe.drew | exact below_drawn hbe _
        case measure => simp [RowKit.intOf]; omega
    · go_wp2
      go_ret
      exact ⟨rfl, hbe⟩
end Go.Proofs.Ytodncamohimmmaa

namespace Go.Proofs.Ytodncamohimmmaa
open Go.RowKit Go.Lib Go.Shelf

section
variable {P : Program} {w : World}
theorem run_append_hds (base : Nat) (t ty : TypeId) (i : TypeInfo) (ht : P.underlying t = some (.slice 59)) (hi : P.info? 59 = some i) (hz : i.zero = some (.agg #[.string ByteArray.empty, .string ByteArray.empty])) (hs : i.size = 2) (hb : i.bytes = 32)
    {v : Value} {xs : List Hd} (hown : OwnsH w base v xs) {A : Option Addr} {m c : Nat} {l : List Hd} (h : Hds w A m c l) (hlim : xs.length + m ≤ 1000000) (hbase : base ≤ w.heap.size) :
    ∃ v' w', (Builtin.append_ #[t, t] ty #[v, .slice A m c]).run P w = .ok v' w' ∧ OwnsH w' base v' (xs ++ l) ∧ w.grownBy w' v.ownBlock := by
  have hl := h.len
  subst hl
  cases A with
  | none =>
    have hc := h.bare rfl
    subst hc
    have h0 : l.length = 0 := by have := h.cap; omega
    have hl : l = [] := List.eq_nil_of_length_eq_zero h0
    subst hl
    exact ⟨v, w, run_append_owned_none (P := P) w base t ty _ i 2 ht hi v _ _ hown, by simpa using hown, World.grownBy.refl w _⟩
  | some ad =>
    have hcs : ∀ j u, (hcells l)[j]? = some u → w.cell? (ad.add j) = some u := by
      intro j u hu
      have hj : j < l.length * 2 := by
        have := (List.getElem?_eq_some_iff.1 hu).1
        rwa [hcells_len] at this
      obtain ⟨b, off, e1, _, hc⟩ := h.cell (by omega)
      injection e1 with e1
      subst e1
      rw [addr_add, hc j hj, hu]
    have h63 : xs.length + l.length ≤ maxLen := by simp only [maxLen]; omega
    obtain ⟨v', w', hrun, h2, h3, _, h5⟩ := run_append_own_at (P := P) w base t ty _ i _ 2 32 ht hi hz hs hb rfl (by omega) v _ _ hown ad l.length c (hcells l) (hcells_len l) hcs (hcells_one l) h63 (by omega) hbase
    refine ⟨v', w', hrun, ?_, h3⟩
    unfold OwnsH
    rw [List.length_append, hcells_append]
    exact h2
theorem wpList_append_hds {ops : Array Oper} {rest : List Oper} {o : Oper} {a : Act} {Q : Exit → Act → World → Prop} (hgd : o.guard = Option.none) (s x : Operand) (t : TypeId)
    (ho : o.op = .call { callee := .builtin .append, args := #[s, x], argTypes := #[t, t] })
    (base : Nat) (i : TypeInfo) (ht : P.underlying t = some (.slice 59)) (hi : P.info? 59 = some i) (hz : i.zero = some (.agg #[.string ByteArray.empty, .string ByteArray.empty])) (hz1 : i.size = 2) (hz2 : i.bytes = 32)
    (v : Value) (xs : List Hd) (hs : a.eval s = v) (hown : OwnsH w base v xs) (A : Option Addr) (m c : Nat) (l : List Hd) (hx : a.eval x = .slice A m c) (h : Hds w A m c l)
    (hlim : xs.length + m ≤ 1000000) (hbase : base ≤ w.heap.size)
    (hK : ∀ v' w', OwnsH w' base v' (xs ++ l) → w.grownBy w' v.ownBlock → wpList P ops Q rest (a.put o.dst v') w') : wpList P ops Q (o :: rest) a w :=
  wpList_plain hgd fun _ hK' => by
    obtain ⟨v', w', hrun, h2, h3⟩ := run_append_hds (P := P) base t o.type i ht hi hz hz1 hz2 hown h hlim hbase
    unfold Oper.wp execOp
    simp only [ho, resolve, invoke, builtin, Sem.run_bind, Sem.run_pure, Result.andThen_ok, List.map_toArray, List.map_cons, List.map_nil, hs, hx, hrun]
    exact hK' _ _ (hK v' w' h2 h3)
end
end Go.Proofs.Ytodncamohimmmaa

namespace Go.Proofs.Ytodncamohimmmaa
open Go.RowKit Go.Lib Go.Shelf

section
variable {P : Program} {ops : Array Oper} {Q : Exit → Act → World → Prop} {i : Nat} {o : Oper} {a : Act} {w : World} {K : Act → World → Prop}
theorem wpOp_agg (ho : ops[i]? = some o) (hw : Region.wanted o (yielded ops a.tmps) = true) (t : TypeId) (ps : Array (Nat × Operand)) (hop : o.op = .build t ps) (us : Array (Nat × Value)) (hu : (ps.map fun (k, x) => (k, a.eval x)) = us) (v : Value) (hr : (Instr.build t us).run P w = .ok v w) (hK : K (a.put o.dst v) w) : wpOp P ops Q i K a w :=
  wpOp_value ho hw (v := v) (w' := w) (by simp only [execOp, hop, hu, Sem.run_bind, hr]; rfl) hK
end
section
variable {P : Program} {w : World}
theorem run_append_hds_at (base : Nat) (t ty : TypeId) (i : TypeInfo) (ht : P.underlying t = some (.slice 59)) (hi : P.info? 59 = some i) (hz : i.zero = some (.agg #[.string ByteArray.empty, .string ByteArray.empty])) (hs : i.size = 2) (hb : i.bytes = 32)
    {v : Value} {xs : List Hd} (hown : OwnsH w base v xs) {A : Option Addr} {m c : Nat} {l : List Hd} (h : Hds w A m c l) (hlim : xs.length + m ≤ 1000000) (hbase : base ≤ w.heap.size) :
    ∃ v' w', (Builtin.append_ #[t, t] ty #[v, .slice A m c]).run P w = .ok v' w' ∧ OwnsH w' base v' (xs ++ l) ∧ w.grownBy w' v.ownBlock ∧ (v'.ownBlock = v.ownBlock ∨ v'.ownBlock = some w.heap.size) := by
  have hl := h.len
  subst hl
  cases A with
  | none =>
    have hc := h.bare rfl
    subst hc
    have h0 : l.length = 0 := by have := h.cap; omega
    have hl : l = [] := List.eq_nil_of_length_eq_zero h0
    subst hl
    exact ⟨v, w, run_append_owned_none (P := P) w base t ty _ i 2 ht hi v _ _ hown, by simpa using hown, World.grownBy.refl w _, .inl rfl⟩
  | some ad =>
    have hcs : ∀ j u, (hcells l)[j]? = some u → w.cell? (ad.add j) = some u := by
      intro j u hu
      have hj : j < l.length * 2 := by
        have := (List.getElem?_eq_some_iff.1 hu).1
        rwa [hcells_len] at this
      obtain ⟨b, off, e1, _, hc⟩ := h.cell (by omega)
      injection e1 with e1
      subst e1
      rw [addr_add, hc j hj, hu]
    have h63 : xs.length + l.length ≤ maxLen := by simp only [maxLen]; omega
    obtain ⟨v', w', hrun, h2, h3, _, h5⟩ := run_append_own_at (P := P) w base t ty _ i _ 2 32 ht hi hz hs hb rfl (by omega) v _ _ hown ad l.length c (hcells l) (hcells_len l) hcs (hcells_one l) h63 (by omega) hbase
    refine ⟨v', w', hrun, ?_, h3, h5⟩
    unfold OwnsH
    rw [List.length_append, hcells_append]
    exact h2
theorem wpList_append_hds_at {ops : Array Oper} {rest : List Oper} {o : Oper} {a : Act} {Q : Exit → Act → World → Prop} (hgd : o.guard = Option.none) (s x : Operand) (t : TypeId)
    (ho : o.op = .call { callee := .builtin .append, args := #[s, x], argTypes := #[t, t] })
    (base : Nat) (i : TypeInfo) (ht : P.underlying t = some (.slice 59)) (hi : P.info? 59 = some i) (hz : i.zero = some (.agg #[.string ByteArray.empty, .string ByteArray.empty])) (hz1 : i.size = 2) (hz2 : i.bytes = 32)
    (v : Value) (xs : List Hd) (hs : a.eval s = v) (hown : OwnsH w base v xs) (A : Option Addr) (m c : Nat) (l : List Hd) (hx : a.eval x = .slice A m c) (h : Hds w A m c l)
    (hlim : xs.length + m ≤ 1000000) (hbase : base ≤ w.heap.size)
    (hK : ∀ v' w', OwnsH w' base v' (xs ++ l) → w.grownBy w' v.ownBlock → (v'.ownBlock = v.ownBlock ∨ v'.ownBlock = some w.heap.size) → wpList P ops Q rest (a.put o.dst v') w') : wpList P ops Q (o :: rest) a w :=
  wpList_plain hgd fun _ hK' => by
    obtain ⟨v', w', hrun, h2, h3, h4⟩ := run_append_hds_at (P := P) base t o.type i ht hi hz hz1 hz2 hown h hlim hbase
    unfold Oper.wp execOp
    simp only [ho, resolve, invoke, builtin, Sem.run_bind, Sem.run_pure, Result.andThen_ok, List.map_toArray, List.map_cons, List.map_nil, hs, hx, hrun]
    exact hK' _ _ (hK v' w' h2 h3 h4)
end
theorem hds_one (W : World) (g : Nat) (x y : ByteArray) (hg : g = W.heap.size) : Hds (W.alloc (.cells #[.string x, .string y] 59)) (some ⟨g, 0, Option.none⟩) 1 1 [(x, y)] := by
  subst hg
  exact hds_new W _ [(x, y)] rfl (by simp [maxLen])
end Go.Proofs.Ytodncamohimmmaa
