/-
  Arguments that are entries or lists of deeds, as the frame of a statement's proof hands them over: what lies in memory. Conditions: those that each theorem states.
-/
import Derived.Test.YthojnhdnflakiaaMemoMem
import Derived.Test.YthojnhdnflakiaaLaidOut
import Derived.Carry
import Derived.SliceStrings
import Derived.Deep.Slices
import Derived.Lib.SmallJoins
import Derived.SizedLaws
import Derived.ChangeMaps5
namespace Go.Proofs.Ythojnhdnflakiaa
open Go.RowKit Go.Lib Go.Deep Go.ChangeShapes Go.WideShapes Go.Joins
open Go.ChangeMaps (open_string)

/-- A number of 64 bits with a sign. -/
def Six4 (n : Int) : Prop := -9223372036854775808 ≤ n ∧ n ≤ 9223372036854775807
/-- Something that is done to a memo. -/
structure Deed where
  kind : Nat
  what : Ent
  now : Int
/-- The eight cells of a deed. -/
def dcell (d : Deed) : List Value := .int .u8 (d.kind : Int) :: ecell d.what ++ [.int .i64 d.now]
def dcells (l : List Deed) : List Value := l.flatMap dcell
theorem dcell_len (d : Deed) : (dcell d).length = 8 := rfl
theorem dcells_at {l : List Deed} {j i : Nat} (hj : j < l.length) (hi : i < 8) : (dcells l)[j * 8 + i]? = (dcell l[j])[i]? := by
  induction l generalizing j with
  | nil => simp at hj
  | cons h r ih =>
    have e : dcells (h :: r) = dcell h ++ dcells r := rfl
    rw [e]
    cases j with
    | zero => rw [Nat.zero_mul, Nat.zero_add, List.getElem?_append_left (by rw [dcell_len]; omega)]; rfl
    | succ j =>
      have := ih (j := j) (by simpa using hj)
      rw [List.getElem?_append_right (by rw [dcell_len]; omega)]
      have e2 : (j + 1) * 8 + i - (dcell h).length = j * 8 + i := by rw [dcell_len]; omega
      rw [e2, this]
      rfl

section
variable {H : Type} {enc : TypeId × Value → H} {W : World}
/-- An entry, a deed as a datum. -/
def dEnt (q : Ent) : DataW H := .agg [.lit (.string q.fr.data.toList), .lit (.string q.at_.data.toList), .lit (.bool q.cred), .lit (.string q.me.data.toList), .lit (.string q.he.data.toList), .lit (.int .i64 q.til)]
def dDeed (d : Deed) : DataW H := .agg [.lit (.int .u8 (d.kind : Int)), dEnt d.what, .lit (.int .i64 d.now)]

set_option maxRecDepth 100000 in
theorem ask_cells {fuel : Nat} {cs : List Value} {x : DataW H × List MemPlace} (h : DataW.trod enc Try.prog W 0 (fun _ => true) true fuel 32 cs = some x) :
    ∃ q : Ent, cs = ecell q ∧ x.1 = dEnt q ∧ Six4 q.til := by
  obtain ⟨xs, n, _, rfl, hl, hlen, hg⟩ := DataW.trod_struct Try.underlying32 h
  have hc : Try.prog.cellsOf 32 = 6 := by kernel_rfl
  have hc9 : Try.prog.cellsOf 9 = 1 := by kernel_rfl
  have hc4 : Try.prog.cellsOf 4 = 1 := by kernel_rfl
  have hc3 : Try.prog.cellsOf 3 = 1 := by kernel_rfl
  rw [hc] at hl
  match cs, hl with
  | [c0, c1, c2, c3, c4, c5], _ =>
    match xs, hlen with
    | [y0, y1, y2, y3, y4, y5], _ =>
      have h0 := hg 0 _ rfl
      have h1 := hg 1 _ rfl
      have h2 := hg 2 _ rfl
      have h3 := hg 3 _ rfl
      have h4 := hg 4 _ rfl
      have h5 := hg 5 _ rfl
      simp [hc9, hc4, hc3] at h0 h1 h2 h3 h4 h5
      obtain ⟨s0, e0, rfl, _⟩ := DataW.trod_string Try.underlying9 h0
      obtain ⟨s1, e1, rfl, _⟩ := DataW.trod_string Try.underlying9 h1
      obtain ⟨b2, e2, rfl⟩ := DataW.trod_bool Try.underlying4 h2
      obtain ⟨s3, e3, rfl, _⟩ := DataW.trod_string Try.underlying9 h3
      obtain ⟨s4, e4, rfl, _⟩ := DataW.trod_string Try.underlying9 h4
      obtain ⟨k5, e5, rfl, hw⟩ := DataW.trod_int Try.underlying3 h5
      simp only [List.cons.injEq, and_true] at e0 e1 e2 e3 e4 e5
      have hb := bounds_i64 hw
      refine ⟨⟨s0, s1, b2, s3, s4, k5⟩, ?_, rfl, ⟨by simp only; omega, by simp only; omega⟩⟩
      rw [e0, e1, e2, e3, e4, e5]
      rfl

set_option maxRecDepth 100000 in
theorem deed_cells {fuel : Nat} {cs : List Value} {x : DataW H × List MemPlace} (h : DataW.trod enc Try.prog W 0 (fun _ => true) true fuel 34 cs = some x) :
    ∃ q : Deed, cs = dcell q ∧ x.1 = dDeed q ∧ q.kind < 256 ∧ Six4 q.what.til ∧ Six4 q.now := by
  obtain ⟨xs, n, _, rfl, hl, hlen, hg⟩ := DataW.trod_struct Try.underlying34 h
  have hc : Try.prog.cellsOf 34 = 8 := by kernel_rfl
  have hc8 : Try.prog.cellsOf 5 = 1 := by kernel_rfl
  have hc32 : Try.prog.cellsOf 32 = 6 := by kernel_rfl
  have hc3 : Try.prog.cellsOf 3 = 1 := by kernel_rfl
  rw [hc] at hl
  match cs, hl with
  | [c0, c1, c2, c3, c4, c5, c6, c7], _ =>
    match xs, hlen with
    | [y0, y1, y2], _ =>
      have h0 := hg 0 _ rfl
      have h1 := hg 1 _ rfl
      have h2 := hg 2 _ rfl
      simp [hc8, hc32, hc3] at h0 h1 h2
      obtain ⟨k0, e0, rfl, hw0⟩ := DataW.trod_int Try.underlying5 h0
      obtain ⟨q, e1, e1', hq⟩ := ask_cells h1
      obtain ⟨k2, e2, rfl, hw2⟩ := DataW.trod_int Try.underlying3 h2
      simp only [List.cons.injEq, and_true] at e0 e2
      have hb0 := bounds_u8 hw0
      have hb2 := bounds_i64 hw2
      have hk : ((k0.toNat : Nat) : Int) = k0 := by omega
      refine ⟨⟨k0.toNat, q, k2⟩, ?_, ?_, by simp only; omega, hq, ⟨by simp only; omega, by simp only; omega⟩⟩
      · show [c0, c1, c2, c3, c4, c5, c6, c7] = .int .u8 ((k0.toNat : Nat) : Int) :: ecell q ++ [.int .i64 k2]
        rw [hk, ← e1, e0, e2]
        rfl
      · show DataW.agg [.lit (.int .u8 k0), y1.1, .lit (.int .i64 k2)] = dDeed ⟨k0.toNat, q, k2⟩
        unfold dDeed
        rw [hk, e1']

set_option maxRecDepth 100000 in
/-- An entry by value. -/
theorem open_ask {base : Nat} {v : Value} {d : DataW H} {p : List MemPlace} (hval : Value.okWide Try.prog W .any base 32 v) (h : DataW.Trod enc Try.prog W 0 (fun _ => true) true 32 v d p) :
    ∃ q : Ent, v = evalue q ∧ d = dEnt q ∧ Six4 q.til := by
  obtain ⟨cs, rfl, _⟩ := okWide_struct Try.underlying32 hval
  obtain ⟨fuel, hf⟩ := h
  obtain ⟨q, hq, hd, hs⟩ := ask_cells hf
  refine ⟨q, ?_, hd, hs⟩
  have : cs = (ecell q).toArray := by
    apply Array.toList_inj.1
    simpa [Value.cells] using hq
  rw [this]
  rfl

/-- The slice value with address A, length n and capacity c reads as the deeds l. -/
structure Dds (w : World) (A : Option Addr) (n c : Nat) (l : List Deed) : Prop where
  len : l.length = n
  cap : n ≤ c
  room : c ≤ maxLen
  bare : A = Option.none → c = 0
  cell : 0 < n → ∃ b off, A = some ⟨b, off, Option.none⟩ ∧ b < w.heap.size ∧ ∀ j (hj : j < l.length) i, i < 8 → w.cell? ⟨b, off + j * 8 + i, Option.none⟩ = (dcell l[j])[i]?
theorem Dds.later {w w' : World} {A : Option Addr} {n c : Nat} {l : List Deed} (h : Dds w A n c l) (hb : Below w.heap.size w w') : Dds w' A n c l :=
  ⟨h.len, h.cap, h.room, h.bare, fun hn => by
    obtain ⟨b, off, e, hlt, hc⟩ := h.cell hn
    refine ⟨b, off, e, Nat.lt_of_lt_of_le hlt hb.size, fun j hj i hi => ?_⟩
    rw [← hc j hj i hi]
    exact hb.cell (p := ⟨b, off + j * 8 + i, Option.none⟩) hlt⟩

set_option maxRecDepth 100000 in
/-- A slice of deeds. -/
theorem open_deeds {base : Nat} {v : Value} {d : DataW H} {p : List MemPlace} (hval : Value.okWide Try.prog W .any base 22 v) (h : DataW.Trod enc Try.prog W 0 (fun _ => true) true 22 v d p) :
    ∃ A n c l, v = .slice A n c ∧ Dds W A n c l ∧ (∀ q ∈ l, q.kind < 256 ∧ Six4 q.what.til ∧ Six4 q.now) ∧ ((d = .nil ∧ l = []) ∨ ∃ sp, d = .slice (l.map dDeed) sp) := by
  obtain ⟨A, n, c, rfl⟩ := okWide_slice Try.underlying22 hval
  obtain ⟨fuel, hf⟩ := h
  have hc : Try.prog.cellsOf 34 = 8 := by kernel_rfl
  rcases open_slice Try.underlying22 hf with ⟨e, hx⟩ | ⟨a, len, cap, m, k, D, Pl, e, _, hl, hm, hmm, hx, hi⟩
  · simp [Value.cells] at e
    obtain ⟨rfl, rfl, rfl⟩ := e
    injection hx with hx _
    exact ⟨_, _, _, [], rfl, ⟨rfl, Nat.zero_le _, Nat.zero_le _, fun _ => rfl, fun h => absurd h (by omega)⟩, fun q hq => (by cases hq), .inl ⟨hx, rfl⟩⟩
  · simp [Value.cells] at e
    obtain ⟨rfl, rfl, rfl⟩ := e
    simp only [if_true] at hmm
    subst hmm
    have key : ∀ i, ∃ q : Deed, i < m → (∀ j, j < 8 → W.cell? (a.add (i * 8 + j)) = (dcell q)[j]?) ∧ D i = dDeed q ∧ q.kind < 256 ∧ Six4 q.what.til ∧ Six4 q.now := fun i => by
      by_cases him : i < m
      · obtain ⟨cs, hcs, ht⟩ := hi i him
        rw [hc] at hcs
        obtain ⟨q, rfl, hd, hq⟩ := deed_cells ht
        obtain ⟨_, _, hat⟩ := World.cells?_some hcs
        refine ⟨q, fun _ => ⟨fun j hj => ?_, hd, hq⟩⟩
        have := hat j (by omega)
        simpa [add_add] using this
      · exact ⟨⟨0, ⟨ByteArray.empty, ByteArray.empty, false, ByteArray.empty, ByteArray.empty, 0⟩, 0⟩, fun h => absurd h him⟩
    obtain ⟨X, hX⟩ := Classical.axiomOfChoice key
    injection hx with hx _
    refine ⟨_, n, _, (List.range n).map X, rfl, ⟨by simp, hl, hm, (fun e => by cases e), fun hp => ?_⟩, fun q hq => ?_, .inr ⟨_, hx.trans (congrArg (fun l => DataW.slice l _) ?_)⟩⟩
    · obtain ⟨b, off, spot⟩ := a
      have h0 : W.cell? (Addr.add ⟨b, off, spot⟩ (0 * 8 + 0)) = some _ := (hX 0 (by omega)).1 0 (by omega)
      have hs : spot = Option.none := by simpa [Addr.add] using World.cell?_spot h0
      subst hs
      refine ⟨b, off, rfl, World.block_lt_of_cell? W _ h0, fun j hj i hi => ?_⟩
      have hj' : j < n := by simpa using hj
      have hXj := (hX j (by omega)).1 i hi
      simp only [addr_add, List.getElem_map, List.getElem_range] at hXj ⊢
      rw [Nat.add_assoc]
      exact hXj
    · obtain ⟨i, hi, rfl⟩ := List.mem_map.1 hq
      rw [List.mem_range] at hi
      exact (hX i (by omega)).2.2
    · rw [List.map_map]
      apply List.map_congr_left
      intro i hi
      rw [List.mem_range] at hi
      exact (hX i (by omega)).2.1
end
end Go.Proofs.Ythojnhdnflakiaa
