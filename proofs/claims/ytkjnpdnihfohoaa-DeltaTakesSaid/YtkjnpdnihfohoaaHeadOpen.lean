/-
  Arguments that are headers or lists of them, or lists of strings, as the frame of a statement's proof hands them over: what lies in memory, and how long it is. Conditions: those that each theorem states.
-/
import Derived.Test.YtkjnpdnihfohoaaHeadCells
import Derived.Test.YtkjnpdnihfohoaaLaidOut
import Derived.Carry
import Derived.SliceStrings
import Derived.Deep.Slices
import Derived.Lib.SmallJoins
import Derived.SizedLaws
import Derived.ChangeMaps5
namespace Go.Proofs.Ytkjnpdnihfohoaa
open Go.RowKit Go.Lib Go.Deep Go.ChangeShapes Go.WideShapes Go.Joins
open Go.ChangeMaps (open_string)


section
variable {H : Type} {enc : TypeId × Value → H} {W : World}

/-- A header as a datum. -/
def dHd (h : Hd) : DataW H := .agg [.lit (.string h.1.data.toList), .lit (.string h.2.data.toList)]

set_option maxRecDepth 100000 in
theorem hd_cells {fuel : Nat} {cs : List Value} {x : DataW H × List MemPlace} (h : DataW.trod enc Try.prog W 0 (fun _ => true) true fuel 44 cs = some x) :
    ∃ q : Hd, cs = [.string q.1, .string q.2] ∧ x.1 = dHd q := by
  obtain ⟨y0, y1, n, rfl, hl, h0, h1⟩ := trod_struct2 Try.underlying44 h
  have hc : Try.prog.cellsOf 44 = 2 := by kernel_rfl
  have hc9 : Try.prog.cellsOf 9 = 1 := by kernel_rfl
  rw [hc] at hl
  match cs, hl with
  | [c0, c1], _ =>
    obtain ⟨s0, e0, rfl, _⟩ := DataW.trod_string Try.underlying9 h0
    obtain ⟨s1, e1, rfl, _⟩ := DataW.trod_string Try.underlying9 h1
    have e0' : [c0] = [Value.string s0] := e0
    have e1' : [c1] = [Value.string s1] := e1
    refine ⟨(s0, s1), ?_, rfl⟩
    simp only [List.cons.injEq, and_true] at e0' e1'
    rw [e0', e1']

set_option maxRecDepth 100000 in
theorem open_hds0 {A : Option Addr} {n c : Nat} {d : DataW H} {p : List MemPlace} (h : DataW.Trod enc Try.prog W 0 (fun _ => true) true 23 (.slice A n c) d p) :
    ∃ A' n' c' l, Value.slice A n c = .slice A' n' c' ∧ Hds W A' n' c' l ∧ ((d = .nil ∧ l = []) ∨ ∃ sp, d = .slice (l.map dHd) sp) := by
  obtain ⟨fuel, hf⟩ := h
  have hc : Try.prog.cellsOf 44 = 2 := by kernel_rfl
  rcases open_slice Try.underlying23 hf with ⟨e, hx⟩ | ⟨a, len, cap, m, k, D, Pl, e, _, hl, hm, hmm, hx, hi⟩
  · simp [Value.cells] at e
    obtain ⟨rfl, rfl, rfl⟩ := e
    injection hx with hx _
    exact ⟨_, _, _, [], rfl, hds_empty W _ _ (Nat.zero_le _) (fun _ => rfl), .inl ⟨hx, rfl⟩⟩
  · simp [Value.cells] at e
    obtain ⟨rfl, rfl, rfl⟩ := e
    simp only [if_true] at hmm
    subst hmm
    have key : ∀ i, ∃ q : Hd, i < m → W.cell? (a.add (i * 2)) = some (.string q.1) ∧ W.cell? (a.add (i * 2 + 1)) = some (.string q.2) ∧ D i = dHd q := fun i => by
      by_cases him : i < m
      · obtain ⟨cs, hcs, ht⟩ := hi i him
        rw [hc] at hcs
        obtain ⟨q, rfl, hd⟩ := hd_cells ht
        obtain ⟨_, _, hat⟩ := World.cells?_some hcs
        refine ⟨q, fun _ => ⟨?_, ?_, hd⟩⟩
        · have := hat 0 (by omega)
          simpa [add_add] using this
        · have := hat 1 (by omega)
          simpa [add_add] using this
      · exact ⟨(ByteArray.empty, ByteArray.empty), fun h => absurd h him⟩
    obtain ⟨X, hX⟩ := Classical.axiomOfChoice key
    injection hx with hx _
    refine ⟨_, n, _, (List.range n).map X, rfl, ⟨by simp, hl, hm, (fun e => by cases e), fun hp => ?_⟩, .inr ⟨_, hx.trans (congrArg (fun l => DataW.slice l _) ?_)⟩⟩
    · obtain ⟨b, off, spot⟩ := a
      have h0 := (hX 0 (by omega)).1
      have hs : spot = Option.none := by simpa [Addr.add] using World.cell?_spot h0
      subst hs
      refine ⟨b, off, rfl, World.block_lt_of_cell? W _ h0, fun j hj => ?_⟩
      have hj2 : j / 2 < ((List.range n).map X).length := by simp; omega
      have hat := hcells_at hj2
      have hXj := hX (j / 2) (by omega)
      simp only [addr_add, List.getElem_map, List.getElem_range] at hat hXj
      rcases (show j = j / 2 * 2 ∨ j = j / 2 * 2 + 1 by omega) with e | e
      · rw [← e] at hat hXj
        rw [hat.1]
        exact hXj.1
      · rw [← e] at hat hXj
        rw [hat.2]
        exact hXj.2.1
    · rw [List.map_map]
      apply List.map_congr_left
      intro i hi
      rw [List.mem_range] at hi
      exact (hX i (by omega)).2.2

set_option maxRecDepth 100000 in
/-- A slice of headers. -/
theorem open_hds {base : Nat} {v : Value} {d : DataW H} {p : List MemPlace} (hval : Value.okWide Try.prog W .any base 23 v) (h : DataW.Trod enc Try.prog W 0 (fun _ => true) true 23 v d p) :
    ∃ A n c l, v = .slice A n c ∧ Hds W A n c l ∧ ((d = .nil ∧ l = []) ∨ ∃ sp, d = .slice (l.map dHd) sp) := by
  obtain ⟨A, n, c, rfl⟩ := okWide_slice Try.underlying23 hval
  exact open_hds0 h

set_option maxRecDepth 100000 in
/-- A header by value. -/
theorem open_hd {base : Nat} {v : Value} {d : DataW H} {p : List MemPlace} (hval : Value.okWide Try.prog W .any base 44 v) (h : DataW.Trod enc Try.prog W 0 (fun _ => true) true 44 v d p) :
    ∃ x y : ByteArray, v = .agg #[.string x, .string y] ∧ d = dHd (x, y) := by
  obtain ⟨cs, rfl, _⟩ := okWide_struct Try.underlying44 hval
  obtain ⟨fuel, hf⟩ := h
  obtain ⟨q, hq, hd⟩ := hd_cells hf
  refine ⟨q.1, q.2, ?_, hd⟩
  have : cs = #[.string q.1, .string q.2] := by
    apply Array.toList_inj.1
    simpa [Value.cells] using hq
  rw [this]

set_option maxRecDepth 100000 in
/-- A slice of strings. -/
theorem open_strs {base : Nat} {v : Value} {d : DataW H} {p : List MemPlace} (hval : Value.okWide Try.prog W .any base 31 v) (h : DataW.Trod enc Try.prog W 0 (fun _ => true) true 31 v d p) :
    ∃ A n c l, v = .slice A n c ∧ Strs W A n c l ∧ ((d = .nil ∧ l = []) ∨ ∃ sp, d = .slice (strs l) sp) := by
  obtain ⟨A, n, c, rfl⟩ := okWide_slice Try.underlying31 hval
  obtain ⟨fuel, hf⟩ := h
  rcases open_strings Try.underlying31 Try.underlying9 (by kernel_rfl) hf with ⟨e, hx⟩ | ⟨a, len, cap, ss, e, _, hl, hm, hss, hx, hc, _⟩
  · simp [Value.cells] at e
    obtain ⟨rfl, rfl, rfl⟩ := e
    injection hx with hx _
    exact ⟨_, _, _, [], rfl, strs_empty W _ _ (Nat.zero_le _) (fun _ => rfl), .inl ⟨hx, rfl⟩⟩
  · simp [Value.cells] at e
    obtain ⟨rfl, rfl, rfl⟩ := e
    simp only [if_true] at hss
    injection hx with hx _
    refine ⟨_, n, _, ss.take n, rfl, ⟨by rw [List.length_take]; omega, hl, hm, (fun e => by cases e), fun hp => ?_⟩, .inr ⟨_, hx⟩⟩
    obtain ⟨b, off, spot⟩ := a
    have h0 := hc 0 (by omega)
    have hs : spot = Option.none := by simpa [Addr.add] using World.cell?_spot h0
    subst hs
    refine ⟨b, off, rfl, World.block_lt_of_cell? W _ h0, fun j hj => ?_⟩
    rw [List.length_take] at hj
    have := hc j (by omega)
    rw [addr_add] at this
    rw [this, List.getElem_take, List.getD_eq_getElem?_getD, List.getElem?_eq_getElem (by omega)]
    rfl

theorem weights_all {P : Program} {e : TypeId} {ds : List (DataW H)} {d : DataW H} {k : Nat} (hd : d ∈ ds) (hk : k ∈ d.weights P e) : k ∈ DataW.weightsAll P e ds := by
  induction ds with
  | nil => cases hd
  | cons x r ih =>
    rw [DataW.weightsAll, List.mem_append]
    rcases List.mem_cons.1 hd with rfl | hd
    · exact .inl hk
    · exact .inr (ih hd)
theorem weights_hd (q : Hd) : DataW.weights Try.prog 44 (dHd q : DataW H) = [q.1.data.toList.length, q.2.data.toList.length] := by
  unfold dHd
  rw [DataW.weights, Try.underlying44]
  simp [DataW.weightsEach, DataW.weights]
set_option maxRecDepth 100000 in
theorem hd_fits {q : Hd} {B : Nat} (h : ∀ k ∈ DataW.weights Try.prog 44 (dHd q : DataW H), k ≤ B) : q.1.size ≤ B ∧ q.2.size ≤ B := by
  rw [weights_hd] at h
  constructor
  · rw [size_len]; exact h _ (by simp)
  · rw [size_len]; exact h _ (by simp)
set_option maxRecDepth 100000 in
theorem hd_fit {ts : List TypeId} {ds : List (DataW H)} {j : Nat} {d : DataW H} {q : Hd} (h : (DataW.weightsEach Try.prog ts ds).all (· ≤ reachBytes) = true) (ht : ts[j]? = some 44) (hd : ds[j]? = some d) (hf : d = dHd q) : q.1.size ≤ 140737488351232 ∧ q.2.size ≤ 140737488351232 := by
  subst hf
  apply hd_fits (H := H)
  intro k hk
  have := List.all_eq_true.1 h _ (DataW.weights_mem_each ht hd k hk)
  simp only [reachBytes] at this
  exact of_decide_eq_true this
set_option maxRecDepth 100000 in
theorem hds_fit {ts : List TypeId} {ds : List (DataW H)} {j : Nat} {d : DataW H} {l : List Hd} (h : (DataW.weightsEach Try.prog ts ds).all (· ≤ reachBytes) = true) (ht : ts[j]? = some 23) (hd : ds[j]? = some d)
    (hf : (d = .nil ∧ l = []) ∨ ∃ sp, d = .slice (l.map dHd) sp) : Fits l := by
  rcases hf with ⟨_, rfl⟩ | ⟨sp, rfl⟩
  · intro x hx
    cases hx
  · intro x hx
    apply hd_fits (H := H)
    intro k hk
    have hmem := DataW.weights_mem_each ht hd k (by
      rw [DataW.weights, Try.underlying23]
      simp only [List.mem_cons, List.mem_append]
      exact .inr (.inl (weights_all (List.mem_map.2 ⟨x, hx, rfl⟩) hk)))
    have := List.all_eq_true.1 h _ hmem
    simp only [reachBytes] at this
    exact of_decide_eq_true this
end
end Go.Proofs.Ytkjnpdnihfohoaa
