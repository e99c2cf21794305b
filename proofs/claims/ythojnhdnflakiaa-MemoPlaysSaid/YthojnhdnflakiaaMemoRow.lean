/-
  What slices.Delete and DeleteFunc do to a slice of entries of the call's own. Conditions: those that each theorem states.
-/
import Derived.Test.YthojnhdnflakiaaMemoPM
import Derived.Test.YthojnhdnflakiaaMemoRefPut
namespace Go.Proofs.Ythojnhdnflakiaa
open Go.RowKit Go.Lib Go.Shelf

/-- Six cells in a row are stored. -/
def set6 (w : World) (g k : Nat) (y : Ent) : World :=
  (((((w.setCell ⟨g, k, Option.none⟩ (.string y.fr)).setCell ⟨g, k + 1, Option.none⟩ (.string y.at_)).setCell ⟨g, k + 2, Option.none⟩ (.bool y.cred)).setCell ⟨g, k + 3, Option.none⟩ (.string y.me)).setCell ⟨g, k + 4, Option.none⟩ (.string y.he)).setCell ⟨g, k + 5, Option.none⟩ (.int .i64 y.til)

theorem grown_then {w a b : World} {r : Option Nat} (h : w.grownBy a r) (k : a.grownBy b r) : w.grownBy b r :=
  ⟨k.os.trans h.os, k.tape.trans h.tape, k.output.trans h.output, Nat.le_trans h.size k.size, fun j hj hne => (k.block j (Nat.lt_of_lt_of_le hj h.size) hne).trans (h.block j hj hne)⟩
theorem below_grows {w w' : World} (h : Below w.heap.size w w') (r : Option Nat) : w.grownBy w' r := ⟨h.os, h.tape, h.output, h.size, fun k hk _ => h.block k hk⟩

theorem ecells_set {l : List Ent} {k : Nat} (hk : k < l.length) (y : Ent) :
    ((((((ecells l).set (k * 6) (.string y.fr)).set (k * 6 + 1) (.string y.at_)).set (k * 6 + 2) (.bool y.cred)).set (k * 6 + 3) (.string y.me)).set (k * 6 + 4) (.string y.he)).set (k * 6 + 5) (.int .i64 y.til) = ecells (l.set k y) := by
  have e : l.set k y = l.take k ++ y :: l.drop (k + 1) := List.set_eq_take_append_cons_drop .. |>.trans (by rw [if_pos hk])
  have e0 : l = l.take k ++ l[k] :: l.drop (k + 1) := by rw [List.getElem_cons_drop, List.take_append_drop]
  have hlen : (ecells (l.take k)).length = k * 6 := by rw [ecells_len, List.length_take, Nat.min_eq_left (Nat.le_of_lt hk)]
  rw [e]
  conv => lhs; rw [e0]
  rw [ecells_append, ecells_append]
  have key : ∀ (P R : List Value) (i : Nat) (u : Value), P.length = k * 6 → (P ++ R).set (k * 6 + i) u = P ++ R.set i u := fun P R i u h => by
    rw [List.set_append_right _ _ (by omega)]
    congr 2
    omega
  have k0 : ∀ (P R : List Value) (u : Value), P.length = k * 6 → (P ++ R).set (k * 6) u = P ++ R.set 0 u := fun P R u h => key P R 0 u h
  rw [k0 _ _ _ hlen, key _ _ 1 _ hlen, key _ _ 2 _ hlen, key _ _ 3 _ hlen, key _ _ 4 _ hlen, key _ _ 5 _ hlen]
  rfl

theorem OwnsE.set6 {w : World} {B g n cap : Nat} {l : List Ent} (hl : l.length = n) (h : OwnsE w B (.slice (some ⟨g, 0, Option.none⟩) n cap) l) {k : Nat} (hk : k < n) (y : Ent) :
    OwnsE (set6 w g (k * 6) y) B (.slice (some ⟨g, 0, Option.none⟩) n cap) (l.set k y) ∧ w.grownBy (Proofs.Ythojnhdnflakiaa.set6 w g (k * 6) y) (some g) := by
  subst hl
  have h0 : w.ownsRow B 32 6 (.slice (some ⟨g, 0, Option.none⟩) l.length cap) l.length (ecells l) := h
  have s1 := h0.stored (k * 6) (.string y.fr)
  have s2 := s1.1.stored (k * 6 + 1) (.string y.at_)
  have s3 := s2.1.stored (k * 6 + 2) (.bool y.cred)
  have s4 := s3.1.stored (k * 6 + 3) (.string y.me)
  have s5 := s4.1.stored (k * 6 + 4) (.string y.he)
  have s6 := s5.1.stored (k * 6 + 5) (.int .i64 y.til)
  refine ⟨?_, grown_then s1.2 (grown_then s2.2 (grown_then s3.2 (grown_then s4.2 (grown_then s5.2 s6.2))))⟩
  unfold OwnsE
  rw [List.length_set, ← ecells_set hk y]
  exact s6.1

/-- The zero entry. -/
def zent : Ent := ⟨ByteArray.empty, ByteArray.empty, false, ByteArray.empty, ByteArray.empty, 0⟩
set_option maxRecDepth 100000 in
theorem zero15 (w : World) : (zeroValue 32).run Try.prog w = .ok (evalue zent) w := by kernel_rfl

theorem zeros_one (n : Nat) : ∀ u ∈ (Builtin.zeroCells (evalue zent).cells n).toList, u.oneCell' = true := by
  intro u hu
  rw [Array.mem_toList_iff] at hu
  unfold Builtin.zeroCells at hu
  obtain ⟨i, _, rfl⟩ := Array.mem_map.1 hu
  have e : (evalue zent).cells = #[.string ByteArray.empty, .string ByteArray.empty, .bool false, .string ByteArray.empty, .string ByteArray.empty, .int .i64 0] := rfl
  rw [e]
  generalize hk : i % (#[Value.string ByteArray.empty, .string ByteArray.empty, .bool false, .string ByteArray.empty, .string ByteArray.empty, .int .i64 0] : Array Value).size = k
  have hk6 : k < 6 := by rw [← hk]; exact Nat.mod_lt _ (by simp)
  have hc : k = 0 ∨ k = 1 ∨ k = 2 ∨ k = 3 ∨ k = 4 ∨ k = 5 := by omega
  rcases hc with rfl | rfl | rfl | rfl | rfl | rfl <;> rfl

theorem run_clear_rows {P : Program} (w w' : World) (t e : TypeId) (z : Value) (ht : P.underlying t = some (.slice e)) (hv : ∀ w, (zeroValue e).run P w = .ok z w) (a : Addr) (n c : Nat) (hn : 0 < n)
    (hst : (storeCells a (Builtin.zeroCells z.cells n).toList).run P w = .ok () w') (ty : TypeId) : (Builtin.clear_ #[t] ty #[.slice (some a) n c]).run P w = .ok (.tuple #[]) w' := by
  obtain ⟨m, rfl⟩ : ∃ m, n = m + 1 := ⟨n - 1, by omega⟩
  simp [Builtin.clear_, run_underlying ht, hv, hst]
/-- The slice of the first entries. -/
theorem OwnsE.front {w : World} {B g n cap : Nat} {l : List Ent} (hl : l.length = n) (h : OwnsE w B (.slice (some ⟨g, 0, Option.none⟩) n cap) l) {i : Nat} (hi : i ≤ n) : OwnsE w B (.slice (some ⟨g, 0, Option.none⟩) i cap) (l.take i) := by
  subst hl
  have hi' : (l.take i).length = i := by rw [List.length_take, Nat.min_eq_left hi]
  rcases h.2 with ⟨h0, _⟩ | ⟨g', cap', cur, h0, hbg, hg, hnc, hcm, hcs, htake⟩
  · cases h0
  · simp only [Value.slice.injEq, Option.some.injEq, Addr.mk.injEq, and_true, true_and] at h0
    obtain ⟨rfl, rfl⟩ := h0
    unfold OwnsE
    rw [hi']
    refine ⟨by rw [ecells_len, hi'], .inr ⟨g, cap, cur, rfl, hbg, hg, by omega, hcm, hcs, ?_⟩⟩
    have e2 : ecells l = ecells (l.take i) ++ ecells (l.drop i) := by rw [← ecells_append, List.take_append_drop]
    rw [e2] at htake
    have := congrArg (List.take (i * 6)) htake
    rw [List.take_take, Nat.min_eq_left (by omega), List.take_append_of_le_length (by rw [ecells_len, hi']; omega), List.take_of_length_le (l := ecells (l.take i)) (by rw [ecells_len, hi']; omega)] at this
    exact this
/-- 'clear' of what lies behind the entries. -/
theorem run_clearB (t : TypeId) (ht : Try.prog.underlying t = some (.slice 32)) {w : World} {B g i cap : Nat} {l : List Ent} (hl : l.length = i) (h : OwnsE w B (.slice (some ⟨g, 0, Option.none⟩) i cap) l) {k c : Nat} (hk : 0 < k) (hkc : i + k ≤ cap) :
    ∃ w', (∀ ty, (Builtin.clear_ #[t] ty #[.slice (some ⟨g, i * 6, Option.none⟩) k c]).run Try.prog w = .ok (.tuple #[]) w') ∧ OwnsE w' B (.slice (some ⟨g, 0, Option.none⟩) i cap) l ∧ w.grownBy w' (some g) := by
  subst hl
  rcases h.2 with ⟨h0, _⟩ | ⟨g', cap', cur, h0, hbg, hg, hnc, hcm, hcs, htake⟩
  · cases h0
  · simp only [Value.slice.injEq, Option.some.injEq, Addr.mk.injEq, and_true, true_and] at h0
    obtain ⟨rfl, rfl⟩ := h0
    obtain ⟨news, hnews⟩ : ∃ news, news = (Builtin.zeroCells (evalue zent).cells k).toList := ⟨_, rfl⟩
    have hlen : news.length = k * 6 := by rw [hnews, Array.length_toList, size_zeroCells]; rfl
    have h1 : ∀ u ∈ news, u.oneCell' = true := by rw [hnews]; exact zeros_one _
    have hst := run_storeCells_at Try.prog g (l.length * 6) 32 news 0 cur w hg (by rw [hlen, hcs]; omega) h1
    simp only [Nat.add_zero] at hst
    obtain ⟨arr, harr⟩ : ∃ arr, arr = (cur.toList.take (l.length * 6) ++ news ++ cur.toList.drop (l.length * 6 + news.length)).toArray := ⟨_, rfl⟩
    rw [← harr] at hst
    refine ⟨w.setRow g arr, fun ty => ?_, ⟨ecells_len l, .inr ⟨g, cap, _, rfl, hbg, setRow_heap w g cur _ _ _ hg, hnc, hcm, ?_, ?_⟩⟩, ⟨rfl, rfl, rfl, by simp, fun k _ hk => setRow_other w g k _ (fun e => hk (by simp [e]))⟩⟩
    · exact run_clear_rows w _ t 32 (evalue zent) ht zero15 _ _ c hk (by rw [← hnews]; exact hst) ty
    · rw [harr]
      simp only [List.size_toArray, List.length_append, List.length_take, List.length_drop, Array.length_toList, hlen]
      omega
    · rw [harr, htake, List.append_assoc, List.take_append_of_le_length (by rw [ecells_len]; omega), List.take_of_length_le (by rw [ecells_len]; omega)]
/-- 'clear' of what lies behind the first i entries; and the slice of these. -/
theorem run_clearE (t : TypeId) (ht : Try.prog.underlying t = some (.slice 32)) {w : World} {B g n cap : Nat} {l : List Ent} (hl : l.length = n) (h : OwnsE w B (.slice (some ⟨g, 0, Option.none⟩) n cap) l) (hcap : n ≤ cap) {i c : Nat} (hi : i < n) :
    ∃ w', (∀ ty, (Builtin.clear_ #[t] ty #[.slice (some ⟨g, i * 6, Option.none⟩) (n - i) c]).run Try.prog w = .ok (.tuple #[]) w') ∧ OwnsE w' B (.slice (some ⟨g, 0, Option.none⟩) i cap) (l.take i) ∧ w.grownBy w' (some g) :=
  run_clearB t ht (by rw [List.length_take]; omega) (h.front hl (Nat.le_of_lt hi)) (by omega) (by omega)
end Go.Proofs.Ythojnhdnflakiaa
