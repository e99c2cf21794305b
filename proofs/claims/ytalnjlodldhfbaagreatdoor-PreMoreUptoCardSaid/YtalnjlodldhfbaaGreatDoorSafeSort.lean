/-
  Plain facts on sorted lists of texts: the names of the headers that may not go anywhere, each once. No program is spoken of; no condition beyond those that each theorem states.
-/
import Derived.Test.YtalnjlodldhfbaaGreatDoorSafeHead
import Derived.Lib.SlicesCompact
import Derived.Lib.RowBridge
namespace Go.Proofs.YtalnjlodldhfbaaGreatDoor
open Go.RowKit Go.Lib Go.Shelf

/-- Sorted, each element once. -/
def Strict (l : List (List UInt8)) : Prop := l.Pairwise (· < ·)

theorem strict_eq : ∀ {a b : List (List UInt8)}, Strict a → Strict b → (∀ x, x ∈ a ↔ x ∈ b) → a = b
  | [], [], _, _, _ => rfl
  | [], y :: b, _, _, h => absurd ((h y).2 (by simp)) (by simp)
  | x :: a, [], _, _, h => absurd ((h x).1 (by simp)) (by simp)
  | x :: a, y :: b, ha, hb, h => by
    obtain ⟨ha1, ha2⟩ := List.pairwise_cons.1 ha
    obtain ⟨hb1, hb2⟩ := List.pairwise_cons.1 hb
    have e : x = y := by
      rcases List.mem_cons.1 ((h x).1 (by simp)) with e | hx
      · exact e
      · rcases List.mem_cons.1 ((h y).2 (by simp)) with e | hy
        · exact e.symm
        · exact absurd (hb1 x hx) (List.lt_asymm (ha1 y hy))
    subst e
    refine congrArg (x :: ·) (strict_eq ha2 hb2 fun z => ⟨fun hz => ?_, fun hz => ?_⟩)
    · rcases List.mem_cons.1 ((h z).1 (by simp [hz])) with e | h'
      · exact absurd (ha1 z hz) (by rw [e]; exact List.lt_irrefl x)
      · exact h'
    · rcases List.mem_cons.1 ((h z).2 (by simp [hz])) with e | h'
      · exact absurd (hb1 z hz) (by rw [e]; exact List.lt_irrefl x)
      · exact h'

theorem lt_of_le_ne {a b : List UInt8} (h : a ≤ b) (hne : b ≠ a) : a < b := by
  rcases Classical.em (a < b) with c | c
  · exact c
  · exact absurd (List.le_antisymm (List.not_lt.1 c) h) hne
theorem lt_of_le_lt {a b c : List UInt8} (h : a ≤ b) (h' : b < c) : a < c := by
  refine lt_of_le_ne (List.le_trans h (List.not_lt.1 (List.lt_asymm h'))) fun e => ?_
  subst e
  exact List.not_lt.2 h h'

/-- Where the places of d are sorted, those of the first m that are kept are sorted, each once, and are the same. -/
theorem compact_up (d : Array (List UInt8)) (hs : ∀ i j, i < j → j < d.size → d[i]! ≤ d[j]!) : ∀ m, m ≤ d.size →
    Strict (compactUpTo d m) ∧ (∀ x, x ∈ compactUpTo d m ↔ ∃ j, j < m ∧ d[j]! = x) := by
  intro m
  induction m with
  | zero =>
    intro _
    refine ⟨List.Pairwise.nil, fun x => ⟨fun h => by simp [compactUpTo] at h, ?_⟩⟩
    rintro ⟨j, hj, _⟩
    omega
  | succ m ih =>
    intro hm
    obtain ⟨h1, h2⟩ := ih (by omega)
    rw [compactUpTo_succ]
    by_cases hk : keeps d m = true
    · rw [if_pos hk]
      have hlt : ∀ x ∈ compactUpTo d m, x < d[m]! := by
        intro x hx
        obtain ⟨j, hj, rfl⟩ := (h2 x).1 hx
        have hne : d[m]! ≠ d[m - 1]! := by
          have h0 : ¬ m = 0 := by omega
          simpa [keeps, h0] using hk
        have hl : d[m - 1]! < d[m]! := lt_of_le_ne (hs (m - 1) m (by omega) (by omega)) hne
        by_cases e : j = m - 1
        · rw [e]; exact hl
        · exact lt_of_le_lt (hs j (m - 1) (by omega) (by omega)) hl
      refine ⟨List.pairwise_append.2 ⟨h1, by simp, fun a ha b hb => by simp at hb; rw [hb]; exact hlt a ha⟩, fun x => ?_⟩
      rw [List.mem_append, h2, List.mem_singleton]
      constructor
      · rintro (⟨j, hj, e⟩ | e)
        · exact ⟨j, by omega, e⟩
        · exact ⟨m, by omega, e.symm⟩
      · rintro ⟨j, hj, e⟩
        by_cases c : j = m
        · subst c; exact .inr e.symm
        · exact .inl ⟨j, by omega, e⟩
    · rw [if_neg hk, List.append_nil]
      refine ⟨h1, fun x => ?_⟩
      rw [h2]
      have h3 : 0 < m ∧ d[m]! = d[m - 1]! := by
        simp only [keeps, decide_eq_true_eq, not_or] at hk
        exact ⟨by omega, Classical.not_not.1 hk.2⟩
      constructor
      · rintro ⟨j, hj, e⟩
        exact ⟨j, by omega, e⟩
      · rintro ⟨j, hj, e⟩
        by_cases c : j = m
        · subst c; exact ⟨j - 1, by omega, by rw [← h3.2]; exact e⟩
        · exact ⟨j, by omega, e⟩

/-- Sorted, each once. -/
def sortC (ss : List (List UInt8)) : List (List UInt8) := Lib.compact (ss.mergeSort fun x y => decide (x ≤ y))

theorem sortC_spec (ss : List (List UInt8)) : Strict (sortC ss) ∧ ∀ x, x ∈ sortC ss ↔ x ∈ ss := by
  have hp : (ss.mergeSort fun x y => decide (x ≤ y)).Pairwise fun a b => decide (a ≤ b) = true :=
    List.pairwise_mergeSort (fun a b c h h' => by simp only [decide_eq_true_eq] at h h' ⊢; exact List.le_trans h h') (fun a b => by simp only [Bool.or_eq_true, decide_eq_true_eq]; exact List.le_total a b) ss
  have hm : ∀ x, x ∈ (ss.mergeSort fun x y => decide (x ≤ y)) ↔ x ∈ ss := fun x => List.mem_mergeSort
  unfold sortC Lib.compact
  generalize (ss.mergeSort fun x y => decide (x ≤ y)) = ts at hp hm
  obtain ⟨h1, h2⟩ := compact_up ts.toArray (fun i j hij hj => by
    have hj' : j < ts.length := by simpa using hj
    have := List.pairwise_iff_getElem.1 hp i j (by omega) hj' hij
    simp only [decide_eq_true_eq] at this
    simpa [getElem!_pos, hj', show i < ts.length by omega] using this) ts.length (by simp)
  refine ⟨h1, fun x => ?_⟩
  rw [h2, ← hm]
  constructor
  · rintro ⟨j, hj, rfl⟩
    simp [getElem!_pos, hj]
  · intro hx
    obtain ⟨j, hj, e⟩ := List.getElem_of_mem hx
    exact ⟨j, hj, by simpa [getElem!_pos, hj] using e⟩

/-- The names, with small letters, of the headers that may not go anywhere. -/
def namesOf (l : List Hd) : List (List UInt8) := (l.filter fun h => !headOk h.1 h.2).map fun h => lo h.1
def uns (l : List Hd) : List (List UInt8) := sortC (namesOf l)

theorem namesOf_len (l : List Hd) : (namesOf l).length ≤ l.length := by
  unfold namesOf
  rw [List.length_map]
  exact List.length_filter_le _ _
theorem namesOf_step {l : List Hd} {k : Nat} (hk : k < l.length) : namesOf (l.take (k + 1)) = namesOf (l.take k) ++ (if headOk l[k].1 l[k].2 then [] else [lo l[k].1]) := by
  unfold namesOf
  rw [take_snoc hk, List.filter_append, List.map_append]
  congr 1
  cases h : headOk l[k].1 l[k].2 <;> simp [h]
theorem uns_len (l : List Hd) : (uns l).length ≤ l.length := by
  have h1 := Lib.compact_length_le ((namesOf l).mergeSort fun x y => decide (x ≤ y))
  rw [List.length_mergeSort] at h1
  exact Nat.le_trans h1 (namesOf_len l)
theorem uns_is {l : List Hd} {out : List (List UInt8)} (hs : Strict out) (hm : ∀ x, x ∈ out ↔ x ∈ namesOf l) : out = uns l :=
  strict_eq hs (sortC_spec _).1 fun x => by rw [hm]; exact ((sortC_spec _).2 x).symm
theorem uns_same {a b : List Hd} (h : ∀ x, x ∈ namesOf a ↔ x ∈ namesOf b) : uns a = uns b :=
  uns_is (sortC_spec _).1 fun x => by rw [← h]; exact (sortC_spec _).2 x
theorem mem_names {l : List Hd} {x : List UInt8} : x ∈ namesOf l ↔ ∃ h ∈ l, headOk h.1 h.2 = false ∧ lo h.1 = x := by
  unfold namesOf
  simp [List.mem_map, List.mem_filter, and_assoc]
/-- The order of the headers does not count. -/
theorem uns_turned (l : List Hd) : uns l.reverse = uns l := uns_same fun x => by simp [mem_names]
/-- Those alone that may not go anywhere have the same names. -/
theorem uns_only (l : List Hd) : uns (l.reverse.filter fun h => !headOk h.1 h.2) = uns l := uns_same fun x => by
  simp only [mem_names, List.mem_filter, List.mem_reverse]
  constructor
  · rintro ⟨h, ⟨h1, _⟩, h2⟩
    exact ⟨h, h1, h2⟩
  · rintro ⟨h, h1, h2, h3⟩
    exact ⟨h, ⟨h1, by simp [h2]⟩, h2, h3⟩

/-- A name is put in where it belongs. -/
theorem strict_put {out : List (List UInt8)} {n : List UInt8} {k : Nat} (hs : Strict out) (hk : k ≤ out.length) (hno : n ∉ out) (hl : ∀ j (hj : j < out.length), j < k → out[j] < n) (hr : ∀ h : k < out.length, ¬ out[k] < n) : Strict (out.take k ++ [n] ++ out.drop k) := by
  have hs' : Strict (out.take k ++ out.drop k) := by rw [List.take_append_drop]; exact hs
  obtain ⟨h1, h2, h3⟩ := List.pairwise_append.1 hs'
  have hlow : ∀ x ∈ out.take k, x < n := by
    intro x hx
    obtain ⟨j, hj, e⟩ := List.getElem_of_mem hx
    rw [List.length_take] at hj
    rw [List.getElem_take] at e
    rw [← e]
    exact hl j (by omega) (by omega)
  have hhigh : ∀ x ∈ out.drop k, n < x := by
    intro x hx
    by_cases hkl : k < out.length
    · have hk1 : n < out[k] := lt_of_le_ne (List.not_lt.1 (hr hkl)) fun e => hno (by rw [← e]; exact List.getElem_mem hkl)
      rw [List.drop_eq_getElem_cons hkl] at hx h2
      rcases List.mem_cons.1 hx with rfl | hx
      · exact hk1
      · exact List.lt_trans hk1 ((List.pairwise_cons.1 h2).1 x hx)
    · rw [List.drop_of_length_le (by omega)] at hx
      cases hx
  rw [List.append_assoc]
  refine List.pairwise_append.2 ⟨h1, List.pairwise_append.2 ⟨by simp, h2, fun a ha b hb => by simp at ha; rw [ha]; exact hhigh b hb⟩, fun a ha b hb => ?_⟩
  rcases List.mem_append.1 hb with hb | hb
  · simp at hb; rw [hb]; exact hlow a ha
  · exact h3 a ha b hb
theorem mem_put {out : List (List UInt8)} {n x : List UInt8} {k : Nat} : x ∈ out.take k ++ [n] ++ out.drop k ↔ x ∈ out ∨ x = n := by
  rw [List.mem_append, List.mem_append, List.mem_singleton]
  conv => rhs; rw [← List.take_append_drop k out, List.mem_append]
  constructor
  · rintro ((h | h) | h)
    · exact .inl (.inl h)
    · exact .inr h
    · exact .inl (.inr h)
  · rintro ((h | h) | h)
    · exact .inl (.inl h)
    · exact .inr h
    · exact .inl (.inr h)
end Go.Proofs.YtalnjlodldhfbaaGreatDoor
