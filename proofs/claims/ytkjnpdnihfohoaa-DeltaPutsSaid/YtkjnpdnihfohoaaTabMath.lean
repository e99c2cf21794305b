/-
  Plain facts on a table of texts, each with its number, and on the bytes by which it tells them. No program is spoken of; no condition beyond those that each theorem states.
-/
import Derived.Test.YtkjnpdnihfohoaaLow
namespace Go.Proofs.Ytkjnpdnihfohoaa
open Leb

/-- A text as numbers, and numbers as a text. -/
def nums (p : List UInt8) : List Int := p.map fun b => (b.toNat : Int)
def ltrs (q : List Int) : List UInt8 := q.map fun x => UInt8.ofNat x.toNat

theorem nums_len (p : List UInt8) : (nums p).length = p.length := by simp [nums]
theorem ltrs_len (q : List Int) : (ltrs q).length = q.length := by simp [ltrs]
theorem nums_bytes (p : List UInt8) : Bytes (nums p) := fun x hx => by
  obtain ⟨b, _, rfl⟩ := List.mem_map.1 hx
  have := b.toNat_lt
  omega
theorem nums_ltrs {q : List Int} (h : Bytes q) : nums (ltrs q) = q := by
  induction q with
  | nil => rfl
  | cons x q ih =>
    have h1 := h x (by simp)
    have h2 := ih fun y hy => h y (by simp [hy])
    simp only [nums, ltrs, List.map_cons, List.map_map] at h2 ⊢
    rw [h2]
    congr 1
    have h3 : (UInt8.ofNat x.toNat).toNat = x.toNat := by rw [UInt8.toNat_ofNat']; omega
    rw [h3]
    omega
theorem ltrs_nums (p : List UInt8) : ltrs (nums p) = p := by
  induction p with
  | nil => rfl
  | cons b p ih =>
    simp only [nums, ltrs, List.map_cons, List.map_map, Int.toNat_natCast] at ih ⊢
    rw [ih]
    congr 1
    exact UInt8.ofNat_toNat
theorem nums_inj {a b : List UInt8} (h : nums a = nums b) : a = b := by rw [← ltrs_nums a, h, ltrs_nums]
theorem nums_append (a b : List UInt8) : nums (a ++ b) = nums a ++ nums b := by simp [nums]
theorem Bytes.cut {q : List Int} (h : Bytes q) (i k : Nat) : Bytes ((q.drop i).take k) := (h.drop i).take k

/-- The number of a text in a table, from 1 on; 0: it isn't there. -/
def numT : List (List UInt8) → List UInt8 → Nat
  | [], _ => 0
  | x :: l, s => if x = s then 1 else if numT l s = 0 then 0 else numT l s + 1

theorem numT_le : ∀ (l : List (List UInt8)) (s : List UInt8), numT l s ≤ l.length
  | [], _ => Nat.le_refl _
  | x :: l, s => by
    have := numT_le l s
    unfold numT
    split
    · simp
    · split
      · simp
      · simp only [List.length_cons]; omega
theorem numT_mem : ∀ (l : List (List UInt8)) (s : List UInt8), numT l s ≠ 0 ↔ s ∈ l
  | [], s => by simp [numT]
  | x :: l, s => by
    have := numT_mem l s
    unfold numT
    by_cases hx : x = s
    · simp [hx]
    · have hs : ¬ s = x := fun e => hx e.symm
      rw [if_neg hx, List.mem_cons, ← this]
      split
      · rename_i h0; simp [h0, hs]
      · rename_i h0; simp [h0]
theorem numT_at : ∀ (l : List (List UInt8)) (s : List UInt8), numT l s ≠ 0 → l[numT l s - 1]? = some s
  | [], s, h => absurd rfl h
  | x :: l, s, h => by
    unfold numT at h ⊢
    by_cases hx : x = s
    · subst hx; simp
    · rw [if_neg hx] at h ⊢
      by_cases h0 : numT l s = 0
      · rw [if_pos h0] at h; exact absurd rfl h
      · rw [if_neg h0]
        have := numT_at l s h0
        rw [show numT l s + 1 - 1 = (numT l s - 1) + 1 by omega, List.getElem?_cons_succ]
        exact this
/-- The first place at which a text stands is its number's. -/
theorem numT_first : ∀ (l : List (List UInt8)) (s : List UInt8) (k : Nat), (∀ j, j < k → l[j]? ≠ some s) → l[k]? = some s → numT l s = k + 1
  | [], s, k, _, h => by simp at h
  | x :: l, s, 0, _, h => by
    have : x = s := by simpa using h
    unfold numT
    rw [if_pos this]
  | x :: l, s, k + 1, hb, h => by
    have h0 : x ≠ s := fun e => hb 0 (by omega) (by simp [e])
    have := numT_first l s k (fun j hj => by have := hb (j + 1) (by omega); simpa using this) (by simpa using h)
    unfold numT
    rw [if_neg h0, this, if_neg (by omega)]
theorem numT_none {l : List (List UInt8)} {s : List UInt8} (h : ∀ j, j < l.length → l[j]? ≠ some s) : numT l s = 0 := by
  apply Classical.byContradiction
  intro h0
  have h1 := numT_at l s h0
  have := numT_le l s
  exact h (numT l s - 1) (by omega) h1
theorem numT_snoc_new {l : List (List UInt8)} {s : List UInt8} (h : numT l s = 0) : numT (l ++ [s]) s = l.length + 1 := by
  apply numT_first
  · intro j hj e
    rw [List.getElem?_append_left hj] at e
    exact (numT_mem l s).2 (List.mem_of_getElem? e) h
  · simp
theorem numT_snoc_other : ∀ (l : List (List UInt8)) {s x : List UInt8}, s ≠ x → numT (l ++ [x]) s = numT l s
  | [], s, x, h => by simp [numT, Ne.symm h]
  | y :: l, s, x, h => by
    show numT (y :: (l ++ [x])) s = _
    unfold numT
    rw [numT_snoc_other l h]
theorem numT_one {l : List (List UInt8)} {s : List UInt8} {k : Nat} (hu : l.Nodup) (h : l[k]? = some s) : numT l s = k + 1 := by
  apply numT_first _ _ _ _ h
  intro j hj e
  have hk := (List.getElem?_eq_some_iff.1 h).1
  have := (List.getElem?_inj (by omega) hu).1 (e.trans h.symm)
  omega

/-- What Put writes, and the table behind it. -/
def putB (l : List (List UInt8)) (s : List UInt8) : List Int := if numT l s = 0 then 0 :: enc s.length ++ nums s else enc (numT l s)
def putL (l : List (List UInt8)) (s : List UInt8) : List (List UInt8) := if numT l s = 0 then l ++ [s] else l

theorem putB_old {l : List (List UInt8)} {s : List UInt8} (h : numT l s ≠ 0) : putB l s = enc (numT l s) := by rw [putB, if_neg h]
theorem putB_new {l : List (List UInt8)} {s : List UInt8} (h : numT l s = 0) : putB l s = 0 :: enc s.length ++ nums s := by rw [putB, if_pos h]
theorem putL_old {l : List (List UInt8)} {s : List UInt8} (h : numT l s ≠ 0) : putL l s = l := by rw [putL, if_neg h]
theorem putL_new {l : List (List UInt8)} {s : List UInt8} (h : numT l s = 0) : putL l s = l ++ [s] := by rw [putL, if_pos h]
theorem putL_len (l : List (List UInt8)) (s : List UInt8) : (putL l s).length ≤ l.length + 1 := by
  unfold putL; split <;> simp
theorem putL_mem (l : List (List UInt8)) (s : List UInt8) : s ∈ putL l s := by
  by_cases h : numT l s = 0
  · rw [putL_new h]; simp
  · rw [putL_old h]; exact (numT_mem l s).1 h
theorem putL_keep {l : List (List UInt8)} {x : List UInt8} (s : List UInt8) (h : x ∈ l) : x ∈ putL l s := by
  by_cases h0 : numT l s = 0
  · rw [putL_new h0]; simp [h]
  · rw [putL_old h0]; exact h
theorem putL_nodup {l : List (List UInt8)} (s : List UInt8) (h : l.Nodup) : (putL l s).Nodup := by
  by_cases h0 : numT l s = 0
  · rw [putL_new h0]
    have hm : s ∉ l := fun hm => (numT_mem l s).2 hm h0
    refine List.nodup_append.2 ⟨h, by simp, fun a ha b hb e => ?_⟩
    have hb' : b = s := by simpa using hb
    subst hb'
    exact hm (e ▸ ha)
  · rw [putL_old h0]; exact h
theorem putB_bytes (l : List (List UInt8)) (s : List UInt8) : Bytes (putB l s) := by
  unfold putB
  split
  · refine Bytes.append ?_ (nums_bytes s)
    intro x hx
    rcases List.mem_cons.1 hx with rfl | hx
    · omega
    · exact enc_bytes _ x hx
  · exact enc_bytes _
theorem putB_pos (l : List (List UInt8)) (s : List UInt8) : 1 ≤ (putB l s).length := by
  unfold putB
  split
  · simp
  · exact size_pos _
theorem putB_len (l : List (List UInt8)) (s : List UInt8) (hl : l.length < 18446744073709551616) (hs : s.length < 18446744073709551616) : (putB l s).length ≤ s.length + 11 := by
  have h1 := size_le10 (n := s.length) hs
  have h2 := size_le10 (n := numT l s) (Nat.lt_of_le_of_lt (numT_le l s) hl)
  unfold putB
  unfold size at h1 h2
  split
  · simp only [List.cons_append, List.length_cons, List.length_append, nums_len]; omega
  · omega

/-- What Take answers: the text, the place behind it, the error's number; and the table behind it. -/
def takeB (l : List (List UInt8)) (b : List Int) (p : Int) : List UInt8 × Int × Int :=
  if (take b p).2.2 ≠ 0 then ([], 0, (take b p).2.2)
  else if l.length < (take b p).1 then ([], 0, 5)
  else if 0 < (take b p).1 then (l[(take b p).1 - 1]?.getD [], (take b p).2.1, 0)
  else if (take b (take b p).2.1).2.2 ≠ 0 then ([], 0, (take b (take b p).2.1).2.2)
  else if 2048 < (take b (take b p).2.1).1 then ([], 0, 2)
  else if (b.length : Int) < (take b (take b p).2.1).2.1 + (take b (take b p).2.1).1 then ([], 0, 7)
  else if numT l (ltrs ((b.drop (take b (take b p).2.1).2.1.toNat).take (take b (take b p).2.1).1)) ≠ 0 then ([], 0, 4)
  else (ltrs ((b.drop (take b (take b p).2.1).2.1.toNat).take (take b (take b p).2.1).1), (take b (take b p).2.1).2.1 + (take b (take b p).2.1).1, 0)

/-- Is a text added? -/
def takeNew (b : List Int) (p : Int) : Bool := decide ((take b p).1 = 0)
def takeL (l : List (List UInt8)) (b : List Int) (p : Int) : List (List UInt8) := if (takeB l b p).2.2 = 0 ∧ (take b p).1 = 0 then l ++ [(takeB l b p).1] else l

/-- A place that take gives lies within. -/
theorem take_next {b : List Int} {p : Int} (h : (take b p).2.2 = 0) : 0 ≤ p ∧ p < (take b p).2.1 ∧ (take b p).2.1 ≤ b.length := by
  by_cases hp : p < 0 ∨ (b.length : Int) < p
  · rw [take, if_pos hp] at h
    cases h
  · have hp0 : 0 ≤ p := by omega
    unfold take at h ⊢
    rw [if_neg hp] at h ⊢
    split at h
    · cases h
    · split at h
      · cases h
      · rename_i h1 h2
        rw [if_neg h1, if_neg h2]
        have h3 : span (b.drop p.toNat) ≠ 0 := fun e => h2 (.inl e)
        have h4 := (span_le (b.drop p.toNat)).1
        rw [List.length_drop] at h4
        simp only
        refine ⟨hp0, ?_, ?_⟩ <;> omega

theorem take_zero (a r : List Int) : take (a ++ 0 :: r) a.length = (0, ((a.length + 1 : Nat) : Int), 0) := by
  have := take_enc a r (n := 0) (by omega)
  rw [enc_small (by omega)] at this
  simpa using this

/-- What Put wrote is taken again, by a table that holds the same. -/
theorem takeB_put (l : List (List UInt8)) (s : List UInt8) (a r : List Int) (hl : l.length < 18446744073709551616) (hs : s.length ≤ 2048) :
    takeB l (a ++ putB l s ++ r) a.length = (s, ((a ++ putB l s).length : Int), 0) ∧ takeL l (a ++ putB l s ++ r) a.length = putL l s := by
  by_cases h : numT l s = 0
  · have e1 : take (a ++ putB l s ++ r) a.length = (0, ((a.length + 1 : Nat) : Int), 0) := by
      rw [putB_new h, List.append_assoc, List.cons_append, List.cons_append]
      exact take_zero _ _
    have e2 : take (a ++ putB l s ++ r) ((a.length + 1 : Nat) : Int) = (s.length, ((a.length + 1 + (enc s.length).length : Nat) : Int), 0) := by
      have h3 := take_enc (a ++ [0]) (nums s ++ r) (n := s.length) (by omega)
      rw [putB_new h]
      simp only [List.append_assoc, List.cons_append, List.nil_append, List.length_append, List.length_cons, List.length_nil] at h3 ⊢
      rw [h3]
      congr 2
      congr 1
      omega
    have e3 : ltrs (((a ++ putB l s ++ r).drop (a.length + 1 + (enc s.length).length)).take s.length) = s := by
      have h3 : (a ++ putB l s ++ r) = (a ++ 0 :: enc s.length) ++ (nums s ++ r) := by rw [putB_new h]; simp
      rw [h3, List.drop_left' (by simp only [List.length_append, List.length_cons]; omega), List.take_left' (nums_len s), ltrs_nums]
    have e4 : (putB l s).length = 1 + (enc s.length).length + s.length := by
      rw [putB_new h]
      simp only [List.cons_append, List.length_cons, List.length_append, nums_len]
      omega
    have e5 : takeB l (a ++ putB l s ++ r) a.length = (s, ((a ++ putB l s).length : Int), 0) := by
      unfold takeB
      simp only [e1]
      rw [if_neg (by simp), if_neg (by omega), if_neg (by omega), e2]
      simp only [Int.toNat_natCast]
      rw [if_neg (by simp), if_neg (by omega), if_neg (by rw [List.length_append, List.length_append, e4]; omega), e3, if_neg (by simp [h])]
      congr 2
      rw [List.length_append, e4]
      omega
    refine ⟨e5, ?_⟩
    unfold takeL
    rw [e5, e1, if_pos ⟨rfl, rfl⟩, putL_new h]
  · have hn := numT_le l s
    have e1 : take (a ++ putB l s ++ r) a.length = (numT l s, ((a ++ putB l s).length : Int), 0) := by
      rw [putB_old h]
      exact take_enc a r (by omega)
    have e5 : takeB l (a ++ putB l s ++ r) a.length = (s, ((a ++ putB l s).length : Int), 0) := by
      unfold takeB
      simp only [e1]
      rw [if_neg (by simp), if_neg (by omega), if_pos (by omega), numT_at l s h]
      rfl
    refine ⟨e5, ?_⟩
    unfold takeL
    rw [e5, e1, if_neg (fun h' => h h'.2), putL_old h]

/-- With an error the text is empty and the place is 0. -/
theorem takeB_bad (l : List (List UInt8)) (b : List Int) (p : Int) (h : (takeB l b p).2.2 ≠ 0) : (takeB l b p).1 = [] ∧ (takeB l b p).2.1 = 0 ∧ takeL l b p = l := by
  have hL : takeL l b p = l := by unfold takeL; rw [if_neg (fun h' => h h'.1)]
  refine ⟨?_, ?_, hL⟩ <;> (unfold takeB at h ⊢; repeat (first | (split at h <;> rename_i hc <;> first | rw [if_pos hc] | rw [if_neg hc]) | rfl | exact absurd rfl h))

theorem takeL_len (l : List (List UInt8)) (b : List Int) (p : Int) : (takeL l b p).length ≤ l.length + 1 := by
  unfold takeL
  split <;> simp

/-- Texts put one behind the other. -/
def putsL : List (List UInt8) → List (List UInt8) → List (List UInt8)
  | l, [] => l
  | l, s :: ss => putsL (putL l s) ss
def putsB : List (List UInt8) → List (List UInt8) → List Int
  | _, [] => []
  | l, s :: ss => putB l s ++ putsB (putL l s) ss

theorem putsL_snoc (l : List (List UInt8)) : ∀ (ss : List (List UInt8)) (s : List UInt8), putsL l (ss ++ [s]) = putL (putsL l ss) s := by
  intro ss
  induction ss generalizing l with
  | nil => intro s; rfl
  | cons x ss ih => intro s; exact ih (putL l x) s
theorem putsB_snoc (l : List (List UInt8)) : ∀ (ss : List (List UInt8)) (s : List UInt8), putsB l (ss ++ [s]) = putsB l ss ++ putB (putsL l ss) s := by
  intro ss
  induction ss generalizing l with
  | nil => intro s; simp [putsB, putsL]
  | cons x ss ih => intro s; show putB l x ++ putsB (putL l x) (ss ++ [s]) = _; rw [ih (putL l x) s]; simp [putsB, putsL]
theorem putsL_len (l : List (List UInt8)) : ∀ (ss : List (List UInt8)), (putsL l ss).length ≤ l.length + ss.length := by
  intro ss
  induction ss generalizing l with
  | nil => exact Nat.le_refl _
  | cons x ss ih => have h1 := ih (putL l x); have h2 := putL_len l x; show (putsL (putL l x) ss).length ≤ _; simp only [List.length_cons]; omega
theorem putsL_nodup (l : List (List UInt8)) (h : l.Nodup) : ∀ (ss : List (List UInt8)), (putsL l ss).Nodup := by
  intro ss
  induction ss generalizing l with
  | nil => exact h
  | cons x ss ih => exact ih (putL l x) (putL_nodup x h)
theorem putsL_keep {x : List UInt8} (l : List (List UInt8)) (h : x ∈ l) : ∀ (ss : List (List UInt8)), x ∈ putsL l ss := by
  intro ss
  induction ss generalizing l with
  | nil => exact h
  | cons y ss ih => exact ih (putL l y) (putL_keep y h)
theorem putsL_mem {x : List UInt8} (l : List (List UInt8)) : ∀ (ss : List (List UInt8)), x ∈ ss → x ∈ putsL l ss := by
  intro ss
  induction ss generalizing l with
  | nil => intro h; cases h
  | cons y ss ih =>
    intro h
    rcases List.mem_cons.1 h with rfl | h
    · exact putsL_keep _ (putL_mem l x) ss
    · exact ih (putL l y) h
theorem putsB_bytes (l : List (List UInt8)) : ∀ (ss : List (List UInt8)), Bytes (putsB l ss) := by
  intro ss
  induction ss generalizing l with
  | nil => exact Bytes.nil
  | cons y ss ih => exact (putB_bytes l y).append (ih (putL l y))

/-- Each text of a row that was put is taken again, and both tables are one. -/
theorem takes_puts (l : List (List UInt8)) (a ss : List (List UInt8)) (s : List UInt8) (hl : (putsL l a).length < 18446744073709551616) (hs : s.length ≤ 2048) :
    takeB (putsL l a) (putsB l (a ++ s :: ss)) (putsB l a).length = (s, ((putsB l (a ++ [s])).length : Int), 0) ∧ takeL (putsL l a) (putsB l (a ++ s :: ss)) (putsB l a).length = putsL l (a ++ [s]) := by
  have e : ∀ (l : List (List UInt8)) (a ss : List (List UInt8)), putsB l (a ++ ss) = putsB l a ++ putsB (putsL l a) ss := by
    intro l a
    induction a generalizing l with
    | nil => intro ss; simp [putsB, putsL]
    | cons x a ih => intro ss; show putB l x ++ putsB (putL l x) (a ++ ss) = _; rw [ih (putL l x) ss]; simp [putsB, putsL]
  rw [e l a (s :: ss), putsB_snoc, putsL_snoc]
  have h := takeB_put (putsL l a) s (putsB l a) (putsB (putL (putsL l a) s) ss) hl hs
  show takeB (putsL l a) (putsB l a ++ (putB (putsL l a) s ++ putsB (putL (putsL l a) s) ss)) _ = _ ∧ takeL (putsL l a) (putsB l a ++ (putB (putsL l a) s ++ putsB (putL (putsL l a) s) ss)) _ = _
  rw [← List.append_assoc]
  exact h

/-! The ways of Take, one by one. -/
section
variable {l : List (List UInt8)} {b : List Int} {p : Int} {a a2 : Nat} {q q2 e e2 : Int}
theorem takeB_e1 (h : take b p = (a, q, e)) (he : e ≠ 0) : takeB l b p = ([], 0, e) ∧ takeL l b p = l := by
  have h1 : takeB l b p = ([], 0, e) := by unfold takeB; rw [h]; exact if_pos he
  exact ⟨h1, by unfold takeL; rw [h1]; exact if_neg fun h' => he h'.1⟩
theorem takeB_none (h : take b p = (a, q, 0)) (ha : l.length < a) : takeB l b p = ([], 0, 5) ∧ takeL l b p = l := by
  have h1 : takeB l b p = ([], 0, 5) := by unfold takeB; rw [h]; simp only; rw [if_neg (by simp), if_pos ha]
  exact ⟨h1, by unfold takeL; rw [h1]; exact if_neg fun h' => absurd h'.1 (by simp)⟩
theorem takeB_old (h : take b p = (a, q, 0)) (h0 : 0 < a) (ha : a ≤ l.length) : takeB l b p = (l[a - 1]?.getD [], q, 0) ∧ takeL l b p = l := by
  have h1 : takeB l b p = (l[a - 1]?.getD [], q, 0) := by unfold takeB; rw [h]; simp only; rw [if_neg (by simp), if_neg (by omega), if_pos h0]
  exact ⟨h1, by unfold takeL; rw [h]; exact if_neg fun h' => absurd h'.2 (by simp only; omega)⟩
theorem takeB_e2 (h : take b p = (0, q, 0)) (h2 : take b q = (a2, q2, e2)) (he : e2 ≠ 0) : takeB l b p = ([], 0, e2) ∧ takeL l b p = l := by
  have h1 : takeB l b p = ([], 0, e2) := by unfold takeB; rw [h]; simp only; rw [if_neg (by simp), if_neg (by omega), if_neg (by omega), h2]; exact if_pos he
  exact ⟨h1, by unfold takeL; rw [h1]; exact if_neg fun h' => he h'.1⟩
theorem takeB_over (h : take b p = (0, q, 0)) (h2 : take b q = (a2, q2, 0)) (ho : 2048 < a2) : takeB l b p = ([], 0, 2) ∧ takeL l b p = l := by
  have h1 : takeB l b p = ([], 0, 2) := by unfold takeB; rw [h]; simp only; rw [if_neg (by simp), if_neg (by omega), if_neg (by omega), h2]; simp only; rw [if_neg (by simp), if_pos ho]
  exact ⟨h1, by unfold takeL; rw [h1]; exact if_neg fun h' => absurd h'.1 (by simp)⟩
theorem takeB_short (h : take b p = (0, q, 0)) (h2 : take b q = (a2, q2, 0)) (ho : a2 ≤ 2048) (hs : (b.length : Int) < q2 + a2) : takeB l b p = ([], 0, 7) ∧ takeL l b p = l := by
  have h1 : takeB l b p = ([], 0, 7) := by unfold takeB; rw [h]; simp only; rw [if_neg (by simp), if_neg (by omega), if_neg (by omega), h2]; simp only; rw [if_neg (by simp), if_neg (by omega), if_pos hs]
  exact ⟨h1, by unfold takeL; rw [h1]; exact if_neg fun h' => absurd h'.1 (by simp)⟩
theorem takeB_twice (h : take b p = (0, q, 0)) (h2 : take b q = (a2, q2, 0)) (ho : a2 ≤ 2048) (hs : q2 + a2 ≤ (b.length : Int)) {s : List UInt8} (hx : ltrs ((b.drop q2.toNat).take a2) = s) (ht : numT l s ≠ 0) : takeB l b p = ([], 0, 4) ∧ takeL l b p = l := by
  have h1 : takeB l b p = ([], 0, 4) := by unfold takeB; rw [h]; simp only; rw [if_neg (by simp), if_neg (by omega), if_neg (by omega), h2]; simp only; rw [if_neg (by simp), if_neg (by omega), if_neg (by omega), hx, if_pos ht]
  exact ⟨h1, by unfold takeL; rw [h1]; exact if_neg fun h' => absurd h'.1 (by simp)⟩
theorem takeB_new (h : take b p = (0, q, 0)) (h2 : take b q = (a2, q2, 0)) (ho : a2 ≤ 2048) (hs : q2 + a2 ≤ (b.length : Int)) {s : List UInt8} (hx : ltrs ((b.drop q2.toNat).take a2) = s) (ht : numT l s = 0) : takeB l b p = (s, q2 + a2, 0) ∧ takeL l b p = l ++ [s] := by
  have h1 : takeB l b p = (s, q2 + a2, 0) := by unfold takeB; rw [h]; simp only; rw [if_neg (by simp), if_neg (by omega), if_neg (by omega), h2]; simp only; rw [if_neg (by simp), if_neg (by omega), if_neg (by omega), hx, if_neg (by simp [ht])]
  refine ⟨h1, ?_⟩
  unfold takeL
  rw [h1, h]
  exact if_pos ⟨rfl, rfl⟩
end
/-- The bounds of what a good number's place may be. -/
theorem take_ok {b : List Int} {p : Int} {a : Nat} {q : Int} (h : take b p = (a, q, 0)) : 0 ≤ p ∧ p < q ∧ q ≤ b.length := by
  have := take_next (b := b) (p := p) (by rw [h])
  rw [h] at this
  exact this
/-- The error's number of take is 0, 1, 4 or 7. -/
theorem take_err (b : List Int) (p : Int) : (take b p).2.2 = 0 ∨ (take b p).2.2 = 1 ∨ (take b p).2.2 = 4 ∨ (take b p).2.2 = 7 := by
  unfold take
  split
  · simp
  · split
    · simp
    · split <;> simp
end Go.Proofs.Ytkjnpdnihfohoaa
