/-
  Texts of one sort, one behind the other: numbers, memory, regions, strings, headers. Conditions: those that each theorem states.
-/
import Derived.Lib.Hide
import Derived.WalkKit
import Derived.WalkSpells
import Derived.Maps.AppendAt
import Derived.Laws.BytesArg
import Derived.Lib.Bytes
import Derived.OpenShut
import Derived.Deep.Draws
import Derived.WalkSmall
import Derived.Test.YtkjnpdnihfohoaaChecked
import Derived.Lib.SlTrimSet
import Derived.Lib.IndexBytes
import Derived.Lib.SplitLaws
import Derived.RegionTactic
import Derived.Shelf.Lay
import Derived.Orders

/-
  Plain facts on the unique encoding of numbers in groups of seven bits: its length, its order, and that decoding gives back the number, and no other bytes do. No program is spoken of here; no condition beyond those that each theorem states.
-/
namespace Go.Proofs.Ytkjnpdnihfohoaa.Leb

/-- The encoding of n: groups of seven bits, lowest first, 128 added to all but the last. -/
def enc (n : Nat) : List Int := if _h : n < 128 then [(n : Int)] else ((n % 128 + 128 : Nat) : Int) :: enc (n / 128)
termination_by n
decreasing_by omega

theorem enc_small {n : Nat} (h : n < 128) : enc n = [(n : Int)] := by rw [enc, dif_pos h]
theorem enc_big {n : Nat} (h : 128 ≤ n) : enc n = ((n % 128 + 128 : Nat) : Int) :: enc (n / 128) := by rw [enc, dif_neg (by omega)]

/-- The length of the encoding. -/
def size (n : Nat) : Nat := (enc n).length

theorem size_small {n : Nat} (h : n < 128) : size n = 1 := by simp [size, enc_small h]
theorem size_big {n : Nat} (h : 128 ≤ n) : size n = size (n / 128) + 1 := by simp [size, enc_big h]
theorem size_pos (n : Nat) : 1 ≤ size n := by
  by_cases h : n < 128
  · rw [size_small h]; omega
  · rw [size_big (by omega)]; omega

theorem size_le : ∀ (k n : Nat), n < 128 ^ (k + 1) → size n ≤ k + 1
  | 0, n, h => by rw [size_small (by simpa using h)]; omega
  | k + 1, n, h => by
    by_cases hn : n < 128
    · rw [size_small hn]; omega
    · rw [size_big (by omega)]
      have := size_le k (n / 128) (by rw [Nat.div_lt_iff_lt_mul (by omega)]; rw [Nat.pow_succ] at h; exact h)
      omega

theorem size_le10 {n : Nat} (h : n < 18446744073709551616) : size n ≤ 10 :=
  size_le 9 n (Nat.lt_of_lt_of_le h (by decide))

theorem size_mono : ∀ (m n : Nat), m ≤ n → size m ≤ size n := by
  intro m
  induction m using Nat.strongRecOn with
  | ind m ih =>
    intro n h
    by_cases hm : m < 128
    · rw [size_small hm]; exact size_pos n
    · rw [size_big (by omega), size_big (show 128 ≤ n by omega)]
      have := ih (m / 128) (by omega) (n / 128) (Nat.div_le_div_right h)
      omega

/-- All of a list are bytes. -/
def Bytes (l : List Int) : Prop := ∀ x ∈ l, 0 ≤ x ∧ x < 256

theorem Bytes.nil : Bytes [] := fun _ h => by cases h
theorem Bytes.append {a b : List Int} (ha : Bytes a) (hb : Bytes b) : Bytes (a ++ b) := fun x hx => by
  rcases List.mem_append.1 hx with h | h
  · exact ha x h
  · exact hb x h
theorem Bytes.take {a : List Int} (ha : Bytes a) (k : Nat) : Bytes (a.take k) := fun x hx => ha x (List.mem_of_mem_take hx)
theorem Bytes.drop {a : List Int} (ha : Bytes a) (k : Nat) : Bytes (a.drop k) := fun x hx => ha x (List.mem_of_mem_drop hx)
theorem Bytes.getD {a : List Int} (ha : Bytes a) (k : Nat) : 0 ≤ a[k]?.getD 0 ∧ a[k]?.getD 0 ≤ 255 := by
  by_cases h : k < a.length
  · have := ha a[k] (List.getElem_mem h)
    rw [List.getElem?_eq_getElem h]
    simp only [Option.getD_some]
    omega
  · rw [List.getElem?_eq_none (by omega)]
    simp

theorem enc_bytes (n : Nat) : Bytes (enc n) := by
  induction n using Nat.strongRecOn with
  | ind n ih =>
    by_cases h : n < 128
    · rw [enc_small h]; intro x hx; simp at hx; omega
    · rw [enc_big (by omega)]
      intro x hx
      rcases List.mem_cons.1 hx with h | h
      · omega
      · exact ih _ (by omega) x h

/-- The number of groups: the lowest first. -/
def val : List Int → Nat
  | [] => 0
  | x :: r => (x % 128).toNat + 128 * val r

theorem val_enc (n : Nat) : val (enc n) = n := by
  induction n using Nat.strongRecOn with
  | ind n ih =>
    by_cases h : n < 128
    · rw [enc_small h]; simp only [val]; omega
    · rw [enc_big (by omega)]
      simp only [val, ih (n / 128) (by omega)]
      omega

theorem val_snoc : ∀ (l : List Int) (k : Nat), k < l.length → val (l.take (k + 1)) = val (l.take k) + (l[k]?.getD 0 % 128).toNat * 128 ^ k
  | [], _, h => by simp at h
  | x :: r, 0, _ => by simp [val]
  | x :: r, k + 1, h => by
    have ih := val_snoc r k (by simpa using h)
    rw [List.take_succ_cons, List.take_succ_cons]
    simp only [val, ih, List.getElem?_cons_succ]
    generalize (r[k]?.getD 0 % 128).toNat = t
    have e : t * 128 ^ (k + 1) = 128 * (t * 128 ^ k) := by rw [Nat.pow_succ, ← Nat.mul_assoc, Nat.mul_comm]
    rw [e]
    omega

theorem val_take_lt : ∀ (k : Nat) (l : List Int), val (l.take k) < 128 ^ k
  | 0, l => by simp [val]
  | k + 1, [] => by simp only [List.take_nil, val]; exact Nat.pow_pos (by omega)
  | k + 1, x :: r => by
    have ih := val_take_lt k r
    rw [List.take_succ_cons]
    simp only [val]
    rw [Nat.pow_succ]
    omega

theorem val_take_le : ∀ (k : Nat) (l : List Int), val (l.take k) ≤ val l
  | 0, l => by simp [val]
  | k + 1, [] => by simp
  | k + 1, x :: r => by
    have ih := val_take_le k r
    rw [List.take_succ_cons]
    simp only [val]
    omega

theorem enc_inj {m n : Nat} (h : enc m = enc n) : m = n := by rw [← val_enc m, h, val_enc]

/-- Groups that end: all but the last are 128 and above, the last one is below. -/
def Ends : List Int → Prop
  | [] => False
  | [x] => 0 ≤ x ∧ x < 128
  | x :: y :: r => 128 ≤ x ∧ x < 256 ∧ Ends (y :: r)

theorem enc_ne (n : Nat) : enc n ≠ [] := by
  have := size_pos n
  intro h
  simp [size, h] at this

theorem ends_cons {x : Int} {l : List Int} (hx : 128 ≤ x) (hx' : x < 256) (h : Ends l) : Ends (x :: l) := by
  cases l with
  | nil => exact h.elim
  | cons y r => exact ⟨hx, hx', h⟩

theorem enc_ends (n : Nat) : Ends (enc n) := by
  induction n using Nat.strongRecOn with
  | ind n ih =>
    by_cases h : n < 128
    · rw [enc_small h]; exact ⟨by omega, by omega⟩
    · rw [enc_big (by omega)]
      exact ends_cons (by omega) (by omega) (ih _ (by omega))

def last (l : List Int) : Int := l.getLast?.getD 0

theorem last_one (x : Int) : last [x] = x := rfl
theorem last_cons (x y : Int) (l : List Int) : last (x :: y :: l) = last (y :: l) := by simp [last, List.getLast?_cons]

theorem ends_last : ∀ {l : List Int}, Ends l → 0 ≤ last l ∧ last l < 128
  | [], h => h.elim
  | [x], h => h
  | x :: y :: r, h => by rw [last_cons]; exact ends_last h.2.2

/-- The last group, and where the number then lies. -/
theorem val_last : ∀ (k : Nat) (l : List Int), Ends l → l.length = k + 1 → (last l).toNat * 128 ^ k ≤ val l ∧ val l < ((last l).toNat + 1) * 128 ^ k
  | 0, [x], h, _ => by
    have h0 := h.1
    have h1 := h.2
    rw [last_one]
    simp only [val, Nat.pow_zero]
    omega
  | k + 1, x :: y :: r, h, hl => by
    have ih := val_last k (y :: r) h.2.2 (by simpa using hl)
    rw [last_cons, Nat.pow_succ]
    have e : val (x :: y :: r) = (x % 128).toNat + 128 * val (y :: r) := rfl
    rw [e]
    generalize val (y :: r) = v at ih ⊢
    generalize (last (y :: r)).toNat = t at ih ⊢
    have a1 : t * (128 ^ k * 128) = 128 * (t * 128 ^ k) := by rw [← Nat.mul_assoc, Nat.mul_comm]
    have a2 : (t + 1) * (128 ^ k * 128) = 128 * ((t + 1) * 128 ^ k) := by rw [← Nat.mul_assoc, Nat.mul_comm]
    rw [a1, a2]
    omega
  | 0, [], h, _ => h.elim
  | 0, x :: y :: r, _, hl => by simp at hl
  | k + 1, [], h, _ => h.elim
  | k + 1, [x], _, hl => by simp at hl

/-- Groups that end are the encoding of their number exactly if the last one is not an idle zero. -/
theorem enc_val : ∀ (l : List Int), Ends l → (enc (val l) = l ↔ (last l ≠ 0 ∨ l.length = 1))
  | [], h => h.elim
  | [x], h => by
    have h0 := h.1
    have h1 := h.2
    have e : val [x] = x.toNat := by simp only [val]; omega
    rw [e, enc_small (by omega)]
    simp
    omega
  | x :: y :: r, h => by
    have ih := enc_val (y :: r) h.2.2
    have hx := h.1
    have hx' := h.2.1
    have e : val (x :: y :: r) = (x % 128).toNat + 128 * val (y :: r) := rfl
    rw [last_cons, e]
    generalize hv : val (y :: r) = v at ih ⊢
    by_cases hz : v = 0
    · subst hz
      have hlt : (x % 128).toNat + 128 * 0 < 128 := by omega
      rw [enc_small hlt]
      have hy := val_last r.length (y :: r) h.2.2 (by simp)
      rw [hv] at hy
      have hl := ends_last h.2.2
      have hp : 0 < 128 ^ r.length := Nat.pow_pos (by omega)
      have h0 : (last (y :: r)).toNat = 0 := by
        rcases Nat.eq_zero_or_pos (last (y :: r)).toNat with h | h
        · exact h
        · have := Nat.mul_pos h hp
          omega
      constructor
      · intro hc
        simp at hc
      · intro hc
        simp at hc
        omega
    · rw [enc_big (by omega)]
      have e1 : ((x % 128).toNat + 128 * v) % 128 + 128 = x.toNat := by omega
      have e2 : ((x % 128).toNat + 128 * v) / 128 = v := by omega
      rw [e1, e2]
      have e3 : ((x.toNat : Nat) : Int) = x := by omega
      rw [e3]
      constructor
      · intro hc
        have hc' : enc v = y :: r := by injection hc
        rcases ih.1 hc' with h | h
        · exact .inl h
        · have hr : r = [] := List.eq_nil_of_length_eq_zero (by simpa using h)
          subst hr
          left
          rw [last_one]
          intro hy0
          subst hy0
          simp [val] at hv
          omega
      · intro hc
        have : last (y :: r) ≠ 0 := by
          rcases hc with h | h
          · exact h
          · simp at h
        rw [ih.2 (.inl this)]

/-- What leb's 'unique' asks of groups that end. -/
def uniq (l : List Int) : Bool := if (decide (l.length = 10) && decide (1 < last l)) = true then false else (last l != 0 || decide (l.length = 1))

theorem uniq_iff (l : List Int) : uniq l = true ↔ (l.length = 10 → last l ≤ 1) ∧ (last l ≠ 0 ∨ l.length = 1) := by
  unfold uniq
  by_cases h : (decide (l.length = 10) && decide (1 < last l)) = true
  · rw [if_pos h]
    simp at h
    simp
    intro h'
    have := h' h.1
    omega
  · rw [if_neg h]
    simp at h
    simp
    intro _ h'
    have := h h'
    omega

theorem val_lt {l : List Int} (h : Ends l) (hl : l.length ≤ 10) (hu : l.length = 10 → last l ≤ 1) : val l < 18446744073709551616 := by
  obtain ⟨k, hk⟩ : ∃ k, l.length = k + 1 := by
    cases l with
    | nil => exact h.elim
    | cons x r => exact ⟨r.length, rfl⟩
  have hv := val_last k l h hk
  have hb := ends_last h
  rcases Nat.lt_or_ge k 9 with h9 | h9
  · have hle : ((last l).toNat + 1) * 128 ^ k ≤ 128 * 128 ^ 8 := Nat.mul_le_mul (by omega) (Nat.pow_le_pow_right (by omega) (by omega))
    have : (128 : Nat) * 128 ^ 8 < 18446744073709551616 := by decide
    omega
  · have hk9 : k = 9 := by omega
    subst hk9
    have hle : ((last l).toNat + 1) * 128 ^ 9 ≤ 2 * 128 ^ 9 := Nat.mul_le_mul_right _ (by have := hu hk; omega)
    have : (2 : Nat) * 128 ^ 9 = 18446744073709551616 := by decide
    omega

/-- Decoding with wrapping, and comparing with the encoding of the result, accepts exactly what 'unique' accepts. -/
theorem uniq_enc {l : List Int} (h : Ends l) (hl : l.length ≤ 10) : (enc (val l % 18446744073709551616) = l ↔ uniq l = true) := by
  rw [uniq_iff]
  constructor
  · intro he
    have hv : val l % 18446744073709551616 = val l := by
      have := congrArg val he
      rwa [val_enc] at this
    rw [hv] at he
    refine ⟨fun h10 => ?_, (enc_val l h).1 he⟩
    have hlow := (val_last 9 l h h10).1
    have hb := ends_last h
    have hlt : val l < 18446744073709551616 := by omega
    have e : (128 : Nat) ^ 9 = 9223372036854775808 := by decide
    rw [e] at hlow
    omega
  · intro hu
    rw [Nat.mod_eq_of_lt (val_lt h hl hu.1)]
    exact (enc_val l h).2 hu.2

/-- How many bytes the number at the front of l has; 0 if none of the first ten ends it. -/
def span (l : List Int) : Nat := match (l.take 10).findIdx? (fun x => decide (x < 128)) with | some k => k + 1 | none => 0

theorem span_hit {l : List Int} {k : Nat} (hk : k < l.length) (h10 : k < 10) (hb : ∀ j, j < k → 128 ≤ l[j]?.getD 0) (hx : l[k]?.getD 0 < 128) : span l = k + 1 := by
  have e : (l.take 10).findIdx? (fun x => decide (x < 128)) = some k := by
    rw [List.findIdx?_eq_some_iff_getElem]
    refine ⟨by simp; omega, ?_, fun j hj => ?_⟩
    · rw [List.getElem?_eq_getElem hk] at hx
      simpa using hx
    · have := hb j hj
      rw [List.getElem?_eq_getElem (by omega)] at this
      simpa using this
  simp [span, e]

theorem span_none {l : List Int} (hb : ∀ j, j < l.length → j < 10 → 128 ≤ l[j]?.getD 0) : span l = 0 := by
  have e : (l.take 10).findIdx? (fun x => decide (x < 128)) = none := by
    rw [List.findIdx?_eq_none_iff]
    intro x hx
    obtain ⟨j, hj, rfl⟩ := List.mem_iff_getElem.1 hx
    simp at hj
    have := hb j (by omega) (by omega)
    rw [List.getElem?_eq_getElem (by omega)] at this
    simpa using this
  simp [span, e]

/-- Either nothing ends within the first ten, or the first that ends stands at 'span'. -/
theorem span_cases (l : List Int) : (span l = 0 ∧ ∀ j, j < l.length → j < 10 → 128 ≤ l[j]?.getD 0) ∨
    ∃ k, span l = k + 1 ∧ k < l.length ∧ k < 10 ∧ (∀ j, j < k → 128 ≤ l[j]?.getD 0) ∧ l[k]?.getD 0 < 128 := by
  rcases h : (l.take 10).findIdx? (fun x => decide (x < 128)) with _ | k
  · left
    refine ⟨by simp [span, h], fun j hj h10 => ?_⟩
    rw [List.findIdx?_eq_none_iff] at h
    have := h l[j] (by rw [List.mem_take_iff_getElem]; exact ⟨j, by omega, rfl⟩)
    rw [List.getElem?_eq_getElem hj]
    simpa using this
  · right
    refine ⟨k, by simp [span, h], ?_⟩
    rw [List.findIdx?_eq_some_iff_getElem] at h
    obtain ⟨hk, hx, hb⟩ := h
    simp at hk
    refine ⟨by omega, by omega, fun j hj => ?_, ?_⟩
    · have := hb j hj
      rw [List.getElem?_eq_getElem (by omega)]
      simpa using this
    · rw [List.getElem?_eq_getElem (by omega)]
      simpa using hx

theorem span_le (l : List Int) : span l ≤ l.length ∧ span l ≤ 10 := by
  rcases span_cases l with ⟨h, _⟩ | ⟨k, h, h1, h2, _⟩ <;> omega

theorem ends_take : ∀ (k : Nat) (l : List Int), Bytes l → k < l.length → (∀ j, j < k → 128 ≤ l[j]?.getD 0) → l[k]?.getD 0 < 128 → Ends (l.take (k + 1))
  | _, [], _, h, _, _ => by simp at h
  | 0, x :: r, hb, _, _, hx => by
    have := hb x (by simp)
    simp at hx
    simp only [Nat.zero_add, List.take_succ_cons, List.take_zero, Ends]
    omega
  | k + 1, x :: r, hb, hk, hj, hx => by
    have h0 := hj 0 (by omega)
    simp at h0
    have hxb := hb x (by simp)
    rw [List.take_succ_cons]
    refine ends_cons h0 hxb.2 (ends_take k r (fun y hy => hb y (by simp [hy])) (by simpa using hk) (fun j hj' => ?_) (by simpa using hx))
    have := hj (j + 1) (by omega)
    simpa using this

theorem ends_span {l : List Int} (hb : Bytes l) (h : span l ≠ 0) : Ends (l.take (span l)) := by
  rcases span_cases l with ⟨h0, _⟩ | ⟨k, h0, h1, h2, h3, h4⟩
  · exact absurd h0 h
  · rw [h0]; exact ends_take k l hb h1 h3 h4

theorem length_span (l : List Int) : (l.take (span l)).length = span l := by
  have := span_le l
  simp; omega

/-- What Take gives for the bytes l from the offset 'at': the number, the offset after it, the error's number. -/
def take (l : List Int) (p : Int) : Nat × Int × Int :=
  if p < 0 ∨ (l.length : Int) < p then (0, 0, 1)
  else if span (l.drop p.toNat) = 0 ∧ (l.drop p.toNat).length < 10 then (0, 0, 7)
  else if span (l.drop p.toNat) = 0 ∨ uniq ((l.drop p.toNat).take (span (l.drop p.toNat))) = false then (0, 0, 4)
  else (val ((l.drop p.toNat).take (span (l.drop p.toNat))), p + span (l.drop p.toNat), 0)

theorem ends_at : ∀ (l r : List Int), Ends l → (∀ j, j < l.length - 1 → 128 ≤ (l ++ r)[j]?.getD 0) ∧ (l ++ r)[l.length - 1]?.getD 0 < 128 ∧ 0 < l.length
  | [], _, h => h.elim
  | [x], r, h => by simp; exact h.2
  | x :: y :: l, r, h => by
    obtain ⟨a, b, _⟩ := ends_at (y :: l) r h.2.2
    refine ⟨fun j hj => ?_, by simpa using b, by simp⟩
    cases j with
    | zero => simpa using h.1
    | succ j => simpa using a j (by simp at hj; simp; omega)

theorem span_ends {l : List Int} (r : List Int) (h : Ends l) (hl : l.length ≤ 10) : span (l ++ r) = l.length := by
  obtain ⟨a, b, c⟩ := ends_at l r h
  rw [span_hit (k := l.length - 1) (by simp; omega) (by omega) a b]
  omega

theorem enc_uniq {n : Nat} (hn : n < 18446744073709551616) : uniq (enc n) = true := by
  rw [← uniq_enc (enc_ends n) (size_le10 hn), val_enc, Nat.mod_eq_of_lt hn]

/-- A number comes back of its bytes, wherever they stand. -/
theorem take_enc (a r : List Int) {n : Nat} (hn : n < 18446744073709551616) : take (a ++ enc n ++ r) a.length = (n, ((a ++ enc n).length : Int), 0) := by
  have hs : span (enc n ++ r) = (enc n).length := span_ends r (enc_ends n) (size_le10 hn)
  have hp : 0 < (enc n).length := size_pos n
  unfold take
  have e1 : (a ++ enc n ++ r).drop ((a.length : Int)).toNat = enc n ++ r := by simp
  rw [e1, hs, if_neg (by simp; omega), if_neg (by omega)]
  have e2 : (enc n ++ r).take (enc n).length = enc n := by simp
  rw [e2, enc_uniq hn, if_neg (fun h => h.elim (fun h => by omega) (fun h => by cases h)), val_enc]
  simp

/-- A byte fewer, and they are too short. -/
theorem take_short (a : List Int) {n : Nat} (hn : n < 18446744073709551616) : take ((a ++ enc n).take ((a ++ enc n).length - 1)) a.length = (0, 0, 7) := by
  have hp : 0 < (enc n).length := size_pos n
  have h10 : (enc n).length ≤ 10 := size_le10 hn
  obtain ⟨h1, _, _⟩ := ends_at (enc n) [] (enc_ends n)
  have e0 : (a ++ enc n).take ((a ++ enc n).length - 1) = a ++ (enc n).take ((enc n).length - 1) := by
    rw [List.take_append]
    simp
    congr 1
    · rw [List.take_of_length_le (by omega)]
    · congr 1; omega
  rw [e0]
  unfold take
  have e1 : (a ++ (enc n).take ((enc n).length - 1)).drop ((a.length : Int)).toNat = (enc n).take ((enc n).length - 1) := by simp
  have hs : span ((enc n).take ((enc n).length - 1)) = 0 := by
    refine span_none fun j hj _ => ?_
    simp at hj
    have := h1 j (by omega)
    rw [List.getElem?_take, if_pos (by omega)]
    simpa using this
  rw [e1, hs, if_neg (by simp; omega), if_pos ⟨rfl, by simp; omega⟩]

/-- What is accepted at the front of l is the encoding of the number alone. -/
theorem take_only {l : List Int} (hb : Bytes l) {k : Nat} {q : Int} (h : take l 0 = (k, q, 0)) : 0 ≤ q ∧ q ≤ l.length ∧ enc k = l.take q.toNat ∧ k < 18446744073709551616 := by
  unfold take at h
  rw [if_neg (by omega)] at h
  simp only [Int.toNat_zero, List.drop_zero] at h
  by_cases h1 : span l = 0 ∧ l.length < 10
  · rw [if_pos h1] at h
    simp at h
  rw [if_neg h1] at h
  by_cases h2 : span l = 0 ∨ uniq (l.take (span l)) = false
  · rw [if_pos h2] at h
    simp at h
  rw [if_neg h2] at h
  simp only [not_or, Bool.not_eq_false] at h2
  injection h with ha hq
  injection hq with hq _
  have hE := ends_span hb h2.1
  have hl := span_le l
  have hlen := length_span l
  have hv := val_lt hE (by omega) ((uniq_iff _).1 h2.2).1
  refine ⟨by omega, by omega, ?_, by omega⟩
  rw [← ha, ← hq]
  have := (uniq_enc hE (by omega)).2 h2.2
  rw [Nat.mod_eq_of_lt hv] at this
  rw [this]
  congr 1
  omega

theorem take_lt {l : List Int} (hb : Bytes l) (p : Int) : (take l p).1 < 18446744073709551616 := by
  unfold take
  split
  · simp
  split
  · simp
  split
  · simp
  · rename_i h
    simp only [not_or, Bool.not_eq_false] at h
    have hl := span_le (l.drop p.toNat)
    have hlen := length_span (l.drop p.toNat)
    exact val_lt (ends_span (hb.drop _) h.1) (by omega) ((uniq_iff _).1 h.2).1

end Go.Proofs.Ytkjnpdnihfohoaa.Leb

/-
  Words for slices of bytes in memory: that a slice value reads as a list of bytes, that the call itself owns one, and what append and the conversion to a string do with them. Conditions: those that each theorem states.
-/
namespace Go.Proofs.Ytkjnpdnihfohoaa
open Go.RowKit Go.Lib Leb

theorem ret_int {k : IntKind} {a b : Int} (h : a = b) : Ending.returned (.int k a) = .returned (.int k b) := by rw [h]
theorem ret_bool {a b : Bool} (h : a = b) : Ending.returned (.bool a) = .returned (.bool b) := by rw [h]

/-- A number of 64 bits (the bound behind a name, out of the walk's sight). -/
def U64 (n : Nat) : Prop := n < 18446744073709551616
theorem U64.out {n : Nat} (h : U64 n) : n < 18446744073709551616 := h
theorem U64.div {n : Nat} (h : U64 n) (k : Nat) : U64 (n / k) := Nat.lt_of_le_of_lt (Nat.div_le_self _ _) h

theorem wrap_of {n : Nat} (h : U64 n) : IntKind.u64.wrap (n : Int) = n := IntWalk.u64_in _ ⟨by omega, by have := h.out; omega⟩
theorem wrap_div {n : Nat} (h : U64 n) : IntKind.u64.wrap ((n : Int) / 128) = ((n / 128 : Nat) : Int) := by
  have := wrap_of (h.div 128)
  simpa using this

/-- The slice value with address A, length n and capacity c reads as the bytes l. -/
structure Holds (w : World) (A : Option Addr) (n c : Nat) (l : List Int) : Prop where
  len : l.length = n
  byt : Bytes l
  cap : n ≤ c
  room : c ≤ maxLen
  bare : A = Option.none → c = 0
  cell : 0 < n → ∃ b off, A = some ⟨b, off, Option.none⟩ ∧ ∀ j, j < n → w.cell? ⟨b, off + j, Option.none⟩ = some (.int .u8 (l[j]?.getD 0))

theorem addr_add (b o j : Nat) : (⟨b, o, Option.none⟩ : Addr).add j = ⟨b, o + j, Option.none⟩ := by
  unfold Addr.add
  split
  · simp_all
  · rfl

section
variable {w w' : World} {A : Option Addr} {n c : Nat} {l : List Int}

theorem Holds.later (h : Holds w A n c l) (hb : Below w.heap.size w w') : Holds w' A n c l :=
  ⟨h.len, h.byt, h.cap, h.room, h.bare, fun hn => by
    obtain ⟨b, off, e, hc⟩ := h.cell hn
    exact ⟨b, off, e, fun j hj => cell_later hb (hc j hj)⟩⟩

theorem Holds.drew (h : Holds w A n c l) : Holds w.drew A n c l := ⟨h.len, h.byt, h.cap, h.room, h.bare, h.cell⟩
theorem Holds.drewN (h : Holds w A n c l) (k : Nat) : Holds (w.drewN k) A n c l := ⟨h.len, h.byt, h.cap, h.room, h.bare, h.cell⟩
theorem Holds.alloc (h : Holds w A n c l) (o : Obj) : Holds (w.alloc o) A n c l := h.later ((Below.refl _ _).alloc (Nat.le_refl _) o)

theorem holds_nil (w : World) : Holds w Option.none 0 0 [] := ⟨rfl, Bytes.nil, Nat.le_refl _, Nat.zero_le _, fun _ => rfl, fun h => absurd h (by omega)⟩

/-- A slice of bytes that came in, as the frame of a law's proof hands it over. -/
theorem holds_of_row {zs : List Int} (h : (A = Option.none ∧ n = 0 ∧ c = 0 ∧ zs = []) ∨
    ∃ x, A = some x ∧ n ≤ c ∧ c ≤ maxLen ∧ zs.length = c ∧ (∀ i, i < zs.length → w.cell? (x.add i) = some (.int .u8 (zs.getD i 0))) ∧ ∀ k ∈ zs, (Lit.int .u8 k).wf = true) : Holds w A n c (zs.take n) := by
  rcases h with ⟨rfl, rfl, rfl, rfl⟩ | ⟨x, rfl, hn, hc, hz, hcell, hwf⟩
  · exact holds_nil w
  · refine ⟨by rw [List.length_take]; omega, fun y hy => ?_, hn, hc, (fun e => by cases e), fun hp => ?_⟩
    · have := bounds_u8 (hwf y (List.mem_of_mem_take hy))
      omega
    · obtain ⟨b, off, spot⟩ := x
      have h0 := hcell 0 (by omega)
      have hs : spot = Option.none := by simpa [Addr.add] using World.cell?_spot h0
      subst hs
      refine ⟨b, off, rfl, fun j hj => ?_⟩
      have := hcell j (by omega)
      rw [addr_add] at this
      rw [this, List.getElem?_take, if_pos hj]
      rfl

theorem nat_of_u64 {x : Int} (h : (Lit.int .u64 x).wf = true) : ∃ m : Nat, x = m ∧ U64 m := by
  have := bounds_u64 h
  exact ⟨x.toNat, by omega, by unfold U64; omega⟩

theorem nat_of_u32 {x : Int} (h : (Lit.int .u32 x).wf = true) : ∃ m : Nat, x = m ∧ m < 4294967296 := by
  have := bounds_u32 h
  exact ⟨x.toNat, by omega, by omega⟩

theorem nat_of_u16 {x : Int} (h : (Lit.int .u16 x).wf = true) : ∃ m : Nat, x = m ∧ m < 65536 := by
  have := bounds_u16 h
  exact ⟨x.toNat, by omega, by omega⟩

theorem nat_of_u8 {x : Int} (h : (Lit.int .u8 x).wf = true) : ∃ m : Nat, x = m ∧ m < 256 := by
  have := bounds_u8 h
  exact ⟨x.toNat, by omega, by omega⟩

/-- The first k bytes. -/
theorem Holds.front (h : Holds w A n c l) {k : Nat} (hk : k ≤ n) : Holds w A k c (l.take k) :=
  ⟨by rw [List.length_take, h.len]; omega, h.byt.take k, Nat.le_trans hk h.cap, h.room, h.bare, fun hp => by
    obtain ⟨b, off, e, hc⟩ := h.cell (by omega)
    refine ⟨b, off, e, fun j hj => ?_⟩
    rw [hc j (by omega), List.getElem?_take, if_pos hj]⟩

/-- A slice of length 0 reads as nothing, wherever it lies. -/
theorem holds_empty (w : World) (A : Option Addr) (c : Nat) (hc : c ≤ maxLen) (hb : A = Option.none → c = 0) : Holds w A 0 c [] :=
  ⟨rfl, Bytes.nil, Nat.zero_le _, hc, hb, fun h => absurd h (by omega)⟩

/-- The bytes from k on, k within. -/
theorem Holds.back {b off : Nat} (h : Holds w (some ⟨b, off, Option.none⟩) n c l) {k : Nat} (hk : k ≤ n) : Holds w (some ⟨b, off + k, Option.none⟩) (n - k) (c - k) (l.drop k) :=
  ⟨by rw [List.length_drop, h.len], h.byt.drop k, by have := h.cap; omega, by have := h.room; omega, (fun e => by cases e), fun hp => by
    obtain ⟨b', off', e, hc⟩ := h.cell (by omega)
    injection e with e
    injection e with e1 e2
    subst e1
    subst e2
    refine ⟨b, off + k, rfl, fun j hj => ?_⟩
    rw [show off + k + j = off + (k + j) by omega, hc (k + j) (by omega), List.getElem?_drop]⟩

/-- A new block of bytes. -/
theorem holds_new (w : World) (e : TypeId) (cs : Array Value) (l : List Int) (hcs : cs = (l.map (Value.int .u8)).toArray) (hb : Bytes l) (hm : l.length ≤ maxLen) :
    Holds (w.alloc (.cells cs e)) (some ⟨w.heap.size, 0, Option.none⟩) l.length l.length l :=
  ⟨rfl, hb, Nat.le_refl _, hm, (fun e => by cases e), fun _ => ⟨w.heap.size, 0, rfl, fun j hj => by
    rw [Nat.zero_add]
    have := cell_of_row (w.alloc (.cells cs e)) w.heap.size j cs e (0, 0) (heap_alloc_new w _)
    rw [this, hcs]
    simp [List.getElem?_eq_getElem hj]⟩⟩

/-- The call owns the slice v, which reads as the bytes l; its block is number 'base' or above. -/
def Owns (w : World) (base : Nat) (e : TypeId) (v : Value) (l : List Int) : Prop := Bytes l ∧ w.ownsRow base e 1 v l.length (l.map (Value.int .u8))

theorem Owns.holds {base : Nat} {e : TypeId} {v : Value} (h : Owns w base e v l) : ∃ A c, v = .slice A l.length c ∧ Holds w A l.length c l := by
  rcases h.2.2 with ⟨rfl, h0⟩ | ⟨g, cap, cur, rfl, hb, hg, hn, hm, hs, ht⟩
  · have hl : l = [] := List.eq_nil_of_length_eq_zero h0
    subst hl
    exact ⟨Option.none, 0, rfl, holds_nil w⟩
  · refine ⟨_, cap, rfl, rfl, h.1, hn, hm, (fun e => by cases e), fun hp => ⟨g, 0, rfl, fun j hj => ?_⟩⟩
    have := (h.2.cells (g := g) rfl) j (.int .u8 (l[j]?.getD 0)) (by simp [List.getElem?_eq_getElem hj])
    rwa [addr_add] at this

/-- A call gives back the bytes l in memory of its own, and changes nothing that was there. -/
def Gives (w : World) (e : TypeId) (l : List Int) (en : Ending) (w' : World) : Prop := ∃ v, en = .returned v ∧ Owns w' w.heap.size e v l ∧ Below w.heap.size w w'

theorem Owns.alloc {base : Nat} {e : TypeId} {v : Value} (h : Owns w base e v l) (o : Obj) : Owns (w.alloc o) base e v l := ⟨h.1, h.2.alloc o⟩

theorem Owns.kept {base : Nat} {e : TypeId} {v : Value} {B : Nat} (h : Owns w base e v l) (hb : Below B w w') (hB : w.heap.size ≤ B) : Owns w' base e v l :=
  ⟨h.1, h.2.kept (row := Option.none) ⟨hb.os, hb.tape, hb.output, hb.size, fun k hk _ => hb.block k (by omega)⟩ (by cases hv : v.ownBlock <;> simp)⟩

theorem owns_lit (w : World) (base : Nat) (e : TypeId) (cs : Array Value) (l : List Int) (hcs : cs = (l.map (Value.int .u8)).toArray) (hb : Bytes l) (hm : l.length ≤ maxLen) (hB : base ≤ w.heap.size) :
    Owns (w.alloc (.cells cs e)) base e (.slice (some ⟨w.heap.size, 0, Option.none⟩) l.length l.length) l := by
  refine ⟨hb, ?_⟩
  have := World.ownsRow_lit (size := 1) (e := e) w cs l.length hB hm (by rw [hcs]; simp)
  rw [hcs] at this ⊢
  simpa using this

theorem Owns.low {base base' : Nat} {e : TypeId} {v : Value} (h : Owns w base e v l) (hB : base' ≤ base) : Owns w base' e v l := by
  refine ⟨h.1, h.2.1, ?_⟩
  rcases h.2.2 with h0 | ⟨g, cap, cur, e1, hb, rest⟩
  · exact .inl h0
  · exact .inr ⟨g, cap, cur, e1, Nat.le_trans hB hb, rest⟩
end

section
variable {P : Program} {w : World}

/-- 'string(b)' of a slice that reads as l. -/
theorem run_text (src dst e : TypeId) (hs : P.underlying src = some (.slice e)) (he : P.underlying e = some (.int .u8)) (hd : P.underlying dst = some .string)
    {A : Option Addr} {n c : Nat} {l : List Int} (h : Holds w A n c l) : (convert src dst (.slice A n c)).run P w = .ok (.string (strOfNums l)) w := by
  by_cases hn : 0 < n
  · obtain ⟨b, off, rfl, hc⟩ := h.cell hn
    exact run_convert_bytes_arg w src e hs he b off n c l h.len hc dst hd
  · have h0 : n = 0 := by omega
    subst h0
    have hl : l = [] := List.eq_nil_of_length_eq_zero h.len
    subst hl
    rw [run_convert_bytes_string w src dst e A 0 c hs he hd]
    have e0 : strOfNums [] = ByteArray.empty := rfl
    rw [e0]
    cases A with
    | none => simp [Conv.bytesToString]
    | some a =>
      have := run_bytesToString (P := P) w a 0 c [] (by simp [loadCells, loadCellsFrom])
      simpa using this

/-- 'string([]byte{..})' -/
theorem text_new (src dst e : TypeId) (hs : P.underlying src = some (.slice e)) (he : P.underlying e = some (.int .u8)) (hd : P.underlying dst = some .string)
    (w : World) (g : Nat) (hg : g = w.heap.size) (cs : Array Value) (l : List Int) (n c : Nat) (hcs : cs = (l.map (Value.int .u8)).toArray) (hb : Bytes l) (hn : n = l.length) (hc : c = l.length) (hm : c ≤ 1000) :
    (convert src dst (.slice (some ⟨g, 0, Option.none⟩) n c)).run P (w.alloc (.cells cs e)) = .ok (.string (strOfNums l)) (w.alloc (.cells cs e)) := by
  subst hg
  subst hn
  subst hc
  exact run_text src dst e hs he hd (holds_new w e cs l hcs hb (by simp only [maxLen]; omega))

theorem text_inj {a b : List Int} (ha : Bytes a) (hb : Bytes b) : ((strOfNums a).toList == (strOfNums b).toList) = decide (a = b) := by
  have e : ∀ l : List Int, (strOfNums l).toList = l.map (fun n => UInt8.ofNat n.toNat) := fun l => by
    rw [strOfNums_toList]; rfl
  rw [e, e]
  by_cases h : a = b
  · subst h; simp
  · rw [decide_eq_false h]
    rw [beq_eq_false_iff_ne]
    intro hc
    apply h
    clear h e
    induction a generalizing b with
    | nil => cases b with
      | nil => rfl
      | cons y s => simp at hc
    | cons x r ih =>
      cases b with
      | nil => simp at hc
      | cons y s =>
        simp only [List.map_cons, List.cons.injEq] at hc
        have hx := ha x (by simp)
        have hy := hb y (by simp)
        have h1 := congrArg UInt8.toNat hc.1
        simp only [UInt8.toNat_ofNat'] at h1
        rw [ih (fun z hz => ha z (by simp [hz])) (fun z hz => hb z (by simp [hz])) hc.2]
        congr 1
        omega

/-- 'append' of whatever reads as bytes onto a slice of the call's own. -/
theorem run_append_bytes (base : Nat) (t ty e : TypeId) (i : TypeInfo) (ht : P.underlying t = some (.slice e)) (hi : P.info? e = some i) (hz : i.zero = some (.int .u8 0)) (hs : i.size = 1) (hb : i.bytes = 1)
    {v : Value} {xs : List Int} (hown : Owns w base e v xs) {A : Option Addr} {m c : Nat} {l : List Int} (h : Holds w A m c l)
    (hlim : xs.length + m ≤ 140737488355328) (hbase : base ≤ w.heap.size) :
    ∃ v' w', (Builtin.append_ #[t, t] ty #[v, .slice A m c]).run P w = .ok v' w' ∧ Owns w' base e v' (xs ++ l) ∧ w.grownBy w' v.ownBlock ∧ (v'.ownBlock = v.ownBlock ∨ v'.ownBlock = some w.heap.size) := by
  have hl := h.len
  subst hl
  cases A with
  | none =>
    have hc := h.bare rfl
    subst hc
    have h0 : l.length = 0 := by have := h.cap; omega
    have hl : l = [] := List.eq_nil_of_length_eq_zero h0
    subst hl
    exact ⟨v, w, run_append_owned_none (P := P) w base t ty e i 1 ht hi v _ _ hown.2, by simpa using hown, World.grownBy.refl w _, .inl rfl⟩
  | some ad =>
    have hcells : ∀ j u, (l.map (Value.int .u8))[j]? = some u → w.cell? (ad.add j) = some u := by
      intro j u hu
      have hj : j < l.length := by
        have := (List.getElem?_eq_some_iff.1 hu).1
        simpa using this
      obtain ⟨b, off, e1, hc⟩ := h.cell (by omega)
      injection e1 with e1
      subst e1
      rw [addr_add, hc j hj]
      simp [List.getElem?_eq_getElem hj] at hu ⊢
      exact hu
    have h63 : xs.length + l.length ≤ maxLen := by simp only [maxLen]; omega
    obtain ⟨v', w', hrun, h2, h3, _, h5⟩ := run_append_own_at (P := P) w base t ty e i _ 1 1 ht hi hz hs hb rfl (by omega) v _ _ hown.2 ad l.length c (l.map (Value.int .u8)) (by simp) hcells (ints_oneCell _ _) h63 (by omega) hbase
    refine ⟨v', w', hrun, ⟨hown.1.append h.byt, ?_⟩, h3, h5⟩
    simpa using h2

theorem wp_append_bytes {o : Oper} {a : Act} {K : Act → World → Prop} {Q : Exit → Act → World → Prop} (s x : Operand) (t : TypeId)
    (ho : o.op = .call { callee := .builtin .append, args := #[s, x], argTypes := #[t, t] })
    (base : Nat) (e : TypeId) (i : TypeInfo) (ht : P.underlying t = some (.slice e)) (hi : P.info? e = some i) (hz : i.zero = some (.int .u8 0)) (hz1 : i.size = 1) (hz2 : i.bytes = 1)
    (v : Value) (xs : List Int) (hs : a.eval s = v) (hown : Owns w base e v xs) (A : Option Addr) (m c : Nat) (l : List Int) (hx : a.eval x = .slice A m c) (h : Holds w A m c l)
    (hlim : xs.length + m ≤ 140737488355328) (hbase : base ≤ w.heap.size)
    (hK : ∀ v' w', Owns w' base e v' (xs ++ l) → w.grownBy w' v.ownBlock → (v'.ownBlock = v.ownBlock ∨ v'.ownBlock = some w.heap.size) → K (a.put o.dst v') w') : o.wp P a w K Q := by
  obtain ⟨v', w', hrun, h2, h3, h4⟩ := run_append_bytes (P := P) base t o.type e i ht hi hz hz1 hz2 hown h hlim hbase
  unfold Oper.wp execOp
  simp only [ho, resolve, invoke, builtin, Sem.run_bind, Sem.run_pure, Result.andThen_ok, List.map_toArray, List.map_cons, List.map_nil, hs, hx, hrun]
  exact hK v' w' h2 h3 h4

theorem wpList_append_bytes {ops : Array Oper} {rest : List Oper} {o : Oper} {a : Act} {Q : Exit → Act → World → Prop} (hgd : o.guard = Option.none) (s x : Operand) (t : TypeId)
    (ho : o.op = .call { callee := .builtin .append, args := #[s, x], argTypes := #[t, t] })
    (base : Nat) (e : TypeId) (i : TypeInfo) (ht : P.underlying t = some (.slice e)) (hi : P.info? e = some i) (hz : i.zero = some (.int .u8 0)) (hz1 : i.size = 1) (hz2 : i.bytes = 1)
    (v : Value) (xs : List Int) (hs : a.eval s = v) (hown : Owns w base e v xs) (A : Option Addr) (m c : Nat) (l : List Int) (hx : a.eval x = .slice A m c) (h : Holds w A m c l)
    (hlim : xs.length + m ≤ 140737488355328) (hbase : base ≤ w.heap.size)
    (hK : ∀ v' w', Owns w' base e v' (xs ++ l) → w.grownBy w' v.ownBlock → (v'.ownBlock = v.ownBlock ∨ v'.ownBlock = some w.heap.size) → wpList P ops Q rest (a.put o.dst v') w') : wpList P ops Q (o :: rest) a w :=
  wpList_plain hgd fun _ hK' => wp_append_bytes s x t ho base e i ht hi hz hz1 hz2 v xs hs hown A m c l hx h hlim hbase fun v' w' h2 h3 h4 => hK' _ _ (hK v' w' h2 h3 h4)

theorem below_make {w' : World} (hg : w.grownBy w' Option.none) : Below w.heap.size w w' := (Below.refl _ _).grown hg (Nat.le_refl _) (fun _ h => by cases h)

/-- Behind an append of the call's own, nothing below B has turned. -/
theorem below_own {B : Nat} {w0 w' : World} {e : TypeId} {v : Value} {xs : List Int} (hb : Below B w0 w) (hown : Owns w B e v xs) (hg : w.grownBy w' v.ownBlock) (hB : B ≤ w.heap.size) : Below B w0 w' :=
  hb.grown hg hB fun k hk => (hown.2.lt k hk).1
end
end Go.Proofs.Ytkjnpdnihfohoaa

/-
  A byte's zero value, its size in cells and in bytes, as the program's table of types has them; and the two ends that many statements share.
-/
namespace Go.Proofs.Ytkjnpdnihfohoaa
open Go.RowKit

theorem Try.info8 : (Try.prog.info? 5).map (fun i => (i.zero, i.size, i.bytes)) = some (some (.int .u8 0), 1, 1) := by kernel_rfl

/-- It returns true, and nothing that was there is changed. -/
def Yes (w : World) (e : Ending) (w' : World) : Prop := e = .returned (.bool true) ∧ Below w.heap.size w w'
end Go.Proofs.Ytkjnpdnihfohoaa

/-
  Words that the texts on strings share: a test over all bytes of a text, its length, its bytes. Conditions: those that each theorem states.
-/
namespace Go.Proofs.Ytkjnpdnihfohoaa
open Go.RowKit Go.Lib

theorem all_step {p : UInt8 → Bool} {l : List UInt8} {k : Nat} (hk : k < l.length) (h : (l.take k).all p = true) (hp : p l[k] = true) : (l.take (k + 1)).all p = true := by
  rw [List.take_add_one, List.all_append, h, List.getElem?_eq_getElem hk]
  simp [hp]
theorem all_stop {p : UInt8 → Bool} {l : List UInt8} {k : Nat} (hk : k < l.length) (hp : p l[k] = false) : l.all p = false := by
  rw [List.all_eq_false]
  exact ⟨l[k], List.getElem_mem hk, by simp [hp]⟩

theorem byte_lt (b : UInt8) : b.toNat < 256 := UInt8.toNat_lt b
theorem size_len (s : ByteArray) : s.size = s.data.toList.length := (Array.length_toList).symm
theorem byte_at (s : ByteArray) (k : Nat) (h : k < s.size) : s[k] = s.data.toList[k]'(by rw [← size_len]; exact h) := rfl

theorem wrap_int {x : Int} (h0 : 0 ≤ x) (h1 : x ≤ 9223372036854775807) : wrap64 x = x := IntWalk.wrap64_in x ⟨by omega, by omega⟩
theorem ret_two {a b : Int} {x y : Bool} (h : a = b) (h' : x = y) : Ending.returned (.tuple #[.int .i64 a, .bool x]) = .returned (.tuple #[.int .i64 b, .bool y]) := by rw [h, h']
end Go.Proofs.Ytkjnpdnihfohoaa

/-
  Plain facts on a text without the white at its ends. No program is spoken of; no condition beyond those that each theorem states.
-/
namespace Go.Proofs.Ytkjnpdnihfohoaa
open Go.RowKit Go.Lib

/-- A text without the white (32 and 9) at its ends. -/
def trim (l : List UInt8) : List UInt8 := Lib.trimS l [32, 9]
def white (b : UInt8) : Bool := [32, 9].contains b

theorem white_iff (b : UInt8) : white b = true ↔ (b.toNat : Int) = 32 ∨ (b.toNat : Int) = 9 := by
  have h : ∀ b : Fin 256, white (UInt8.ofNat b.val) = true ↔ ((b.val : Int) = 32 ∨ (b.val : Int) = 9) := by decide +kernel
  have := h ⟨b.toNat, byte_lt b⟩
  simpa using this

def rtrim (l : List UInt8) : List UInt8 := (l.reverse.dropWhile white).reverse
theorem trim_eq (l : List UInt8) : trim l = (rtrim l).dropWhile white := rfl

theorem rtrim_last {l : List UInt8} {b : UInt8} (h : white b = true) : rtrim (l ++ [b]) = rtrim l := by
  unfold rtrim
  rw [List.reverse_append]
  simp [h]
theorem rtrim_keep {l : List UInt8} {b : UInt8} (h : white b = false) : rtrim (l ++ [b]) = l ++ [b] := by
  unfold rtrim
  rw [List.reverse_append]
  simp [h]
theorem rtrim_first (l : List UInt8) (b : UInt8) (h : white b = true) : rtrim (b :: l) = if (rtrim l).isEmpty then [] else b :: rtrim l := by
  unfold rtrim
  rw [List.reverse_cons, List.dropWhile_append]
  by_cases e : (l.reverse.dropWhile white).isEmpty = true
  · rw [if_pos e]
    simp only [List.isEmpty_iff] at e
    rw [e]
    simp [List.dropWhile, h]
  · rw [if_neg e, List.reverse_append]
    simp only [List.isEmpty_iff] at e
    simp [e]

theorem trim_first {l : List UInt8} {b : UInt8} (h : white b = true) : trim (b :: l) = trim l := by
  rw [trim_eq, trim_eq, rtrim_first l b h]
  by_cases e : (rtrim l).isEmpty = true
  · rw [if_pos e]
    simp only [List.isEmpty_iff] at e
    rw [e]
  · rw [if_neg e]
    simp [List.dropWhile, h]
theorem trim_last {l : List UInt8} {b : UInt8} (h : white b = true) : trim (l ++ [b]) = trim l := by rw [trim_eq, trim_eq, rtrim_last h]

theorem drop_first {l : List UInt8} (h : 0 < l.length) : l = l[0] :: l.drop 1 := by
  cases l with
  | nil => simp at h
  | cons a r => rfl
theorem take_last {l : List UInt8} (h : 0 < l.length) : l = l.take (l.length - 1) ++ [l[l.length - 1]'(by omega)] := by
  have h1 : (l.take (l.length - 1 + 1)) = l := by rw [show l.length - 1 + 1 = l.length by omega, List.take_length]
  conv => lhs; rw [← h1, List.take_add_one, List.getElem?_eq_getElem (show l.length - 1 < l.length by omega)]
  rfl

/-- The first byte is not white. -/
def Lead (l : List UInt8) : Prop := ∀ h : 0 < l.length, white l[0] = false

theorem trim_lead {l : List UInt8} (h : Lead l) (hl : ∀ h : 0 < l.length, white (l[l.length - 1]'(by omega)) = false) : trim l = l := by
  by_cases h0 : 0 < l.length
  · have e := take_last h0
    have hr : rtrim l = l := by
      conv => lhs; rw [e]
      rw [rtrim_keep (hl h0)]
      exact e.symm
    rw [trim_eq, hr]
    have hh := h h0
    cases l with
    | nil => rfl
    | cons a r => simp at hh; simp [List.dropWhile, hh]
  · have : l = [] := List.eq_nil_of_length_eq_zero (by omega)
    subst this
    rfl
theorem Lead.cut {l : List UInt8} (h : Lead l) (k : Nat) : Lead (l.take k) := fun hk => by
  rw [List.length_take] at hk
  rw [List.getElem_take]
  exact h (by omega)

theorem trim_le (l : List UInt8) : (trim l).length ≤ l.length := by
  rw [trim_eq]
  refine Nat.le_trans (List.dropWhile_sublist _).length_le ?_
  unfold rtrim
  rw [List.length_reverse]
  exact Nat.le_trans (List.dropWhile_sublist _).length_le (by simp)

theorem ret_string {a b : ByteArray} (h : a = b) : Ending.returned (.string a) = .returned (.string b) := by rw [h]

/-- How many bytes a value has that is a text. -/
def lenOf (v : Value) : Nat := match v with | .string t => t.size | _ => 0

theorem cut_first {t : ByteArray} (h : 0 < t.size) (hw : white t[0] = true) : trim (t.extract 1 t.size).data.toList = trim t.data.toList ∧ (t.extract 1 t.size).size = t.size - 1 := by
  have h' : 0 < t.data.toList.length := by rw [← size_len]; exact h
  constructor
  · rw [Lib.extract_to_end]
    conv => rhs; rw [drop_first h']
    rw [trim_first (by exact hw)]
  · rw [size_len, Lib.extract_to_end, List.length_drop, size_len]
theorem cut_last {t : ByteArray} (h : 0 < t.size) (hw : white (t[t.size - 1]'(by omega)) = true) : trim (t.extract 0 (t.size - 1)).data.toList = trim t.data.toList ∧ (t.extract 0 (t.size - 1)).size = t.size - 1 ∧ (t.extract 0 (t.size - 1)).data.toList = t.data.toList.take (t.size - 1) := by
  have h' : 0 < t.data.toList.length := by rw [← size_len]; exact h
  have e : (t.extract 0 (t.size - 1)).data.toList = t.data.toList.take (t.size - 1) := by rw [Lib.extract_data]; simp
  refine ⟨?_, ?_, e⟩
  · rw [e]
    conv => rhs; rw [take_last h']
    have hw' : white (t.data.toList[t.data.toList.length - 1]'(by omega)) = true := by
      have := byte_at t (t.size - 1) (by omega)
      rw [this] at hw
      simpa only [size_len] using hw
    rw [trim_last hw', size_len]
  · rw [size_len, e, List.length_take, ← size_len]
    omega

theorem text_kept {u : ByteArray} (hL : Lead u.data.toList) (h0 : 0 < u.size) (hw : ¬ white (u[u.size - 1]'(by omega)) = true) : trim u.data.toList = u.data.toList := by
  refine trim_lead hL fun _ => ?_
  rw [byte_at u (u.size - 1) (by omega)] at hw
  simpa only [size_len, Bool.not_eq_true] using hw
end Go.Proofs.Ytkjnpdnihfohoaa

/-
  Plain facts on a text cut at its commas, and on the parts without white at their ends and without the empty ones. No program is spoken of; no condition beyond those that each theorem states.
-/
namespace Go.Proofs.Ytkjnpdnihfohoaa
open Go.Lib

/-- b ahead of the first part. -/
def ahead (b : UInt8) : List (List UInt8) → List (List UInt8)
  | [] => [[b]]
  | p :: q => (b :: p) :: q

/-- What stands between the commas. -/
def cutAt : List UInt8 → List (List UInt8)
  | [] => [[]]
  | b :: r => if b = 44 then [] :: cutAt r else ahead b (cutAt r)

theorem cut_none {l : List UInt8} (h : ∀ b ∈ l, b ≠ 44) : cutAt l = [l] := by
  induction l with
  | nil => rfl
  | cons b r ih =>
    rw [cutAt, if_neg (h b (by simp)), ih fun x hx => h x (by simp [hx])]
    rfl
theorem cut_comma {p r : List UInt8} (h : ∀ b ∈ p, b ≠ 44) : cutAt (p ++ 44 :: r) = p :: cutAt r := by
  induction p with
  | nil => rw [List.nil_append, cutAt, if_pos rfl]
  | cons b q ih =>
    rw [List.cons_append, cutAt, if_neg (h b (by simp)), ih fun x hx => h x (by simp [hx])]
    rfl

theorem index_44 (r : List UInt8) : Lib.index (44 :: r) [44] = 0 := by simp [Lib.index]
theorem index_ne {b : UInt8} (r : List UInt8) (h : b ≠ 44) : Lib.index (b :: r) [44] = if Lib.index r [44] == -1 then -1 else Lib.index r [44] + 1 := by
  have hp : ([44] : List UInt8).isPrefixOf (b :: r) = false := by simp [List.isPrefixOf, Ne.symm h]
  rw [Lib.index, hp]
  simp

theorem split_cut : ∀ l : List UInt8, Lib.splitK [44] 0 (Lib.count l [44]) l = cutAt l
  | [] => by
    have : Lib.count [] [44] = 0 := by decide
    rw [this]
    rfl
  | b :: r => by
    have ih := split_cut r
    by_cases h : b = 44
    · subst h
      rw [Lib.count_cons_eq, Nat.add_comm 1, Lib.splitK, index_44]
      rw [if_neg (by decide), cutAt, if_pos rfl]
      simpa using ih
    · rw [Lib.count_cons_ne b 44 r h, cutAt, if_neg h, ← ih]
      generalize Lib.count r [44] = k
      cases k with
      | zero => rfl
      | succ k =>
        rw [Lib.splitK, Lib.splitK, index_ne r h]
        by_cases hi : Lib.index r [44] = -1
        · rw [hi]
          rfl
        · have hge := Lib.index_ge r [44]
          have e1 : (Lib.index r [44] == -1) = false := by simpa using hi
          rw [e1]
          simp only [Bool.false_eq_true, if_false]
          have e2 : (Lib.index r [44] + 1 == -1) = false := by
            rw [beq_eq_false_iff_ne]
            omega
          rw [e2]
          simp only [Bool.false_eq_true, if_false]
          obtain ⟨j, hj⟩ : ∃ j : Nat, Lib.index r [44] = j := ⟨(Lib.index r [44]).toNat, by omega⟩
          rw [hj]
          have e3 : ((j : Int) + 1).toNat = j + 1 := by omega
          have e4 : (j : Int).toNat = j := by omega
          rw [e3, e4]
          simp [ahead]

/-- The parts without white at their ends, without the empty ones. -/
def clean (ps : List (List UInt8)) : List (List UInt8) := (ps.map trim).filter fun p => !p.isEmpty
def listOf (l : List UInt8) : List (List UInt8) := clean (cutAt l)

theorem clean_append (a b : List (List UInt8)) : clean (a ++ b) = clean a ++ clean b := by simp [clean]
theorem clean_one (p : List UInt8) : clean [p] = if (trim p).isEmpty then [] else [trim p] := by
  unfold clean
  by_cases h : (trim p).isEmpty = true
  · simp [h]
  · simp [h]
theorem clean_cons (p : List UInt8) (q : List (List UInt8)) : clean (p :: q) = clean [p] ++ clean q := clean_append [p] q

/-- Texts of lists of bytes. -/
def mk (l : List UInt8) : ByteArray := ⟨l.toArray⟩
theorem mk_inj {a b : List UInt8} (h : mk a = mk b) : a = b := by
  have := congrArg (fun t : ByteArray => t.data.toList) h
  simpa [mk] using this
theorem mk_list (l : List UInt8) : (mk l).data.toList = l := by simp [mk]
theorem mk_of (s : ByteArray) : mk s.data.toList = s := Lib.mk_data s
theorem mk_size (l : List UInt8) : (mk l).size = l.length := by rw [size_len, mk_list]

theorem split_parts (s : ByteArray) : Lib.splitB ⟨#[44]⟩ 0 (Lib.countB s ⟨#[44]⟩) s = (cutAt s.data.toList).map mk := by
  have h := Lib.splitB_data ⟨#[44]⟩ 0 (Lib.countB s ⟨#[44]⟩) s
  have h2 : Lib.splitK [44] 0 (Lib.count s.data.toList [44]) s.data.toList = cutAt s.data.toList := split_cut _
  have h3 : (Lib.splitB ⟨#[44]⟩ 0 (Lib.countB s ⟨#[44]⟩) s).map (·.data.toList) = cutAt s.data.toList := h.trans h2
  rw [← h3, List.map_map]
  conv => lhs; rw [← List.map_id (Lib.splitB ⟨#[44]⟩ 0 (Lib.countB s ⟨#[44]⟩) s)]
  apply List.map_congr_left
  intro t _
  exact (mk_of t).symm
theorem split_many (s : ByteArray) : Lib.countB s ⟨#[44]⟩ + 1 = (cutAt s.data.toList).length := by
  have := Lib.splitB_all ⟨#[44]⟩ (by decide) 0 _ s rfl
  rw [split_parts, List.length_map] at this
  exact this.symm

theorem cut_pos (l : List UInt8) : 0 < (cutAt l).length := by
  cases l with
  | nil => simp [cutAt]
  | cons b r =>
    rw [cutAt]
    split
    · simp
    · cases cutAt r <;> simp [ahead]
theorem cut_len (l : List UInt8) : (cutAt l).length ≤ l.length + 1 := by
  induction l with
  | nil => simp [cutAt]
  | cons b r ih =>
    rw [cutAt]
    split
    · simpa using ih
    · cases h : cutAt r with
      | nil => simp [ahead]
      | cons p q => rw [h] at ih; simp [ahead] at ih ⊢; omega
theorem clean_len (ps : List (List UInt8)) : (clean ps).length ≤ ps.length := by
  unfold clean
  exact Nat.le_trans (List.length_filter_le _ _) (by simp)
theorem cut_part_le {l : List UInt8} : ∀ p ∈ cutAt l, p.length ≤ l.length := by
  induction l with
  | nil => intro p hp; simp [cutAt] at hp; simp [hp]
  | cons b r ih =>
    intro p hp
    rw [cutAt] at hp
    split at hp
    · rcases List.mem_cons.1 hp with rfl | hp
      · simp
      · have := ih p hp; simp; omega
    · cases h : cutAt r with
      | nil => rw [h] at hp; simp [ahead] at hp; simp [hp]
      | cons q t =>
        rw [h] at hp ih
        simp only [ahead, List.mem_cons] at hp
        rcases hp with rfl | hp
        · have := ih q (by simp); simp; exact this
        · have := ih p (by simp [hp]); simp; omega
end Go.Proofs.Ytkjnpdnihfohoaa

/-
  Words for slices of strings in memory. Conditions: those that each theorem states.
-/
namespace Go.Proofs.Ytkjnpdnihfohoaa
open Go.RowKit Go.Lib Go.Shelf

/-- The slice value with address A and length n reads as the texts l. -/
structure Texts (w : World) (A : Option Addr) (n : Nat) (l : List (List UInt8)) : Prop where
  len : l.length = n
  cell : 0 < n → ∃ b, A = some ⟨b, 0, Option.none⟩ ∧ b < w.heap.size ∧ ∀ j, j < n → w.cell? ⟨b, j, Option.none⟩ = some (.string (mk (l[j]?.getD [])))

theorem Texts.later {w w' : World} {A : Option Addr} {n : Nat} {l : List (List UInt8)} (h : Texts w A n l) (hb : Below w.heap.size w w') : Texts w' A n l :=
  ⟨h.len, fun hn => by
    obtain ⟨b, e, hlt, hc⟩ := h.cell hn
    exact ⟨b, e, Nat.lt_of_lt_of_le hlt hb.size, fun j hj => cell_later hb (hc j hj)⟩⟩

/-- The call owns the slice v, which reads as the texts l; its block is number 'base' or above. -/
def OwnsT (w : World) (base : Nat) (v : Value) (l : List (List UInt8)) : Prop := w.ownsRow base 9 1 v l.length (l.map fun p => Value.string (mk p))

theorem OwnsT.texts {w : World} {base : Nat} {v : Value} {l : List (List UInt8)} (h : OwnsT w base v l) : ∃ A c, v = .slice A l.length c ∧ Texts w A l.length l := by
  rcases h.2 with ⟨rfl, h0⟩ | ⟨g, cap, cur, rfl, hb, hg, hn, hm, hs, ht⟩
  · have hl : l = [] := List.eq_nil_of_length_eq_zero h0
    subst hl
    exact ⟨Option.none, 0, rfl, rfl, fun hn => absurd hn (by simp)⟩
  · refine ⟨_, cap, rfl, rfl, fun hp => ⟨g, rfl, ?_, fun j hj => ?_⟩⟩
    · rcases Nat.lt_or_ge g w.heap.size with hlt | hge
      · exact hlt
      · rw [Array.getElem?_eq_none hge] at hg; cases hg
    · have := (World.ownsRow.cells h (g := g) rfl) j (.string (mk (l[j]?.getD []))) (by simp [List.getElem?_eq_getElem hj])
      rwa [addr_add, Nat.zero_add] at this
theorem OwnsT.alloc {w : World} {base : Nat} {v : Value} {l : List (List UInt8)} (h : OwnsT w base v l) (o : Obj) : OwnsT (w.alloc o) base v l := World.ownsRow.alloc h o
theorem OwnsT.kept {w w' : World} {base : Nat} {v : Value} {l : List (List UInt8)} {B : Nat} (h : OwnsT w base v l) (hb : Below B w w') (hB : w.heap.size ≤ B) : OwnsT w' base v l :=
  World.ownsRow.kept (row := Option.none) h ⟨hb.os, hb.tape, hb.output, hb.size, fun k hk _ => hb.block k (by omega)⟩ (by cases hv : v.ownBlock <;> simp)
theorem OwnsT.below {w0 w w' : World} {B : Nat} {v : Value} {l : List (List UInt8)} (hown : OwnsT w B v l) (hb : Below B w0 w) (hg : w.grownBy w' v.ownBlock) (hB : B ≤ w.heap.size) : Below B w0 w' :=
  hb.grown hg hB fun k hk => (World.ownsRow.lt hown k hk).1

/-- A new block of texts. -/
theorem texts_new (w : World) (cs : Array Value) (l : List (List UInt8)) (hcs : cs = (l.map fun p => Value.string (mk p)).toArray) : Texts (w.alloc (.cells cs 9)) (some ⟨w.heap.size, 0, Option.none⟩) l.length l :=
  ⟨rfl, fun _ => ⟨w.heap.size, rfl, by simp, fun j hj => by
    have := cell_of_row (w.alloc (.cells cs 9)) w.heap.size j cs 9 (0, 0) (heap_alloc_new w _)
    rw [this, hcs]
    simp [List.getElem?_eq_getElem hj]⟩⟩

theorem Try.info9 : (Try.prog.info? 9).map (fun i => (i.zero, i.size, i.bytes)) = some (some (.string ByteArray.empty), 1, 16) := by kernel_rfl

/-- A call gives back the texts l in memory of its own, and changes nothing that was there. -/
def GivesT (w : World) (l : List (List UInt8)) (en : Ending) (w' : World) : Prop := ∃ v, en = .returned v ∧ OwnsT w' w.heap.size v l ∧ Below w.heap.size w w'

theorem text_eq (a b : List UInt8) : ((mk a).toList == (mk b).toList) = decide (a = b) := by
  rw [ByteArray.toList_eq, ByteArray.toList_eq, mk_list, mk_list]
  by_cases h : a = b
  · simp [h]
  · simp [h]

theorem same_of {a b : List (List UInt8)} (hl : a.length = b.length) (h : ∀ j, j < a.length → a[j]?.getD [] = b[j]?.getD []) : a = b := by
  apply List.ext_getElem hl
  intro j h1 h2
  have := h j h1
  rw [List.getElem?_eq_getElem h1, List.getElem?_eq_getElem h2] at this
  exact this

theorem below_drawn {B : Nat} {a w : World} (h : Below B a w) (n : Nat) : Below B a (w.drewN n) := ⟨h.os, h.tape, h.output, h.size, h.block⟩
end Go.Proofs.Ytkjnpdnihfohoaa

/-
  One rule for a statement whose operations Go may carry out in more than one order: an invariant over the set of operations that are done, shown once for each operation, instead of once for each order; and the single operations, each by its own law. Conditions: those that each theorem states.
-/
namespace Go.Proofs.Ytkjnpdnihfohoaa
open Go.RowKit Leb

section
variable {P : Program} {ops : Array Oper} {Q : Exit → Act → World → Prop}

/-- The operations that must be done before o. -/
def preds (o : Oper) : List Nat := (o.after.toList.filter (Region.binds .any)).map (·.on)

/-- Each operation waits for earlier ones alone. -/
def forwards (ops : Array Oper) : Bool := (List.range ops.size).all fun i => match ops[i]? with | some o => (preds o).all fun k => decide (k < i) | Option.none => true

theorem forwards_spec (h : forwards ops = true) {i : Nat} {o : Oper} (ho : ops[i]? = some o) : ∀ k ∈ preds o, k < i := by
  have hi := (Array.getElem?_eq_some_iff.1 ho).1
  unfold forwards at h
  rw [List.all_eq_true] at h
  have := h i (List.mem_range.2 hi)
  rw [ho] at this
  simp only [List.all_eq_true, decide_eq_true_eq] at this
  exact this

theorem preds_of {o : Oper} {D : Nat → Prop} (h : ∀ e ∈ o.after, Region.binds .any e = true → D e.on) : ∀ k ∈ preds o, D k := by
  intro k hk
  unfold preds at hk
  rw [List.mem_map] at hk
  obtain ⟨e, he, rfl⟩ := hk
  rw [List.mem_filter] at he
  exact h e (by simpa using he.1) he.2

theorem wpAny_inv (I : (Nat → Prop) → Act → World → Prop) (hac : forwards ops = true)
    (step : ∀ D a w i o, I D a w → ops[i]? = some o → ¬ D i → (∀ k ∈ preds o, D k) → wpOp P ops Q i (fun a' w' => I (fun j => D j ∨ j = i) a' w') a w)
    (fin : ∀ D a w, I D a w → (∀ i, i < ops.size → D i) → Q .normal a w) :
    ∀ (fuel : Nat) (listed : Array Bool) (a : Act) (w : World), listed.size = ops.size → listed.toList.countP (! ·) ≤ fuel → I (fun j => listed.getD j false = true) a w → wpAny P .any ops Q fuel listed a w := by
  have all : ∀ (listed : Array Bool), listed.size = ops.size → Region.ready .any ops listed = [] → ∀ i, i < ops.size → listed.getD i false = true := by
    intro listed hs hr i
    induction i using Nat.strongRecOn with
    | ind i ih =>
      intro hi
      cases hd : listed.getD i false with
      | true => rfl
      | false =>
        exfalso
        have ho : ops[i]? = some ops[i] := Array.getElem?_eq_getElem hi
        have : i ∈ Region.ready .any ops listed := by
          rw [mem_ready]
          refine ⟨?_, ops[i], ho, fun e he hb => ?_⟩
          · rw [Array.getD, dif_pos (by omega)] at hd ⊢; exact hd
          · have hk : e.on ∈ preds ops[i] := by
              unfold preds
              rw [List.mem_map]
              exact ⟨e, List.mem_filter.2 ⟨by simpa using he, hb⟩, rfl⟩
            have := forwards_spec hac ho _ hk
            exact ih e.on this (by omega)
        rw [hr] at this
        cases this
  intro fuel
  induction fuel with
  | zero =>
    intro listed a w hs hc hI
    have h0 : ∀ i, i < listed.size → listed.getD i false = true := by
      intro i hi
      have := List.countP_eq_zero.1 (Nat.le_zero.1 hc) listed[i] (by simp)
      rw [Array.getD, dif_pos hi]
      simpa using this
    have hr : Region.ready .any ops listed = [] := by
      apply List.eq_nil_iff_forall_not_mem.2
      intro j hj
      rw [mem_ready] at hj
      obtain ⟨h1, o, ho, _⟩ := hj
      have hj' := (Array.getElem?_eq_some_iff.1 ho).1
      have := h0 j (by omega)
      rw [Array.getD, dif_pos (by omega)] at this h1
      rw [this] at h1
      cases h1
    exact ⟨hr, fin _ a w hI (fun i hi => h0 i (by omega))⟩
  | succ fuel ih =>
    intro listed a w hs hc hI
    refine ⟨fun hr => fin _ a w hI (all listed hs hr), fun i hi => ?_⟩
    rw [mem_ready] at hi
    obtain ⟨h1, o, ho, hpre⟩ := hi
    have hlt := (Array.getElem?_eq_some_iff.1 ho).1
    have hli : listed[i]'(by omega) = false := by rw [Array.getD, dif_pos (by omega)] at h1; exact h1
    have hnd : ¬ listed.getD i false = true := by rw [Array.getD, dif_pos (by omega)]; show ¬ listed[i]'(by omega) = true; rw [hli]; simp
    refine wpOp_mono (fun a' w' h => ?_) (step _ a w i o hI ho hnd (preds_of hpre))
    refine ih (listed.setIfInBounds i true) a' w' (by simpa using hs) ?_ ?_
    · rw [Array.toList_setIfInBounds, List.countP_set (by simpa using (by omega : i < listed.size))]
      have e1 : (! listed.toList[i]'(by simpa using (by omega : i < listed.size))) = true := by simp [hli]
      rw [if_pos e1]
      have hpos : 0 < listed.toList.countP (! ·) := by
        rw [List.countP_pos_iff]
        exact ⟨listed.toList[i]'(by simpa using (by omega : i < listed.size)), List.getElem_mem _, e1⟩
      have e2 : (if (! true) = true then 1 else 0) = 0 := rfl
      rw [e2]
      omega
    · have e : (fun j => (listed.setIfInBounds i true).getD j false = true) = (fun j => listed.getD j false = true ∨ j = i) := by
        funext j
        apply propext
        by_cases hj : j = i
        · subst hj
          have : (listed.setIfInBounds j true).getD j false = true := by
            rw [Array.getD, dif_pos (by simpa using (by omega : j < listed.size))]
            simp
          simp [this]
        · rw [getD_set_ne false (Ne.symm hj)]
          simp [hj]
      rw [e]
      exact h

/-- The rule. -/
theorem wp_region_inv {id : Nat} {a : Act} {w : World} (I : (Nat → Prop) → Act → World → Prop) (hm : P.follows .mixedOrders = true) (hac : forwards ops = true)
    (h0 : I (fun _ => False) a w.drew)
    (step : ∀ D a w i o, I D a w → ops[i]? = some o → ¬ D i → (∀ k ∈ preds o, D k) → wpOp P ops Q i (fun a' w' => I (fun j => D j ∨ j = i) a' w') a w)
    (fin : ∀ D a w, I D a w → (∀ i, i < ops.size → D i) → Q .normal a w) : (Code.region id ops true).wp P Q a w := by
  refine wp_region_any hm (wpAny_inv I hac step fin _ _ _ _ (by simp) ?_ ?_)
  · rw [show (Array.replicate ops.size false).toList = List.replicate ops.size false by simp, List.countP_replicate]
    simp
  · have e : (fun j => (Array.replicate ops.size false).getD j false = true) = (fun _ => False) := by
      funext j
      apply propext
      simp only [iff_false]
      rw [Array.getD]
      split <;> simp
    rw [e]
    exact h0

/-- The operations that must be done before operation number i. -/
def predsAt (ops : Array Oper) (i : Nat) : List Nat := match ops[i]? with | some o => preds o | Option.none => []

/-- The rule, operation by operation: what is done is done with all that it waited for. -/
theorem wp_region_each {id : Nat} {a : Act} {w : World} (I : (Nat → Prop) → Act → World → Prop) (hm : P.follows .mixedOrders = true) (hac : forwards ops = true)
    (h0 : I (fun _ => False) a w.drew)
    (step : ∀ i, i < ops.size → ∀ D a w, I D a w → (∀ j, D j → ∀ k, (predsAt ops j).contains k = true → D k) → ¬ D i → (∀ k, (predsAt ops i).contains k = true → D k) → wpOp P ops Q i (fun a' w' => I (fun j => D j ∨ j = i) a' w') a w)
    (fin : ∀ D a w, I D a w → (∀ i, i < ops.size → D i) → Q .normal a w) : (Code.region id ops true).wp P Q a w := by
  refine wp_region_inv (fun D a w => I D a w ∧ ∀ j, D j → ∀ k, (predsAt ops j).contains k = true → D k) hm hac ⟨h0, fun j hj => hj.elim⟩ ?_ (fun D a w h hall => fin D a w h.1 hall)
  intro D a w i o ⟨hI, hcl⟩ ho hnd hpre
  have hlt := (Array.getElem?_eq_some_iff.1 ho).1
  have hp : ∀ k, (predsAt ops i).contains k = true → D k := by
    intro k hk
    unfold predsAt at hk
    rw [ho] at hk
    exact hpre k (by simpa using hk)
  refine wpOp_mono (fun a' w' h => ⟨h, fun j hj k hk => ?_⟩) (step i hlt D a w hI hcl hnd hp)
  rcases hj with hj | rfl
  · exact .inl (hcl j hj k hk)
  · exact .inl (hp k hk)

/-! ### The slots of a frame that is a letter -/

theorem eval_put_same (a : Act) (d : Nat) (v : Value) (h : d < a.tmps.size) : (a.put (some d) v).eval (.tmp d) = v := by
  simp [Act.eval, Act.put, h]
theorem eval_put_other (a : Act) {d t : Nat} (v : Value) (h : t ≠ d) : (a.put (some d) v).eval (.tmp t) = a.eval (.tmp t) :=
  Act.eval_put (by intro d' hd e; injection hd with hd; injection e with e; subst hd; exact h e)
theorem size_put (a : Act) (d : Option Tmp) (v : Value) : (a.put d v).tmps.size = a.tmps.size := by
  cases d <;> simp [Act.put]
theorem defers_put (a : Act) (d : Option Tmp) (v : Value) : (a.put d v).defers = a.defers := by
  cases d <;> rfl

/-- An operation whose guard is what it asks for, or that has none, is carried out. -/
theorem wanted_free {o : Oper} {y : Nat → Option Bool} (h : o.guard = Option.none) : Region.wanted o y = true := by simp [Region.wanted, h]
theorem wanted_by {o : Oper} {a : Act} {j d : Nat} {b : Bool} (h : o.guard = some (j, b)) (og : Oper) (hj : ops[j]? = some og) (hd : og.dst = some d) (hv : a.eval (.tmp d) = .bool b) : Region.wanted o (yielded ops a.tmps) = true := by
  have hs : a.tmps[d]? = some (.bool b) := by
    simp only [Act.eval, Array.getD_eq_getD_getElem?] at hv
    cases hx : a.tmps[d]? with
    | none => rw [hx] at hv; simp [undef] at hv
    | some x => rw [hx] at hv; simpa using hv
  simp [Region.wanted, h, yielded, hj, hd, hs]

/-- An operation that yields a value. -/
theorem wpOp_value {i : Nat} {o : Oper} {a : Act} {w w' : World} {K : Act → World → Prop} {v : Value} (ho : ops[i]? = some o) (hw : Region.wanted o (yielded ops a.tmps) = true)
    (hr : (execOp a.eval o).run P w = .ok (.value v) w') (hK : K (a.put o.dst v) w') : wpOp P ops Q i K a w :=
  wpOp_step ho fun K' hK' => by rw [if_pos hw]; unfold Oper.wp; rw [hr]; exact hK' _ _ hK

/-- A call of a Go function, by its contract. -/
theorem wpOp_call {i : Nat} {o : Oper} {a : Act} {w : World} {K : Act → World → Prop} (ho : ops[i]? = some o) (hw : Region.wanted o (yielded ops a.tmps) = true)
    (f : FuncId) (vs : Array Value) (hr : (execOp a.eval o).run P w = .ok (.enter f vs) w) {R : Ending → World → Prop} (hc : Calls P f vs w R) (hK : ∀ e w', R e w' → ∃ v, e = .returned v ∧ K (a.put o.dst v) w') : wpOp P ops Q i K a w :=
  wpOp_step ho fun K' hK' => by
    rw [if_pos hw]
    unfold Oper.wp
    rw [hr]
    refine hc.mono fun e w' h => ?_
    obtain ⟨v, rfl, hv⟩ := hK e w' h
    exact hK' _ _ hv

section
variable {i : Nat} {o : Oper} {a : Act} {w w' : World} {K : Act → World → Prop}
theorem wpOp_move (ho : ops[i]? = some o) (hw : Region.wanted o (yielded ops a.tmps) = true) (x : Operand) (hop : o.op = .move x) (v : Value) (hx : a.eval x = v) (hK : K (a.put o.dst v) w) : wpOp P ops Q i K a w :=
  wpOp_value ho hw (v := v) (w' := w) (by simp only [execOp, hop, hx]; rfl) hK
theorem wpOp_assign (ho : ops[i]? = some o) (hw : Region.wanted o (yielded ops a.tmps) = true) (x : Operand) (hop : o.op = .assign x) (v : Value) (hx : a.eval x = v) (hK : K (a.put o.dst v) w) : wpOp P ops Q i K a w :=
  wpOp_value ho hw (v := v) (w' := w) (by simp only [execOp, hop, hx]; rfl) hK
theorem wpOp_pick (ho : ops[i]? = some o) (hw : Region.wanted o (yielded ops a.tmps) = true) (c x y : Operand) (hop : o.op = .pick c x y) (b : Bool) (hc : a.eval c = .bool b) (v : Value) (hv : (if b then a.eval x else a.eval y) = v) (hK : K (a.put o.dst v) w) : wpOp P ops Q i K a w :=
  wpOp_value ho hw (v := v) (w' := w) (by simp only [execOp, hop, hc, ← hv]; rfl) hK
theorem wpOp_convert (ho : ops[i]? = some o) (hw : Region.wanted o (yielded ops a.tmps) = true) (src dst : TypeId) (x : Operand) (hop : o.op = .convert src dst x) (u v : Value) (hx : a.eval x = u) (hr : (convert src dst u).run P w = .ok v w') (hK : K (a.put o.dst v) w') : wpOp P ops Q i K a w :=
  wpOp_value ho hw (v := v) (w' := w') (by simp only [execOp, hop, hx, Sem.run_bind, hr]; rfl) hK
theorem wpOp_build (ho : ops[i]? = some o) (hw : Region.wanted o (yielded ops a.tmps) = true) (t : TypeId) (n : Nat) (ps : Array (Nat × Operand)) (hop : o.op = .buildSlice t n ps) (us : Array (Nat × Value)) (hu : (ps.map fun (k, x) => (k, a.eval x)) = us) (v : Value) (hr : (Instr.buildSlice t n us).run P w = .ok v w') (hK : K (a.put o.dst v) w') : wpOp P ops Q i K a w :=
  wpOp_value ho hw (v := v) (w' := w') (by simp only [execOp, hop, hu, Sem.run_bind, hr]; rfl) hK
theorem wpOp_bin (ho : ops[i]? = some o) (hw : Region.wanted o (yielded ops a.tmps) = true) (op : BinOp) (t t' : TypeId) (x y : Operand) (hop : o.op = .binOp op t x y t') (u u' v : Value) (hx : a.eval x = u) (hy : a.eval y = u')
    (hr : (do eqGuard op t x y u u'; binOp op t u u' : Sem Value).run P w = .ok v w) (hK : K (a.put o.dst v) w) : wpOp P ops Q i K a w :=
  wpOp_value ho hw (v := v) (w' := w) (by
    have := congrArg (fun r : Result Value => r.andThen fun x w'' => (Sem.run P (pure (Next.value x) : Sem Next) w'')) hr
    simp only [execOp, hop, hx, hy]
    rw [Sem.run_bind]
    exact this) hK
theorem wpOp_index (ho : ops[i]? = some o) (hw : Region.wanted o (yielded ops a.tmps) = true) (t : TypeId) (x y : Operand) (hop : o.op = .indexAddr t x y) (u u' v : Value) (hx : a.eval x = u) (hy : a.eval y = u') (hr : (Instr.indexAt t u u').run P w = .ok v w) (hK : K (a.put o.dst v) w) : wpOp P ops Q i K a w :=
  wpOp_value ho hw (v := v) (w' := w) (by simp only [execOp, hop, hx, hy, Sem.run_bind, hr]; rfl) hK
theorem wpOp_load (ho : ops[i]? = some o) (hw : Region.wanted o (yielded ops a.tmps) = true) (t : TypeId) (x : Operand) (hop : o.op = .load t x) (u v : Value) (hx : a.eval x = u) (hr : (Instr.loadAt t u).run P w = .ok v w) (hK : K (a.put o.dst v) w) : wpOp P ops Q i K a w :=
  wpOp_value ho hw (v := v) (w' := w) (by simp only [execOp, hop, hx, Sem.run_bind, hr]; rfl) hK
theorem wpOp_unary (ho : ops[i]? = some o) (hw : Region.wanted o (yielded ops a.tmps) = true) (op : UnOp) (t : TypeId) (x : Operand) (hop : o.op = .unOp op t x) (u v : Value) (hx : a.eval x = u) (hr : (Op.unary op u).run P w = .ok v w) (hK : K (a.put o.dst v) w) : wpOp P ops Q i K a w :=
  wpOp_value ho hw (v := v) (w' := w) (by simp only [execOp, hop, hx, Sem.run_bind, hr]; rfl) hK
theorem wpOp_slice (ho : ops[i]? = some o) (hw : Region.wanted o (yielded ops a.tmps) = true) (t : TypeId) (x : Operand) (lo hi mx : Option Operand) (hop : o.op = .slice t x lo hi mx) (u v : Value) (lo' hi' mx' : Option Value) (hx : a.eval x = u) (h1 : lo.map a.eval = lo') (h2 : hi.map a.eval = hi') (h3 : mx.map a.eval = mx')
    (hr : (Instr.sliceAt t u lo' hi' mx').run P w = .ok v w) (hK : K (a.put o.dst v) w) : wpOp P ops Q i K a w :=
  wpOp_value ho hw (v := v) (w' := w) (by simp only [execOp, hop, hx, h1, h2, h3, Sem.run_bind, hr]; rfl) hK
theorem wpOp_len (ho : ops[i]? = some o) (hw : Region.wanted o (yielded ops a.tmps) = true) (x : Operand) (t : TypeId) (hop : o.op = .call { callee := .builtin .len, args := #[x], argTypes := #[t] }) (e : TypeId) (ht : P.underlying t = some (.slice e)) (A : Option Addr) (n c : Nat) (hx : a.eval x = .slice A n c) (hK : K (a.put o.dst (.int .i64 n)) w) : wpOp P ops Q i K a w :=
  wpOp_value ho hw (v := .int .i64 n) (w' := w) (by
    unfold execOp
    simp only [hop, resolve, invoke, builtin, Sem.run_bind, Sem.run_pure, Result.andThen_ok, List.map_toArray, List.map_cons, List.map_nil, hx]
    simp [Builtin.len_, run_underlying ht, goInt]) hK
theorem wpOp_call0 (ho : ops[i]? = some o) (hw : Region.wanted o (yielded ops a.tmps) = true) (f : FuncId) (ts : Array TypeId) (hop : o.op = .call { callee := .value (.func f), args := #[], argTypes := ts })
    {R : Ending → World → Prop} (hcf : (callFunc f #[]).run P w = .ok (.enter f #[]) w) (hc : Calls P f #[] w R) (hK : ∀ e w', R e w' → ∃ v, e = .returned v ∧ K (a.put o.dst v) w') : wpOp P ops Q i K a w :=
  wpOp_call ho hw f #[] (by
    unfold execOp
    simp only [hop, resolve, Act.eval, Deferred.ofValue, invoke, Sem.run_bind, Sem.run_pure, Result.andThen_ok, List.map_toArray, List.map_nil, Array.append_empty]
    exact hcf) hc hK
theorem wpOp_call1 (ho : ops[i]? = some o) (hw : Region.wanted o (yielded ops a.tmps) = true) (f : FuncId) (x : Operand) (ts : Array TypeId) (hop : o.op = .call { callee := .value (.func f), args := #[x], argTypes := ts }) (u : Value) (hx : a.eval x = u)
    {R : Ending → World → Prop} (hcf : (callFunc f #[u]).run P w = .ok (.enter f #[u]) w) (hc : Calls P f #[u] w R) (hK : ∀ e w', R e w' → ∃ v, e = .returned v ∧ K (a.put o.dst v) w') : wpOp P ops Q i K a w :=
  wpOp_call ho hw f #[u] (by
    subst hx
    unfold execOp
    simp only [hop, resolve, Act.eval, Deferred.ofValue, invoke, Sem.run_bind, Sem.run_pure, Result.andThen_ok, List.map_toArray, List.map_cons, List.map_nil, Array.append_empty]
    exact hcf) hc hK
theorem wpOp_call2 (ho : ops[i]? = some o) (hw : Region.wanted o (yielded ops a.tmps) = true) (f : FuncId) (x y : Operand) (ts : Array TypeId) (hop : o.op = .call { callee := .value (.func f), args := #[x, y], argTypes := ts }) (u u' : Value) (hx : a.eval x = u) (hy : a.eval y = u')
    {R : Ending → World → Prop} (hcf : (callFunc f #[u, u']).run P w = .ok (.enter f #[u, u']) w) (hc : Calls P f #[u, u'] w R) (hK : ∀ e w', R e w' → ∃ v, e = .returned v ∧ K (a.put o.dst v) w') : wpOp P ops Q i K a w :=
  wpOp_call ho hw f #[u, u'] (by
    subst hx
    subst hy
    unfold execOp
    simp only [hop, resolve, Act.eval, Deferred.ofValue, invoke, Sem.run_bind, Sem.run_pure, Result.andThen_ok, List.map_toArray, List.map_cons, List.map_nil, Array.append_empty]
    exact hcf) hc hK
/-- 'append' of whatever reads as bytes onto a slice of the call's own. -/
theorem wpOp_append (ho : ops[i]? = some o) (hw : Region.wanted o (yielded ops a.tmps) = true) (s x : Operand) (t : TypeId) (hop : o.op = .call { callee := .builtin .append, args := #[s, x], argTypes := #[t, t] })
    (base : Nat) (e : TypeId) (inf : TypeInfo) (ht : P.underlying t = some (.slice e)) (hi : P.info? e = some inf) (hz : inf.zero = some (.int .u8 0)) (hz1 : inf.size = 1) (hz2 : inf.bytes = 1)
    (v : Value) (xs : List Int) (hs : a.eval s = v) (hown : Owns w base e v xs) (A : Option Addr) (m c : Nat) (l : List Int) (hx : a.eval x = .slice A m c) (h : Holds w A m c l)
    (hlim : xs.length + m ≤ 140737488355328) (hbase : base ≤ w.heap.size)
    (hK : ∀ v' w', Owns w' base e v' (xs ++ l) → w.grownBy w' v.ownBlock → (v'.ownBlock = v.ownBlock ∨ v'.ownBlock = some w.heap.size) → K (a.put o.dst v') w') : wpOp P ops Q i K a w :=
  wpOp_step ho fun K' hK' => by
    rw [if_pos hw]
    exact wp_append_bytes s x t hop base e inf ht hi hz hz1 hz2 v xs hs hown A m c l hx h hlim hbase fun v' w' h1 h2 h3 => hK' _ _ (hK v' w' h1 h2 h3)
end
end

/-- Every cell that was there holds what it held. -/
structure Keeps (w w' : World) : Prop where
  size : w.heap.size ≤ w'.heap.size
  cell : ∀ a v, w.cell? a = some v → w'.cell? a = some v
theorem Keeps.refl (w : World) : Keeps w w := ⟨Nat.le_refl _, fun _ _ h => h⟩
theorem below_keeps {w w' : World} (hb : Below w.heap.size w w') : Keeps w w' := ⟨hb.size, fun _ _ h => cell_later hb h⟩
theorem Holds.keeps {w w' : World} {A : Option Addr} {n c : Nat} {l : List Int} (h : Holds w A n c l) (hk : Keeps w w') : Holds w' A n c l :=
  ⟨h.len, h.byt, h.cap, h.room, h.bare, fun hn => by
    obtain ⟨b, off, e, hc⟩ := h.cell hn
    exact ⟨b, off, e, fun j hj => hk.cell _ _ (hc j hj)⟩⟩

/-- The mark that '[]byte("..")' lays behind its row changes no cell. -/
theorem cell_freeze (w : World) (p a : Addr) (k : Nat) : (w.freeze p k).cell? a = w.cell? a := by
  unfold World.freeze
  split
  · rfl
  · simp only [World.cell?, Array.getElem?_modify]
    by_cases h : p.block = a.block
    · rw [if_pos h]
      cases hb : w.heap[a.block]? with
      | none => rfl
      | some o => cases o <;> rfl
    · rw [if_neg h]
theorem keeps_freeze (w : World) (p : Addr) (k : Nat) : Keeps w (w.freeze p k) := by
  refine ⟨?_, fun a v h => by rw [cell_freeze]; exact h⟩
  unfold World.freeze
  split
  · exact Nat.le_refl _
  · simp
theorem below_freezes {B : Nat} {a w : World} (h : Below B a w) {p : Addr} (hp : B ≤ p.block) (n : Nat) : Below B a (w.freeze p n) := by
  refine h.trans ⟨?_, ?_, ?_, (keeps_freeze w p n).size, fun k hk => ?_⟩
  · unfold World.freeze; split <;> rfl
  · unfold World.freeze; split <;> rfl
  · unfold World.freeze; split <;> rfl
  · unfold World.freeze
    split
    · rfl
    · simp only [Array.getElem?_modify]
      rw [if_neg (by omega)]
theorem run_mark (P : Program) (w : World) (t e : TypeId) (g n c : Nat) (ht : P.underlying t = some (.slice e)) (he : P.underlying e = some (.int .u8)) :
    ∃ w', (convert t t (.slice (some ⟨g, 0, Option.none⟩) n c)).run P w = .ok (.slice (some ⟨g, 0, Option.none⟩) n c) w' ∧ Keeps w w' ∧ ∀ B a, Below B a w → B ≤ g → Below B a w' := by
  cases hs : w.shape? g with
  | none => exact ⟨w, by simp [convert, run_underlying ht, run_underlying he, markStringish, hs], Keeps.refl w, fun _ _ h _ => h⟩
  | some p => exact ⟨w.freeze ⟨g, p.2, Option.none⟩ 1, by simp [convert, run_underlying ht, run_underlying he, markStringish, hs], keeps_freeze _ _ _, fun _ _ h hB => below_freezes h hB 1⟩

/-- A slot holds a slice that reads as l. -/
def BB (l : List Int) (v : Value) (w : World) : Prop := ∃ A c, v = .slice A l.length c ∧ Holds w A l.length c l
theorem BB.later {l : List Int} {v : Value} {w w' : World} (h : BB l v w) (hb : Below w.heap.size w w') : BB l v w' := by
  obtain ⟨A, c, rfl, hA⟩ := h
  exact ⟨A, c, rfl, hA.later hb⟩

theorem BB.keeps {l : List Int} {v : Value} {w w' : World} (h : BB l v w) (hk : Keeps w w') : BB l v w' := by
  obtain ⟨A, c, rfl, hA⟩ := h
  exact ⟨A, c, rfl, hA.keeps hk⟩

/-- The block of the own slice v is not the one in which u's bytes lie. -/
def Apart (v u : Value) : Prop := ∀ g b off n c, v.ownBlock = some g → u = .slice (some ⟨b, off, Option.none⟩) n c → 0 < n → b ≠ g

theorem Holds.grown {w w' : World} {A : Option Addr} {n c : Nat} {l : List Int} {v : Value} (h : Holds w A n c l) (hg : w.grownBy w' v.ownBlock) (ha : Apart v (.slice A n c)) : Holds w' A n c l :=
  ⟨h.len, h.byt, h.cap, h.room, h.bare, fun hn => by
    obtain ⟨b, off, rfl, hc⟩ := h.cell hn
    refine ⟨b, off, rfl, fun j hj => ?_⟩
    have hlt := World.block_lt_of_cell? w _ (hc 0 hn)
    rw [← hc j hj]
    exact World.cell?_of_block (hg.block b hlt (fun e => ha b b off n c e.symm rfl hn rfl))⟩

theorem BB.grown {l : List Int} {v u : Value} {w w' : World} (h : BB l u w) (hg : w.grownBy w' v.ownBlock) (ha : Apart v u) : BB l u w' := by
  obtain ⟨A, c, rfl, hA⟩ := h
  exact ⟨A, c, rfl, hA.grown hg ha⟩

theorem Holds.block {w : World} {b off n c : Nat} {l : List Int} (h : Holds w (some ⟨b, off, Option.none⟩) n c l) (hn : 0 < n) : b < w.heap.size := by
  obtain ⟨b', off', e, hc⟩ := h.cell hn
  injection e with e
  injection e with e1 e2
  subst e1
  exact World.block_lt_of_cell? w _ (hc 0 hn)

theorem BB.block {w : World} {l : List Int} {u : Value} (h : BB l u w) {b off n c : Nat} (hu : u = .slice (some ⟨b, off, Option.none⟩) n c) (hn : 0 < n) : b < w.heap.size := by
  obtain ⟨A, cc, rfl, hA⟩ := h
  injection hu with h1 h2 h3
  subst h1
  subst h2
  exact hA.block hn

/-! ### The invariant that most regions want: each operation's slot holds what its fact says; all other slots are as they were; memory has at most grown -/

/-- The slots of the operations: no slot twice, all within the frame. -/
def slotsGood (N : Nat) (ds : List Nat) : Bool := decide ds.Nodup && ds.all fun t => decide (t < N)

def slotAt (ds : List Nat) (j : Nat) : Nat := ds[j]?.getD 0

theorem slotAt_mem {ds : List Nat} {j : Nat} (h : j < ds.length) : slotAt ds j ∈ ds := by
  unfold slotAt
  rw [List.getElem?_eq_getElem h]
  exact List.getElem_mem h

theorem slotAt_lt {N : Nat} {ds : List Nat} (hg : slotsGood N ds = true) {j : Nat} (h : j < ds.length) : slotAt ds j < N := by
  unfold slotsGood at hg
  simp only [Bool.and_eq_true, List.all_eq_true, decide_eq_true_eq] at hg
  exact hg.2 _ (slotAt_mem h)

theorem slotAt_ne {N : Nat} {ds : List Nat} (hg : slotsGood N ds = true) {i j : Nat} (hi : i < ds.length) (hj : j < ds.length) (hne : j ≠ i) : slotAt ds j ≠ slotAt ds i := by
  unfold slotsGood at hg
  simp only [Bool.and_eq_true, decide_eq_true_eq] at hg
  unfold slotAt
  rw [List.getElem?_eq_getElem hi, List.getElem?_eq_getElem hj]
  simp only [Option.getD_some]
  intro e
  exact hne ((List.getElem_inj hg.1).1 e)

structure RInv (N : Nat) (ds : List Nat) (a0 : Act) (F : Nat → Value → World → Prop) (w0 : World) (X : (Nat → Prop) → Act → World → Prop) (D : Nat → Prop) (a : Act) (w : World) : Prop where
  size : a.tmps.size = N
  defs : a.defers = a0.defers
  few : ∀ j, D j → j < ds.length
  same : ∀ t, t ∉ ds → a.eval (.tmp t) = a0.eval (.tmp t)
  fact : ∀ j, D j → F j (a.eval (.tmp (slotAt ds j))) w
  more : X D a w
  below : Below w0.heap.size w0 w

section
variable {N : Nat} {ds : List Nat} {a0 : Act} {F : Nat → Value → World → Prop} {w0 : World} {X : (Nat → Prop) → Act → World → Prop} {D : Nat → Prop} {a : Act} {w w' : World}

theorem RInv.start (hs : a0.tmps.size = N) (hX : X (fun _ => False) a0 w) (hb : Below w0.heap.size w0 w) : RInv N ds a0 F w0 X (fun _ => False) a0 w :=
  ⟨hs, rfl, fun _ h => h.elim, fun _ _ => rfl, fun _ h => h.elim, hX, hb⟩

theorem RInv.put {i : Nat} {v : Value} (hg : slotsGood N ds = true) (hI : RInv N ds a0 F w0 X D a w) (hi : i < ds.length)
    (hF : ∀ j, D j → j ≠ i → F j (a.eval (.tmp (slotAt ds j))) w → F j (a.eval (.tmp (slotAt ds j))) w') (hv : F i v w')
    (hX : X (fun j => D j ∨ j = i) (a.put (some (slotAt ds i)) v) w') (hb : Below w0.heap.size w0 w') : RInv N ds a0 F w0 X (fun j => D j ∨ j = i) (a.put (some (slotAt ds i)) v) w' := by
  refine ⟨by rw [size_put, hI.size], by rw [defers_put, hI.defs], fun j hj => hj.elim (hI.few j) (fun e => e ▸ hi), fun t ht => ?_, fun j hj => ?_, hX, hb⟩
  · rw [eval_put_other _ _ (fun e => ht (by rw [e]; exact slotAt_mem hi)), hI.same t ht]
  · by_cases hji : j = i
    · subst hji
      rw [eval_put_same _ _ _ (by rw [hI.size]; exact slotAt_lt hg hi)]
      exact hv
    · have hj' : D j := hj.resolve_right hji
      rw [eval_put_other _ _ (slotAt_ne hg hi (hI.few j hj') hji)]
      exact hF j hj' hji (hI.fact j hj')

/-- No more is asked. -/
def NoMore (_ : Nat → Prop) (_ : Act) (_ : World) : Prop := True

/-- The facts outlive whatever leaves the cells that were there. -/
def Outlives (F : Nat → Value → World → Prop) : Prop := ∀ j v w w', F j v w → Keeps w w' → F j v w'

theorem RInv.addK {i : Nat} {v : Value} (hI : RInv N ds a0 F w0 NoMore D a w) (hg : slotsGood N ds = true) (hl : Outlives F) (hi : i < ds.length) (hk : Keeps w w') (hb : Below w0.heap.size w0 w') (hv : F i v w') :
    RInv N ds a0 F w0 NoMore (fun j => D j ∨ j = i) (a.put (some (slotAt ds i)) v) w' :=
  hI.put hg hi (fun j _ _ h => hl j _ _ _ h hk) hv trivial hb

theorem RInv.add {i : Nat} {v : Value} (hI : RInv N ds a0 F w0 NoMore D a w) (hg : slotsGood N ds = true) (hl : Outlives F) (hi : i < ds.length) (hb : Below w.heap.size w w') (hv : F i v w') :
    RInv N ds a0 F w0 NoMore (fun j => D j ∨ j = i) (a.put (some (slotAt ds i)) v) w' :=
  hI.put hg hi (fun j _ _ h => hl j _ _ _ h (below_keeps hb)) hv trivial (hI.below.trans (hb.mono hI.below.size))

/-- The frame with the slots ds laid anew. -/
def putAll (a0 : Act) : List Nat → List Value → Act
  | d :: ds, u :: us => (putAll a0 ds us).put (some d) u
  | _, _ => a0

theorem putAll_size (a0 : Act) : ∀ (ds : List Nat) (us : List Value), (putAll a0 ds us).tmps.size = a0.tmps.size
  | d :: ds, u :: us => by rw [putAll, size_put, putAll_size a0 ds us]
  | [], _ => rfl
  | _ :: _, [] => rfl
theorem putAll_defers (a0 : Act) : ∀ (ds : List Nat) (us : List Value), (putAll a0 ds us).defers = a0.defers
  | d :: ds, u :: us => by rw [putAll, defers_put, putAll_defers a0 ds us]
  | [], _ => rfl
  | _ :: _, [] => rfl
theorem putAll_other (a0 : Act) : ∀ (ds : List Nat) (us : List Value) (t : Nat), t ∉ ds → (putAll a0 ds us).eval (.tmp t) = a0.eval (.tmp t)
  | d :: ds, u :: us, t, h => by
    rw [putAll, eval_put_other _ _ (fun e => h (by simp [e])), putAll_other a0 ds us t (fun e => h (by simp [e]))]
  | [], _, _, _ => rfl
  | _ :: _, [], _, _ => rfl
theorem putAll_at (a0 : Act) (f : Nat → Value) : ∀ (ds : List Nat), ds.Nodup → (∀ t ∈ ds, t < a0.tmps.size) → ∀ t ∈ ds, (putAll a0 ds (ds.map f)).eval (.tmp t) = f t
  | d :: ds, hn, hs, t, ht => by
    rw [List.map_cons, putAll]
    by_cases e : t = d
    · subst e
      rw [eval_put_same _ _ _ (by rw [putAll_size]; exact hs t (by simp))]
    · rw [eval_put_other _ _ e]
      have hn' := List.nodup_cons.1 hn
      exact putAll_at a0 f ds hn'.2 (fun x hx => hs x (by simp [hx])) t ((List.mem_cons.1 ht).resolve_left e)

theorem act_ext {a b : Act} (h1 : a.tmps.size = b.tmps.size) (h2 : a.defers = b.defers) (h3 : ∀ t, t < a.tmps.size → a.eval (.tmp t) = b.eval (.tmp t)) : a = b := by
  obtain ⟨x, xd⟩ := a
  obtain ⟨y, yd⟩ := b
  simp only at h1 h2 h3
  subst h2
  have : x = y := by
    apply Array.ext h1
    intro t ht ht'
    have := h3 t ht
    simpa [Act.eval, Array.getD, ht, ht'] using this
  rw [this]

/-- Behind the region: the frame written out, and each slot's fact. -/
theorem RInv.done (hI : RInv N ds a0 F w0 X D a w) (hg : slotsGood N ds = true) (hs : a0.tmps.size = N) (hall : ∀ i, i < ds.length → D i) :
    ∃ f : Nat → Value, a = putAll a0 ds (ds.map f) ∧ ∀ j, j < ds.length → F j (f (slotAt ds j)) w := by
  refine ⟨fun t => a.eval (.tmp t), ?_, fun j hj => hI.fact j (hall j hj)⟩
  unfold slotsGood at hg
  simp only [Bool.and_eq_true, List.all_eq_true, decide_eq_true_eq] at hg
  refine act_ext (by rw [putAll_size, hI.size, hs]) (by rw [putAll_defers, hI.defs]) fun t _ => ?_
  by_cases ht : t ∈ ds
  · rw [putAll_at a0 _ ds hg.1 (fun x hx => by rw [hs]; exact hg.2 x hx) t ht]
  · rw [putAll_other a0 ds _ t ht, hI.same t ht]
end
end Go.Proofs.Ytkjnpdnihfohoaa

/-
  Small words on memory that grows. Conditions: those that each theorem states.
-/
namespace Go.Proofs.Ytkjnpdnihfohoaa
open Go.RowKit Go.Lib

theorem below_then {w a b : World} (h : Below w.heap.size w a) (k : Below a.heap.size a b) : Below w.heap.size w b := h.trans (k.mono h.size)
theorem below_box (w : World) (o : Obj) : Below w.heap.size w (w.alloc o) := (Below.refl _ _).alloc (Nat.le_refl _) o
theorem below_boxd (w : World) (o : Obj) : Below w.heap.size w (w.alloc o).drew := (below_box w o).drew
theorem below_undrew {w w' : World} (h : Below w.drew.heap.size w.drew w') : Below w.heap.size w w' := ⟨h.os, h.tape, h.output, h.size, h.block⟩
theorem tiny {n : Nat} (h : n ≤ 1000) : n ≤ maxLen := by simp only [maxLen]; omega
section
variable {P : Program} {ops : Array Oper} {Q : Exit → Act → World → Prop} {i : Nat} {o : Oper} {a : Act} {w : World} {K : Act → World → Prop}
theorem wpOp_field (ho : ops[i]? = some o) (hw : Region.wanted o (yielded ops a.tmps) = true) (t : TypeId) (x : Operand) (k : Nat) (hop : o.op = .fieldAddr t x k) (u v : Value) (hx : a.eval x = u) (hr : (Instr.fieldAt t u k).run P w = .ok v w) (hK : K (a.put o.dst v) w) : wpOp P ops Q i K a w :=
  wpOp_value ho hw (v := v) (w' := w) (by simp only [execOp, hop, hx, Sem.run_bind, hr]; rfl) hK
end
end Go.Proofs.Ytkjnpdnihfohoaa
