/-
  Texts of one sort, one behind the other: numbers, memory, regions, strings, headers. Conditions: those that each theorem states.
-/
import Derived.Lib.Hide
import Derived.WalkKit
import Derived.WalkSpells
import Derived.Maps.AppendAt
import Derived.Laws.BytesArg
import Derived.Lib.Bytes
import Derived.OpenShut
import Derived.Deep.Draws
import Derived.WalkSmall
import Derived.Test.YtalnjlodldhfbaaGreatDoorChecked
import Derived.Lib.SlTrimSet
import Derived.Lib.IndexBytes
import Derived.Lib.SplitLaws
import Derived.Lib.LazyBuf
import Derived.Lib.Join
import Derived.RegionTactic
import Derived.Shelf.Lay
import Derived.Orders
import Derived.RangeFuncNested
import Derived.RangeFuncBound
import Derived.RangeFuncCalls
import Derived.RangeFuncLeaves
import Derived.RangeFuncBox
import Derived.Shelf.Abstract
import Derived.OrdersIn
import Derived.Laws.Rows
import Derived.TacticsIn
import Derived.OwnWalkIn
import Derived.TacticsInMore
import Derived.LoopNIn
import Derived.LoopIn

/-
  Plain facts on the unique encoding of numbers in groups of seven bits: its length, its order, and that decoding gives back the number, and no other bytes do. No program is spoken of here; no condition beyond those that each theorem states.
-/
namespace Go.Proofs.YtalnjlodldhfbaaGreatDoor.Leb

/-- The encoding of n: groups of seven bits, lowest first, 128 added to all but the last. -/
def enc (n : Nat) : List Int := if _h : n < 128 then [(n : Int)] else ((n % 128 + 128 : Nat) : Int) :: enc (n / 128)
termination_by n
decreasing_by omega

theorem enc_small {n : Nat} (h : n < 128) : enc n = [(n : Int)] := by rw [enc, dif_pos h]
theorem enc_big {n : Nat} (h : 128 ≤ n) : enc n = ((n % 128 + 128 : Nat) : Int) :: enc (n / 128) := by rw [enc, dif_neg (by omega)]

/-- The length of the encoding. -/
def size (n : Nat) : Nat := (enc n).length

theorem size_small {n : Nat} (h : n < 128) : size n = 1 := by simp [size, enc_small h]
theorem size_big {n : Nat} (h : 128 ≤ n) : size n = size (n / 128) + 1 := by simp [size, enc_big h]
theorem size_pos (n : Nat) : 1 ≤ size n := by
  by_cases h : n < 128
  · rw [size_small h]; omega
  · rw [size_big (by omega)]; omega

theorem size_le : ∀ (k n : Nat), n < 128 ^ (k + 1) → size n ≤ k + 1
  | 0, n, h => by rw [size_small (by simpa using h)]; omega
  | k + 1, n, h => by
    by_cases hn : n < 128
    · rw [size_small hn]; omega
    · rw [size_big (by omega)]
      have := size_le k (n / 128) (by rw [Nat.div_lt_iff_lt_mul (by omega)]; rw [Nat.pow_succ] at h; exact h)
      omega

theorem size_le10 {n : Nat} (h : n < 18446744073709551616) : size n ≤ 10 :=
  size_le 9 n (Nat.lt_of_lt_of_le h (by decide))

theorem size_mono : ∀ (m n : Nat), m ≤ n → size m ≤ size n := by
  intro m
  induction m using Nat.strongRecOn with
  | ind m ih =>
    intro n h
    by_cases hm : m < 128
    · rw [size_small hm]; exact size_pos n
    · rw [size_big (by omega), size_big (show 128 ≤ n by omega)]
      have := ih (m / 128) (by omega) (n / 128) (Nat.div_le_div_right h)
      omega

/-- All of a list are bytes. -/
def Bytes (l : List Int) : Prop := ∀ x ∈ l, 0 ≤ x ∧ x < 256

theorem Bytes.nil : Bytes [] := fun _ h => by cases h
theorem Bytes.append {a b : List Int} (ha : Bytes a) (hb : Bytes b) : Bytes (a ++ b) := fun x hx => by
  rcases List.mem_append.1 hx with h | h
  · exact ha x h
  · exact hb x h
theorem Bytes.take {a : List Int} (ha : Bytes a) (k : Nat) : Bytes (a.take k) := fun x hx => ha x (List.mem_of_mem_take hx)
theorem Bytes.drop {a : List Int} (ha : Bytes a) (k : Nat) : Bytes (a.drop k) := fun x hx => ha x (List.mem_of_mem_drop hx)
theorem Bytes.getD {a : List Int} (ha : Bytes a) (k : Nat) : 0 ≤ a[k]?.getD 0 ∧ a[k]?.getD 0 ≤ 255 := by
  by_cases h : k < a.length
  · have := ha a[k] (List.getElem_mem h)
    rw [List.getElem?_eq_getElem h]
    simp only [Option.getD_some]
    omega
  · rw [List.getElem?_eq_none (by omega)]
    simp

theorem enc_bytes (n : Nat) : Bytes (enc n) := by
  induction n using Nat.strongRecOn with
  | ind n ih =>
    by_cases h : n < 128
    · rw [enc_small h]; intro x hx; simp at hx; omega
    · rw [enc_big (by omega)]
      intro x hx
      rcases List.mem_cons.1 hx with h | h
      · omega
      · exact ih _ (by omega) x h

/-- The number of groups: the lowest first. -/
def val : List Int → Nat
  | [] => 0
  | x :: r => (x % 128).toNat + 128 * val r

theorem val_enc (n : Nat) : val (enc n) = n := by
  induction n using Nat.strongRecOn with
  | ind n ih =>
    by_cases h : n < 128
    · rw [enc_small h]; simp only [val]; omega
    · rw [enc_big (by omega)]
      simp only [val, ih (n / 128) (by omega)]
      omega

theorem val_snoc : ∀ (l : List Int) (k : Nat), k < l.length → val (l.take (k + 1)) = val (l.take k) + (l[k]?.getD 0 % 128).toNat * 128 ^ k
  | [], _, h => by simp at h
  | x :: r, 0, _ => by simp [val]
  | x :: r, k + 1, h => by
    have ih := val_snoc r k (by simpa using h)
    rw [List.take_succ_cons, List.take_succ_cons]
    simp only [val, ih, List.getElem?_cons_succ]
    generalize (r[k]?.getD 0 % 128).toNat = t
    have e : t * 128 ^ (k + 1) = 128 * (t * 128 ^ k) := by rw [Nat.pow_succ, ← Nat.mul_assoc, Nat.mul_comm]
    rw [e]
    omega

theorem val_take_lt : ∀ (k : Nat) (l : List Int), val (l.take k) < 128 ^ k
  | 0, l => by simp [val]
  | k + 1, [] => by simp only [List.take_nil, val]; exact Nat.pow_pos (by omega)
  | k + 1, x :: r => by
    have ih := val_take_lt k r
    rw [List.take_succ_cons]
    simp only [val]
    rw [Nat.pow_succ]
    omega

theorem val_take_le : ∀ (k : Nat) (l : List Int), val (l.take k) ≤ val l
  | 0, l => by simp [val]
  | k + 1, [] => by simp
  | k + 1, x :: r => by
    have ih := val_take_le k r
    rw [List.take_succ_cons]
    simp only [val]
    omega

theorem enc_inj {m n : Nat} (h : enc m = enc n) : m = n := by rw [← val_enc m, h, val_enc]

/-- Groups that end: all but the last are 128 and above, the last one is below. -/
def Ends : List Int → Prop
  | [] => False
  | [x] => 0 ≤ x ∧ x < 128
  | x :: y :: r => 128 ≤ x ∧ x < 256 ∧ Ends (y :: r)

theorem enc_ne (n : Nat) : enc n ≠ [] := by
  have := size_pos n
  intro h
  simp [size, h] at this

theorem ends_cons {x : Int} {l : List Int} (hx : 128 ≤ x) (hx' : x < 256) (h : Ends l) : Ends (x :: l) := by
  cases l with
  | nil => exact h.elim
  | cons y r => exact ⟨hx, hx', h⟩

theorem enc_ends (n : Nat) : Ends (enc n) := by
  induction n using Nat.strongRecOn with
  | ind n ih =>
    by_cases h : n < 128
    · rw [enc_small h]; exact ⟨by omega, by omega⟩
    · rw [enc_big (by omega)]
      exact ends_cons (by omega) (by omega) (ih _ (by omega))

def last (l : List Int) : Int := l.getLast?.getD 0

theorem last_one (x : Int) : last [x] = x := rfl
theorem last_cons (x y : Int) (l : List Int) : last (x :: y :: l) = last (y :: l) := by simp [last, List.getLast?_cons]

theorem ends_last : ∀ {l : List Int}, Ends l → 0 ≤ last l ∧ last l < 128
  | [], h => h.elim
  | [x], h => h
  | x :: y :: r, h => by rw [last_cons]; exact ends_last h.2.2

/-- The last group, and where the number then lies. -/
theorem val_last : ∀ (k : Nat) (l : List Int), Ends l → l.length = k + 1 → (last l).toNat * 128 ^ k ≤ val l ∧ val l < ((last l).toNat + 1) * 128 ^ k
  | 0, [x], h, _ => by
    have h0 := h.1
    have h1 := h.2
    rw [last_one]
    simp only [val, Nat.pow_zero]
    omega
  | k + 1, x :: y :: r, h, hl => by
    have ih := val_last k (y :: r) h.2.2 (by simpa using hl)
    rw [last_cons, Nat.pow_succ]
    have e : val (x :: y :: r) = (x % 128).toNat + 128 * val (y :: r) := rfl
    rw [e]
    generalize val (y :: r) = v at ih ⊢
    generalize (last (y :: r)).toNat = t at ih ⊢
    have a1 : t * (128 ^ k * 128) = 128 * (t * 128 ^ k) := by rw [← Nat.mul_assoc, Nat.mul_comm]
    have a2 : (t + 1) * (128 ^ k * 128) = 128 * ((t + 1) * 128 ^ k) := by rw [← Nat.mul_assoc, Nat.mul_comm]
    rw [a1, a2]
    omega
  | 0, [], h, _ => h.elim
  | 0, x :: y :: r, _, hl => by simp at hl
  | k + 1, [], h, _ => h.elim
  | k + 1, [x], _, hl => by simp at hl

/-- Groups that end are the encoding of their number exactly if the last one is not an idle zero. -/
theorem enc_val : ∀ (l : List Int), Ends l → (enc (val l) = l ↔ (last l ≠ 0 ∨ l.length = 1))
  | [], h => h.elim
  | [x], h => by
    have h0 := h.1
    have h1 := h.2
    have e : val [x] = x.toNat := by simp only [val]; omega
    rw [e, enc_small (by omega)]
    simp
    omega
  | x :: y :: r, h => by
    have ih := enc_val (y :: r) h.2.2
    have hx := h.1
    have hx' := h.2.1
    have e : val (x :: y :: r) = (x % 128).toNat + 128 * val (y :: r) := rfl
    rw [last_cons, e]
    generalize hv : val (y :: r) = v at ih ⊢
    by_cases hz : v = 0
    · subst hz
      have hlt : (x % 128).toNat + 128 * 0 < 128 := by omega
      rw [enc_small hlt]
      have hy := val_last r.length (y :: r) h.2.2 (by simp)
      rw [hv] at hy
      have hl := ends_last h.2.2
      have hp : 0 < 128 ^ r.length := Nat.pow_pos (by omega)
      have h0 : (last (y :: r)).toNat = 0 := by
        rcases Nat.eq_zero_or_pos (last (y :: r)).toNat with h | h
        · exact h
        · have := Nat.mul_pos h hp
          omega
      constructor
      · intro hc
        simp at hc
      · intro hc
        simp at hc
        omega
    · rw [enc_big (by omega)]
      have e1 : ((x % 128).toNat + 128 * v) % 128 + 128 = x.toNat := by omega
      have e2 : ((x % 128).toNat + 128 * v) / 128 = v := by omega
      rw [e1, e2]
      have e3 : ((x.toNat : Nat) : Int) = x := by omega
      rw [e3]
      constructor
      · intro hc
        have hc' : enc v = y :: r := by injection hc
        rcases ih.1 hc' with h | h
        · exact .inl h
        · have hr : r = [] := List.eq_nil_of_length_eq_zero (by simpa using h)
          subst hr
          left
          rw [last_one]
          intro hy0
          subst hy0
          simp [val] at hv
          omega
      · intro hc
        have : last (y :: r) ≠ 0 := by
          rcases hc with h | h
          · exact h
          · simp at h
        rw [ih.2 (.inl this)]

/-- What leb's 'unique' asks of groups that end. -/
def uniq (l : List Int) : Bool := if (decide (l.length = 10) && decide (1 < last l)) = true then false else (last l != 0 || decide (l.length = 1))

theorem uniq_iff (l : List Int) : uniq l = true ↔ (l.length = 10 → last l ≤ 1) ∧ (last l ≠ 0 ∨ l.length = 1) := by
  unfold uniq
  by_cases h : (decide (l.length = 10) && decide (1 < last l)) = true
  · rw [if_pos h]
    simp at h
    simp
    intro h'
    have := h' h.1
    omega
  · rw [if_neg h]
    simp at h
    simp
    intro _ h'
    have := h h'
    omega

theorem val_lt {l : List Int} (h : Ends l) (hl : l.length ≤ 10) (hu : l.length = 10 → last l ≤ 1) : val l < 18446744073709551616 := by
  obtain ⟨k, hk⟩ : ∃ k, l.length = k + 1 := by
    cases l with
    | nil => exact h.elim
    | cons x r => exact ⟨r.length, rfl⟩
  have hv := val_last k l h hk
  have hb := ends_last h
  rcases Nat.lt_or_ge k 9 with h9 | h9
  · have hle : ((last l).toNat + 1) * 128 ^ k ≤ 128 * 128 ^ 8 := Nat.mul_le_mul (by omega) (Nat.pow_le_pow_right (by omega) (by omega))
    have : (128 : Nat) * 128 ^ 8 < 18446744073709551616 := by decide
    omega
  · have hk9 : k = 9 := by omega
    subst hk9
    have hle : ((last l).toNat + 1) * 128 ^ 9 ≤ 2 * 128 ^ 9 := Nat.mul_le_mul_right _ (by have := hu hk; omega)
    have : (2 : Nat) * 128 ^ 9 = 18446744073709551616 := by decide
    omega

/-- Decoding with wrapping, and comparing with the encoding of the result, accepts exactly what 'unique' accepts. -/
theorem uniq_enc {l : List Int} (h : Ends l) (hl : l.length ≤ 10) : (enc (val l % 18446744073709551616) = l ↔ uniq l = true) := by
  rw [uniq_iff]
  constructor
  · intro he
    have hv : val l % 18446744073709551616 = val l := by
      have := congrArg val he
      rwa [val_enc] at this
    rw [hv] at he
    refine ⟨fun h10 => ?_, (enc_val l h).1 he⟩
    have hlow := (val_last 9 l h h10).1
    have hb := ends_last h
    have hlt : val l < 18446744073709551616 := by omega
    have e : (128 : Nat) ^ 9 = 9223372036854775808 := by decide
    rw [e] at hlow
    omega
  · intro hu
    rw [Nat.mod_eq_of_lt (val_lt h hl hu.1)]
    exact (enc_val l h).2 hu.2

/-- How many bytes the number at the front of l has; 0 if none of the first ten ends it. -/
def span (l : List Int) : Nat := match (l.take 10).findIdx? (fun x => decide (x < 128)) with | some k => k + 1 | none => 0

theorem span_hit {l : List Int} {k : Nat} (hk : k < l.length) (h10 : k < 10) (hb : ∀ j, j < k → 128 ≤ l[j]?.getD 0) (hx : l[k]?.getD 0 < 128) : span l = k + 1 := by
  have e : (l.take 10).findIdx? (fun x => decide (x < 128)) = some k := by
    rw [List.findIdx?_eq_some_iff_getElem]
    refine ⟨by simp; omega, ?_, fun j hj => ?_⟩
    · rw [List.getElem?_eq_getElem hk] at hx
      simpa using hx
    · have := hb j hj
      rw [List.getElem?_eq_getElem (by omega)] at this
      simpa using this
  simp [span, e]

theorem span_none {l : List Int} (hb : ∀ j, j < l.length → j < 10 → 128 ≤ l[j]?.getD 0) : span l = 0 := by
  have e : (l.take 10).findIdx? (fun x => decide (x < 128)) = none := by
    rw [List.findIdx?_eq_none_iff]
    intro x hx
    obtain ⟨j, hj, rfl⟩ := List.mem_iff_getElem.1 hx
    simp at hj
    have := hb j (by omega) (by omega)
    rw [List.getElem?_eq_getElem (by omega)] at this
    simpa using this
  simp [span, e]

/-- Either nothing ends within the first ten, or the first that ends stands at 'span'. -/
theorem span_cases (l : List Int) : (span l = 0 ∧ ∀ j, j < l.length → j < 10 → 128 ≤ l[j]?.getD 0) ∨
    ∃ k, span l = k + 1 ∧ k < l.length ∧ k < 10 ∧ (∀ j, j < k → 128 ≤ l[j]?.getD 0) ∧ l[k]?.getD 0 < 128 := by
  rcases h : (l.take 10).findIdx? (fun x => decide (x < 128)) with _ | k
  · left
    refine ⟨by simp [span, h], fun j hj h10 => ?_⟩
    rw [List.findIdx?_eq_none_iff] at h
    have := h l[j] (by rw [List.mem_take_iff_getElem]; exact ⟨j, by omega, rfl⟩)
    rw [List.getElem?_eq_getElem hj]
    simpa using this
  · right
    refine ⟨k, by simp [span, h], ?_⟩
    rw [List.findIdx?_eq_some_iff_getElem] at h
    obtain ⟨hk, hx, hb⟩ := h
    simp at hk
    refine ⟨by omega, by omega, fun j hj => ?_, ?_⟩
    · have := hb j hj
      rw [List.getElem?_eq_getElem (by omega)]
      simpa using this
    · rw [List.getElem?_eq_getElem (by omega)]
      simpa using hx

theorem span_le (l : List Int) : span l ≤ l.length ∧ span l ≤ 10 := by
  rcases span_cases l with ⟨h, _⟩ | ⟨k, h, h1, h2, _⟩ <;> omega

theorem ends_take : ∀ (k : Nat) (l : List Int), Bytes l → k < l.length → (∀ j, j < k → 128 ≤ l[j]?.getD 0) → l[k]?.getD 0 < 128 → Ends (l.take (k + 1))
  | _, [], _, h, _, _ => by simp at h
  | 0, x :: r, hb, _, _, hx => by
    have := hb x (by simp)
    simp at hx
    simp only [Nat.zero_add, List.take_succ_cons, List.take_zero, Ends]
    omega
  | k + 1, x :: r, hb, hk, hj, hx => by
    have h0 := hj 0 (by omega)
    simp at h0
    have hxb := hb x (by simp)
    rw [List.take_succ_cons]
    refine ends_cons h0 hxb.2 (ends_take k r (fun y hy => hb y (by simp [hy])) (by simpa using hk) (fun j hj' => ?_) (by simpa using hx))
    have := hj (j + 1) (by omega)
    simpa using this

theorem ends_span {l : List Int} (hb : Bytes l) (h : span l ≠ 0) : Ends (l.take (span l)) := by
  rcases span_cases l with ⟨h0, _⟩ | ⟨k, h0, h1, h2, h3, h4⟩
  · exact absurd h0 h
  · rw [h0]; exact ends_take k l hb h1 h3 h4

theorem length_span (l : List Int) : (l.take (span l)).length = span l := by
  have := span_le l
  simp; omega

/-- What Take gives for the bytes l from the offset 'at': the number, the offset after it, the error's number. -/
def take (l : List Int) (p : Int) : Nat × Int × Int :=
  if p < 0 ∨ (l.length : Int) < p then (0, 0, 1)
  else if span (l.drop p.toNat) = 0 ∧ (l.drop p.toNat).length < 10 then (0, 0, 7)
  else if span (l.drop p.toNat) = 0 ∨ uniq ((l.drop p.toNat).take (span (l.drop p.toNat))) = false then (0, 0, 4)
  else (val ((l.drop p.toNat).take (span (l.drop p.toNat))), p + span (l.drop p.toNat), 0)

theorem ends_at : ∀ (l r : List Int), Ends l → (∀ j, j < l.length - 1 → 128 ≤ (l ++ r)[j]?.getD 0) ∧ (l ++ r)[l.length - 1]?.getD 0 < 128 ∧ 0 < l.length
  | [], _, h => h.elim
  | [x], r, h => by simp; exact h.2
  | x :: y :: l, r, h => by
    obtain ⟨a, b, _⟩ := ends_at (y :: l) r h.2.2
    refine ⟨fun j hj => ?_, by simpa using b, by simp⟩
    cases j with
    | zero => simpa using h.1
    | succ j => simpa using a j (by simp at hj; simp; omega)

theorem span_ends {l : List Int} (r : List Int) (h : Ends l) (hl : l.length ≤ 10) : span (l ++ r) = l.length := by
  obtain ⟨a, b, c⟩ := ends_at l r h
  rw [span_hit (k := l.length - 1) (by simp; omega) (by omega) a b]
  omega

theorem enc_uniq {n : Nat} (hn : n < 18446744073709551616) : uniq (enc n) = true := by
  rw [← uniq_enc (enc_ends n) (size_le10 hn), val_enc, Nat.mod_eq_of_lt hn]

/-- A number comes back of its bytes, wherever they stand. -/
theorem take_enc (a r : List Int) {n : Nat} (hn : n < 18446744073709551616) : take (a ++ enc n ++ r) a.length = (n, ((a ++ enc n).length : Int), 0) := by
  have hs : span (enc n ++ r) = (enc n).length := span_ends r (enc_ends n) (size_le10 hn)
  have hp : 0 < (enc n).length := size_pos n
  unfold take
  have e1 : (a ++ enc n ++ r).drop ((a.length : Int)).toNat = enc n ++ r := by simp
  rw [e1, hs, if_neg (by simp; omega), if_neg (by omega)]
  have e2 : (enc n ++ r).take (enc n).length = enc n := by simp
  rw [e2, enc_uniq hn, if_neg (fun h => h.elim (fun h => by omega) (fun h => by cases h)), val_enc]
  simp

/-- A byte fewer, and they are too short. -/
theorem take_short (a : List Int) {n : Nat} (hn : n < 18446744073709551616) : take ((a ++ enc n).take ((a ++ enc n).length - 1)) a.length = (0, 0, 7) := by
  have hp : 0 < (enc n).length := size_pos n
  have h10 : (enc n).length ≤ 10 := size_le10 hn
  obtain ⟨h1, _, _⟩ := ends_at (enc n) [] (enc_ends n)
  have e0 : (a ++ enc n).take ((a ++ enc n).length - 1) = a ++ (enc n).take ((enc n).length - 1) := by
    rw [List.take_append]
    simp
    congr 1
    · rw [List.take_of_length_le (by omega)]
    · congr 1; omega
  rw [e0]
  unfold take
  have e1 : (a ++ (enc n).take ((enc n).length - 1)).drop ((a.length : Int)).toNat = (enc n).take ((enc n).length - 1) := by simp
  have hs : span ((enc n).take ((enc n).length - 1)) = 0 := by
    refine span_none fun j hj _ => ?_
    simp at hj
    have := h1 j (by omega)
    rw [List.getElem?_take, if_pos (by omega)]
    simpa using this
  rw [e1, hs, if_neg (by simp; omega), if_pos ⟨rfl, by simp; omega⟩]

/-- What is accepted at the front of l is the encoding of the number alone. -/
theorem take_only {l : List Int} (hb : Bytes l) {k : Nat} {q : Int} (h : take l 0 = (k, q, 0)) : 0 ≤ q ∧ q ≤ l.length ∧ enc k = l.take q.toNat ∧ k < 18446744073709551616 := by
  unfold take at h
  rw [if_neg (by omega)] at h
  simp only [Int.toNat_zero, List.drop_zero] at h
  by_cases h1 : span l = 0 ∧ l.length < 10
  · rw [if_pos h1] at h
    simp at h
  rw [if_neg h1] at h
  by_cases h2 : span l = 0 ∨ uniq (l.take (span l)) = false
  · rw [if_pos h2] at h
    simp at h
  rw [if_neg h2] at h
  simp only [not_or, Bool.not_eq_false] at h2
  injection h with ha hq
  injection hq with hq _
  have hE := ends_span hb h2.1
  have hl := span_le l
  have hlen := length_span l
  have hv := val_lt hE (by omega) ((uniq_iff _).1 h2.2).1
  refine ⟨by omega, by omega, ?_, by omega⟩
  rw [← ha, ← hq]
  have := (uniq_enc hE (by omega)).2 h2.2
  rw [Nat.mod_eq_of_lt hv] at this
  rw [this]
  congr 1
  omega

theorem take_lt {l : List Int} (hb : Bytes l) (p : Int) : (take l p).1 < 18446744073709551616 := by
  unfold take
  split
  · simp
  split
  · simp
  split
  · simp
  · rename_i h
    simp only [not_or, Bool.not_eq_false] at h
    have hl := span_le (l.drop p.toNat)
    have hlen := length_span (l.drop p.toNat)
    exact val_lt (ends_span (hb.drop _) h.1) (by omega) ((uniq_iff _).1 h.2).1

end Go.Proofs.YtalnjlodldhfbaaGreatDoor.Leb

/-
  Words for slices of bytes in memory: that a slice value reads as a list of bytes, that the call itself owns one, and what append and the conversion to a string do with them. Conditions: those that each theorem states.
-/
namespace Go.Proofs.YtalnjlodldhfbaaGreatDoor
open Go.RowKit Go.Lib Leb

theorem ret_int {k : IntKind} {a b : Int} (h : a = b) : Ending.returned (.int k a) = .returned (.int k b) := by rw [h]
theorem ret_bool {a b : Bool} (h : a = b) : Ending.returned (.bool a) = .returned (.bool b) := by rw [h]

/-- A number of 64 bits (the bound behind a name, out of the walk's sight). -/
def U64 (n : Nat) : Prop := n < 18446744073709551616
theorem U64.out {n : Nat} (h : U64 n) : n < 18446744073709551616 := h
theorem U64.div {n : Nat} (h : U64 n) (k : Nat) : U64 (n / k) := Nat.lt_of_le_of_lt (Nat.div_le_self _ _) h

theorem wrap_of {n : Nat} (h : U64 n) : IntKind.u64.wrap (n : Int) = n := IntWalk.u64_in _ ⟨by omega, by have := h.out; omega⟩
theorem wrap_div {n : Nat} (h : U64 n) : IntKind.u64.wrap ((n : Int) / 128) = ((n / 128 : Nat) : Int) := by
  have := wrap_of (h.div 128)
  simpa using this

/-- The slice value with address A, length n and capacity c reads as the bytes l. -/
structure Holds (w : World) (A : Option Addr) (n c : Nat) (l : List Int) : Prop where
  len : l.length = n
  byt : Bytes l
  cap : n ≤ c
  room : c ≤ maxLen
  bare : A = Option.none → c = 0
  cell : 0 < n → ∃ b off, A = some ⟨b, off, Option.none⟩ ∧ ∀ j, j < n → w.cell? ⟨b, off + j, Option.none⟩ = some (.int .u8 (l[j]?.getD 0))

theorem addr_add (b o j : Nat) : (⟨b, o, Option.none⟩ : Addr).add j = ⟨b, o + j, Option.none⟩ := by
  unfold Addr.add
  split
  · simp_all
  · rfl

section
variable {w w' : World} {A : Option Addr} {n c : Nat} {l : List Int}

theorem Holds.later (h : Holds w A n c l) (hb : Below w.heap.size w w') : Holds w' A n c l :=
  ⟨h.len, h.byt, h.cap, h.room, h.bare, fun hn => by
    obtain ⟨b, off, e, hc⟩ := h.cell hn
    exact ⟨b, off, e, fun j hj => cell_later hb (hc j hj)⟩⟩

theorem Holds.drew (h : Holds w A n c l) : Holds w.drew A n c l := ⟨h.len, h.byt, h.cap, h.room, h.bare, h.cell⟩
theorem Holds.drewN (h : Holds w A n c l) (k : Nat) : Holds (w.drewN k) A n c l := ⟨h.len, h.byt, h.cap, h.room, h.bare, h.cell⟩
theorem Holds.alloc (h : Holds w A n c l) (o : Obj) : Holds (w.alloc o) A n c l := h.later ((Below.refl _ _).alloc (Nat.le_refl _) o)

theorem holds_nil (w : World) : Holds w Option.none 0 0 [] := ⟨rfl, Bytes.nil, Nat.le_refl _, Nat.zero_le _, fun _ => rfl, fun h => absurd h (by omega)⟩

/-- A slice of bytes that came in, as the frame of a law's proof hands it over. -/
theorem holds_of_row {zs : List Int} (h : (A = Option.none ∧ n = 0 ∧ c = 0 ∧ zs = []) ∨
    ∃ x, A = some x ∧ n ≤ c ∧ c ≤ maxLen ∧ zs.length = c ∧ (∀ i, i < zs.length → w.cell? (x.add i) = some (.int .u8 (zs.getD i 0))) ∧ ∀ k ∈ zs, (Lit.int .u8 k).wf = true) : Holds w A n c (zs.take n) := by
  rcases h with ⟨rfl, rfl, rfl, rfl⟩ | ⟨x, rfl, hn, hc, hz, hcell, hwf⟩
  · exact holds_nil w
  · refine ⟨by rw [List.length_take]; omega, fun y hy => ?_, hn, hc, (fun e => by cases e), fun hp => ?_⟩
    · have := bounds_u8 (hwf y (List.mem_of_mem_take hy))
      omega
    · obtain ⟨b, off, spot⟩ := x
      have h0 := hcell 0 (by omega)
      have hs : spot = Option.none := by simpa [Addr.add] using World.cell?_spot h0
      subst hs
      refine ⟨b, off, rfl, fun j hj => ?_⟩
      have := hcell j (by omega)
      rw [addr_add] at this
      rw [this, List.getElem?_take, if_pos hj]
      rfl

theorem nat_of_u64 {x : Int} (h : (Lit.int .u64 x).wf = true) : ∃ m : Nat, x = m ∧ U64 m := by
  have := bounds_u64 h
  exact ⟨x.toNat, by omega, by unfold U64; omega⟩

theorem nat_of_u32 {x : Int} (h : (Lit.int .u32 x).wf = true) : ∃ m : Nat, x = m ∧ m < 4294967296 := by
  have := bounds_u32 h
  exact ⟨x.toNat, by omega, by omega⟩

theorem nat_of_u16 {x : Int} (h : (Lit.int .u16 x).wf = true) : ∃ m : Nat, x = m ∧ m < 65536 := by
  have := bounds_u16 h
  exact ⟨x.toNat, by omega, by omega⟩

theorem nat_of_u8 {x : Int} (h : (Lit.int .u8 x).wf = true) : ∃ m : Nat, x = m ∧ m < 256 := by
  have := bounds_u8 h
  exact ⟨x.toNat, by omega, by omega⟩

/-- The first k bytes. -/
theorem Holds.front (h : Holds w A n c l) {k : Nat} (hk : k ≤ n) : Holds w A k c (l.take k) :=
  ⟨by rw [List.length_take, h.len]; omega, h.byt.take k, Nat.le_trans hk h.cap, h.room, h.bare, fun hp => by
    obtain ⟨b, off, e, hc⟩ := h.cell (by omega)
    refine ⟨b, off, e, fun j hj => ?_⟩
    rw [hc j (by omega), List.getElem?_take, if_pos hj]⟩

/-- A slice of length 0 reads as nothing, wherever it lies. -/
theorem holds_empty (w : World) (A : Option Addr) (c : Nat) (hc : c ≤ maxLen) (hb : A = Option.none → c = 0) : Holds w A 0 c [] :=
  ⟨rfl, Bytes.nil, Nat.zero_le _, hc, hb, fun h => absurd h (by omega)⟩

/-- The bytes from k on, k within. -/
theorem Holds.back {b off : Nat} (h : Holds w (some ⟨b, off, Option.none⟩) n c l) {k : Nat} (hk : k ≤ n) : Holds w (some ⟨b, off + k, Option.none⟩) (n - k) (c - k) (l.drop k) :=
  ⟨by rw [List.length_drop, h.len], h.byt.drop k, by have := h.cap; omega, by have := h.room; omega, (fun e => by cases e), fun hp => by
    obtain ⟨b', off', e, hc⟩ := h.cell (by omega)
    injection e with e
    injection e with e1 e2
    subst e1
    subst e2
    refine ⟨b, off + k, rfl, fun j hj => ?_⟩
    rw [show off + k + j = off + (k + j) by omega, hc (k + j) (by omega), List.getElem?_drop]⟩

/-- A new block of bytes. -/
theorem holds_new (w : World) (e : TypeId) (cs : Array Value) (l : List Int) (hcs : cs = (l.map (Value.int .u8)).toArray) (hb : Bytes l) (hm : l.length ≤ maxLen) :
    Holds (w.alloc (.cells cs e)) (some ⟨w.heap.size, 0, Option.none⟩) l.length l.length l :=
  ⟨rfl, hb, Nat.le_refl _, hm, (fun e => by cases e), fun _ => ⟨w.heap.size, 0, rfl, fun j hj => by
    rw [Nat.zero_add]
    have := cell_of_row (w.alloc (.cells cs e)) w.heap.size j cs e (0, 0) (heap_alloc_new w _)
    rw [this, hcs]
    simp [List.getElem?_eq_getElem hj]⟩⟩

/-- The call owns the slice v, which reads as the bytes l; its block is number 'base' or above. -/
def Owns (w : World) (base : Nat) (e : TypeId) (v : Value) (l : List Int) : Prop := Bytes l ∧ w.ownsRow base e 1 v l.length (l.map (Value.int .u8))

theorem Owns.holds {base : Nat} {e : TypeId} {v : Value} (h : Owns w base e v l) : ∃ A c, v = .slice A l.length c ∧ Holds w A l.length c l := by
  rcases h.2.2 with ⟨rfl, h0⟩ | ⟨g, cap, cur, rfl, hb, hg, hn, hm, hs, ht⟩
  · have hl : l = [] := List.eq_nil_of_length_eq_zero h0
    subst hl
    exact ⟨Option.none, 0, rfl, holds_nil w⟩
  · refine ⟨_, cap, rfl, rfl, h.1, hn, hm, (fun e => by cases e), fun hp => ⟨g, 0, rfl, fun j hj => ?_⟩⟩
    have := (h.2.cells (g := g) rfl) j (.int .u8 (l[j]?.getD 0)) (by simp [List.getElem?_eq_getElem hj])
    rwa [addr_add] at this

/-- A call gives back the bytes l in memory of its own, and changes nothing that was there. -/
def Gives (w : World) (e : TypeId) (l : List Int) (en : Ending) (w' : World) : Prop := ∃ v, en = .returned v ∧ Owns w' w.heap.size e v l ∧ Below w.heap.size w w'

theorem Owns.alloc {base : Nat} {e : TypeId} {v : Value} (h : Owns w base e v l) (o : Obj) : Owns (w.alloc o) base e v l := ⟨h.1, h.2.alloc o⟩

theorem Owns.kept {base : Nat} {e : TypeId} {v : Value} {B : Nat} (h : Owns w base e v l) (hb : Below B w w') (hB : w.heap.size ≤ B) : Owns w' base e v l :=
  ⟨h.1, h.2.kept (row := Option.none) ⟨hb.os, hb.tape, hb.output, hb.size, fun k hk _ => hb.block k (by omega)⟩ (by cases hv : v.ownBlock <;> simp)⟩

theorem owns_lit (w : World) (base : Nat) (e : TypeId) (cs : Array Value) (l : List Int) (hcs : cs = (l.map (Value.int .u8)).toArray) (hb : Bytes l) (hm : l.length ≤ maxLen) (hB : base ≤ w.heap.size) :
    Owns (w.alloc (.cells cs e)) base e (.slice (some ⟨w.heap.size, 0, Option.none⟩) l.length l.length) l := by
  refine ⟨hb, ?_⟩
  have := World.ownsRow_lit (size := 1) (e := e) w cs l.length hB hm (by rw [hcs]; simp)
  rw [hcs] at this ⊢
  simpa using this

theorem Owns.low {base base' : Nat} {e : TypeId} {v : Value} (h : Owns w base e v l) (hB : base' ≤ base) : Owns w base' e v l := by
  refine ⟨h.1, h.2.1, ?_⟩
  rcases h.2.2 with h0 | ⟨g, cap, cur, e1, hb, rest⟩
  · exact .inl h0
  · exact .inr ⟨g, cap, cur, e1, Nat.le_trans hB hb, rest⟩
end

section
variable {P : Program} {w : World}

/-- 'string(b)' of a slice that reads as l. -/
theorem run_text (src dst e : TypeId) (hs : P.underlying src = some (.slice e)) (he : P.underlying e = some (.int .u8)) (hd : P.underlying dst = some .string)
    {A : Option Addr} {n c : Nat} {l : List Int} (h : Holds w A n c l) : (convert src dst (.slice A n c)).run P w = .ok (.string (strOfNums l)) w := by
  by_cases hn : 0 < n
  · obtain ⟨b, off, rfl, hc⟩ := h.cell hn
    exact run_convert_bytes_arg w src e hs he b off n c l h.len hc dst hd
  · have h0 : n = 0 := by omega
    subst h0
    have hl : l = [] := List.eq_nil_of_length_eq_zero h.len
    subst hl
    rw [run_convert_bytes_string w src dst e A 0 c hs he hd]
    have e0 : strOfNums [] = ByteArray.empty := rfl
    rw [e0]
    cases A with
    | none => simp [Conv.bytesToString]
    | some a =>
      have := run_bytesToString (P := P) w a 0 c [] (by simp [loadCells, loadCellsFrom])
      simpa using this

/-- 'string([]byte{..})' -/
theorem text_new (src dst e : TypeId) (hs : P.underlying src = some (.slice e)) (he : P.underlying e = some (.int .u8)) (hd : P.underlying dst = some .string)
    (w : World) (g : Nat) (hg : g = w.heap.size) (cs : Array Value) (l : List Int) (n c : Nat) (hcs : cs = (l.map (Value.int .u8)).toArray) (hb : Bytes l) (hn : n = l.length) (hc : c = l.length) (hm : c ≤ 1000) :
    (convert src dst (.slice (some ⟨g, 0, Option.none⟩) n c)).run P (w.alloc (.cells cs e)) = .ok (.string (strOfNums l)) (w.alloc (.cells cs e)) := by
  subst hg
  subst hn
  subst hc
  exact run_text src dst e hs he hd (holds_new w e cs l hcs hb (by simp only [maxLen]; omega))

theorem text_inj {a b : List Int} (ha : Bytes a) (hb : Bytes b) : ((strOfNums a).toList == (strOfNums b).toList) = decide (a = b) := by
  have e : ∀ l : List Int, (strOfNums l).toList = l.map (fun n => UInt8.ofNat n.toNat) := fun l => by
    rw [strOfNums_toList]; rfl
  rw [e, e]
  by_cases h : a = b
  · subst h; simp
  · rw [decide_eq_false h]
    rw [beq_eq_false_iff_ne]
    intro hc
    apply h
    clear h e
    induction a generalizing b with
    | nil => cases b with
      | nil => rfl
      | cons y s => simp at hc
    | cons x r ih =>
      cases b with
      | nil => simp at hc
      | cons y s =>
        simp only [List.map_cons, List.cons.injEq] at hc
        have hx := ha x (by simp)
        have hy := hb y (by simp)
        have h1 := congrArg UInt8.toNat hc.1
        simp only [UInt8.toNat_ofNat'] at h1
        rw [ih (fun z hz => ha z (by simp [hz])) (fun z hz => hb z (by simp [hz])) hc.2]
        congr 1
        omega

/-- 'append' of whatever reads as bytes onto a slice of the call's own. -/
theorem run_append_bytes (base : Nat) (t ty e : TypeId) (i : TypeInfo) (ht : P.underlying t = some (.slice e)) (hi : P.info? e = some i) (hz : i.zero = some (.int .u8 0)) (hs : i.size = 1) (hb : i.bytes = 1)
    {v : Value} {xs : List Int} (hown : Owns w base e v xs) {A : Option Addr} {m c : Nat} {l : List Int} (h : Holds w A m c l)
    (hlim : xs.length + m ≤ 140737488355328) (hbase : base ≤ w.heap.size) :
    ∃ v' w', (Builtin.append_ #[t, t] ty #[v, .slice A m c]).run P w = .ok v' w' ∧ Owns w' base e v' (xs ++ l) ∧ w.grownBy w' v.ownBlock ∧ (v'.ownBlock = v.ownBlock ∨ v'.ownBlock = some w.heap.size) := by
  have hl := h.len
  subst hl
  cases A with
  | none =>
    have hc := h.bare rfl
    subst hc
    have h0 : l.length = 0 := by have := h.cap; omega
    have hl : l = [] := List.eq_nil_of_length_eq_zero h0
    subst hl
    exact ⟨v, w, run_append_owned_none (P := P) w base t ty e i 1 ht hi v _ _ hown.2, by simpa using hown, World.grownBy.refl w _, .inl rfl⟩
  | some ad =>
    have hcells : ∀ j u, (l.map (Value.int .u8))[j]? = some u → w.cell? (ad.add j) = some u := by
      intro j u hu
      have hj : j < l.length := by
        have := (List.getElem?_eq_some_iff.1 hu).1
        simpa using this
      obtain ⟨b, off, e1, hc⟩ := h.cell (by omega)
      injection e1 with e1
      subst e1
      rw [addr_add, hc j hj]
      simp [List.getElem?_eq_getElem hj] at hu ⊢
      exact hu
    have h63 : xs.length + l.length ≤ maxLen := by simp only [maxLen]; omega
    obtain ⟨v', w', hrun, h2, h3, _, h5⟩ := run_append_own_at (P := P) w base t ty e i _ 1 1 ht hi hz hs hb rfl (by omega) v _ _ hown.2 ad l.length c (l.map (Value.int .u8)) (by simp) hcells (ints_oneCell _ _) h63 (by omega) hbase
    refine ⟨v', w', hrun, ⟨hown.1.append h.byt, ?_⟩, h3, h5⟩
    simpa using h2

theorem wp_append_bytes {o : Oper} {a : Act} {K : Act → World → Prop} {Q : Exit → Act → World → Prop} (s x : Operand) (t : TypeId)
    (ho : o.op = .call { callee := .builtin .append, args := #[s, x], argTypes := #[t, t] })
    (base : Nat) (e : TypeId) (i : TypeInfo) (ht : P.underlying t = some (.slice e)) (hi : P.info? e = some i) (hz : i.zero = some (.int .u8 0)) (hz1 : i.size = 1) (hz2 : i.bytes = 1)
    (v : Value) (xs : List Int) (hs : a.eval s = v) (hown : Owns w base e v xs) (A : Option Addr) (m c : Nat) (l : List Int) (hx : a.eval x = .slice A m c) (h : Holds w A m c l)
    (hlim : xs.length + m ≤ 140737488355328) (hbase : base ≤ w.heap.size)
    (hK : ∀ v' w', Owns w' base e v' (xs ++ l) → w.grownBy w' v.ownBlock → (v'.ownBlock = v.ownBlock ∨ v'.ownBlock = some w.heap.size) → K (a.put o.dst v') w') : o.wp P a w K Q := by
  obtain ⟨v', w', hrun, h2, h3, h4⟩ := run_append_bytes (P := P) base t o.type e i ht hi hz hz1 hz2 hown h hlim hbase
  unfold Oper.wp execOp
  simp only [ho, resolve, invoke, builtin, Sem.run_bind, Sem.run_pure, Result.andThen_ok, List.map_toArray, List.map_cons, List.map_nil, hs, hx, hrun]
  exact hK v' w' h2 h3 h4

theorem wpList_append_bytes {ops : Array Oper} {rest : List Oper} {o : Oper} {a : Act} {Q : Exit → Act → World → Prop} (hgd : o.guard = Option.none) (s x : Operand) (t : TypeId)
    (ho : o.op = .call { callee := .builtin .append, args := #[s, x], argTypes := #[t, t] })
    (base : Nat) (e : TypeId) (i : TypeInfo) (ht : P.underlying t = some (.slice e)) (hi : P.info? e = some i) (hz : i.zero = some (.int .u8 0)) (hz1 : i.size = 1) (hz2 : i.bytes = 1)
    (v : Value) (xs : List Int) (hs : a.eval s = v) (hown : Owns w base e v xs) (A : Option Addr) (m c : Nat) (l : List Int) (hx : a.eval x = .slice A m c) (h : Holds w A m c l)
    (hlim : xs.length + m ≤ 140737488355328) (hbase : base ≤ w.heap.size)
    (hK : ∀ v' w', Owns w' base e v' (xs ++ l) → w.grownBy w' v.ownBlock → (v'.ownBlock = v.ownBlock ∨ v'.ownBlock = some w.heap.size) → wpList P ops Q rest (a.put o.dst v') w') : wpList P ops Q (o :: rest) a w :=
  wpList_plain hgd fun _ hK' => wp_append_bytes s x t ho base e i ht hi hz hz1 hz2 v xs hs hown A m c l hx h hlim hbase fun v' w' h2 h3 h4 => hK' _ _ (hK v' w' h2 h3 h4)

theorem below_make {w' : World} (hg : w.grownBy w' Option.none) : Below w.heap.size w w' := (Below.refl _ _).grown hg (Nat.le_refl _) (fun _ h => by cases h)

/-- Behind an append of the call's own, nothing below B has turned. -/
theorem below_own {B : Nat} {w0 w' : World} {e : TypeId} {v : Value} {xs : List Int} (hb : Below B w0 w) (hown : Owns w B e v xs) (hg : w.grownBy w' v.ownBlock) (hB : B ≤ w.heap.size) : Below B w0 w' :=
  hb.grown hg hB fun k hk => (hown.2.lt k hk).1
end
end Go.Proofs.YtalnjlodldhfbaaGreatDoor

/-
  A byte's zero value, its size in cells and in bytes, as the program's table of types has them; and the two ends that many statements share.
-/
namespace Go.Proofs.YtalnjlodldhfbaaGreatDoor
open Go.RowKit

theorem Tryz.info8 : (Tryz.prog.info? 5).map (fun i => (i.zero, i.size, i.bytes)) = some (some (.int .u8 0), 1, 1) := by kernel_rfl

/-- It returns true, and nothing that was there is changed. -/
def Yes (w : World) (e : Ending) (w' : World) : Prop := e = .returned (.bool true) ∧ Below w.heap.size w w'
end Go.Proofs.YtalnjlodldhfbaaGreatDoor

/-
  Words that the texts on strings share: a test over all bytes of a text, its length, its bytes. Conditions: those that each theorem states.
-/
namespace Go.Proofs.YtalnjlodldhfbaaGreatDoor
open Go.RowKit Go.Lib

theorem all_step {p : UInt8 → Bool} {l : List UInt8} {k : Nat} (hk : k < l.length) (h : (l.take k).all p = true) (hp : p l[k] = true) : (l.take (k + 1)).all p = true := by
  rw [List.take_add_one, List.all_append, h, List.getElem?_eq_getElem hk]
  simp [hp]
theorem all_stop {p : UInt8 → Bool} {l : List UInt8} {k : Nat} (hk : k < l.length) (hp : p l[k] = false) : l.all p = false := by
  rw [List.all_eq_false]
  exact ⟨l[k], List.getElem_mem hk, by simp [hp]⟩

theorem byte_lt (b : UInt8) : b.toNat < 256 := UInt8.toNat_lt b
theorem size_len (s : ByteArray) : s.size = s.data.toList.length := (Array.length_toList).symm
theorem byte_at (s : ByteArray) (k : Nat) (h : k < s.size) : s[k] = s.data.toList[k]'(by rw [← size_len]; exact h) := rfl

theorem wrap_int {x : Int} (h0 : 0 ≤ x) (h1 : x ≤ 9223372036854775807) : wrap64 x = x := IntWalk.wrap64_in x ⟨by omega, by omega⟩
theorem ret_two {a b : Int} {x y : Bool} (h : a = b) (h' : x = y) : Ending.returned (.tuple #[.int .i64 a, .bool x]) = .returned (.tuple #[.int .i64 b, .bool y]) := by rw [h, h']
end Go.Proofs.YtalnjlodldhfbaaGreatDoor

/-
  Plain facts on a text without the white at its ends. No program is spoken of; no condition beyond those that each theorem states.
-/
namespace Go.Proofs.YtalnjlodldhfbaaGreatDoor
open Go.RowKit Go.Lib

/-- A text without the white (32 and 9) at its ends. -/
def trim (l : List UInt8) : List UInt8 := Lib.trimS l [32, 9]
def white (b : UInt8) : Bool := [32, 9].contains b

theorem white_iff (b : UInt8) : white b = true ↔ (b.toNat : Int) = 32 ∨ (b.toNat : Int) = 9 := by
  have h : ∀ b : Fin 256, white (UInt8.ofNat b.val) = true ↔ ((b.val : Int) = 32 ∨ (b.val : Int) = 9) := by decide +kernel
  have := h ⟨b.toNat, byte_lt b⟩
  simpa using this

def rtrim (l : List UInt8) : List UInt8 := (l.reverse.dropWhile white).reverse
theorem trim_eq (l : List UInt8) : trim l = (rtrim l).dropWhile white := rfl

theorem rtrim_last {l : List UInt8} {b : UInt8} (h : white b = true) : rtrim (l ++ [b]) = rtrim l := by
  unfold rtrim
  rw [List.reverse_append]
  simp [h]
theorem rtrim_keep {l : List UInt8} {b : UInt8} (h : white b = false) : rtrim (l ++ [b]) = l ++ [b] := by
  unfold rtrim
  rw [List.reverse_append]
  simp [h]
theorem rtrim_first (l : List UInt8) (b : UInt8) (h : white b = true) : rtrim (b :: l) = if (rtrim l).isEmpty then [] else b :: rtrim l := by
  unfold rtrim
  rw [List.reverse_cons, List.dropWhile_append]
  by_cases e : (l.reverse.dropWhile white).isEmpty = true
  · rw [if_pos e]
    simp only [List.isEmpty_iff] at e
    rw [e]
    simp [List.dropWhile, h]
  · rw [if_neg e, List.reverse_append]
    simp only [List.isEmpty_iff] at e
    simp [e]

theorem trim_first {l : List UInt8} {b : UInt8} (h : white b = true) : trim (b :: l) = trim l := by
  rw [trim_eq, trim_eq, rtrim_first l b h]
  by_cases e : (rtrim l).isEmpty = true
  · rw [if_pos e]
    simp only [List.isEmpty_iff] at e
    rw [e]
  · rw [if_neg e]
    simp [List.dropWhile, h]
theorem trim_last {l : List UInt8} {b : UInt8} (h : white b = true) : trim (l ++ [b]) = trim l := by rw [trim_eq, trim_eq, rtrim_last h]

theorem drop_first {l : List UInt8} (h : 0 < l.length) : l = l[0] :: l.drop 1 := by
  cases l with
  | nil => simp at h
  | cons a r => rfl
theorem take_last {l : List UInt8} (h : 0 < l.length) : l = l.take (l.length - 1) ++ [l[l.length - 1]'(by omega)] := by
  have h1 : (l.take (l.length - 1 + 1)) = l := by rw [show l.length - 1 + 1 = l.length by omega, List.take_length]
  conv => lhs; rw [← h1, List.take_add_one, List.getElem?_eq_getElem (show l.length - 1 < l.length by omega)]
  rfl

/-- The first byte is not white. -/
def Lead (l : List UInt8) : Prop := ∀ h : 0 < l.length, white l[0] = false

theorem trim_lead {l : List UInt8} (h : Lead l) (hl : ∀ h : 0 < l.length, white (l[l.length - 1]'(by omega)) = false) : trim l = l := by
  by_cases h0 : 0 < l.length
  · have e := take_last h0
    have hr : rtrim l = l := by
      conv => lhs; rw [e]
      rw [rtrim_keep (hl h0)]
      exact e.symm
    rw [trim_eq, hr]
    have hh := h h0
    cases l with
    | nil => rfl
    | cons a r => simp at hh; simp [List.dropWhile, hh]
  · have : l = [] := List.eq_nil_of_length_eq_zero (by omega)
    subst this
    rfl
theorem Lead.cut {l : List UInt8} (h : Lead l) (k : Nat) : Lead (l.take k) := fun hk => by
  rw [List.length_take] at hk
  rw [List.getElem_take]
  exact h (by omega)

theorem trim_le (l : List UInt8) : (trim l).length ≤ l.length := by
  rw [trim_eq]
  refine Nat.le_trans (List.dropWhile_sublist _).length_le ?_
  unfold rtrim
  rw [List.length_reverse]
  exact Nat.le_trans (List.dropWhile_sublist _).length_le (by simp)

theorem ret_string {a b : ByteArray} (h : a = b) : Ending.returned (.string a) = .returned (.string b) := by rw [h]

/-- How many bytes a value has that is a text. -/
def lenOf (v : Value) : Nat := match v with | .string t => t.size | _ => 0

theorem cut_first {t : ByteArray} (h : 0 < t.size) (hw : white t[0] = true) : trim (t.extract 1 t.size).data.toList = trim t.data.toList ∧ (t.extract 1 t.size).size = t.size - 1 := by
  have h' : 0 < t.data.toList.length := by rw [← size_len]; exact h
  constructor
  · rw [Lib.extract_to_end]
    conv => rhs; rw [drop_first h']
    rw [trim_first (by exact hw)]
  · rw [size_len, Lib.extract_to_end, List.length_drop, size_len]
theorem cut_last {t : ByteArray} (h : 0 < t.size) (hw : white (t[t.size - 1]'(by omega)) = true) : trim (t.extract 0 (t.size - 1)).data.toList = trim t.data.toList ∧ (t.extract 0 (t.size - 1)).size = t.size - 1 ∧ (t.extract 0 (t.size - 1)).data.toList = t.data.toList.take (t.size - 1) := by
  have h' : 0 < t.data.toList.length := by rw [← size_len]; exact h
  have e : (t.extract 0 (t.size - 1)).data.toList = t.data.toList.take (t.size - 1) := by rw [Lib.extract_data]; simp
  refine ⟨?_, ?_, e⟩
  · rw [e]
    conv => rhs; rw [take_last h']
    have hw' : white (t.data.toList[t.data.toList.length - 1]'(by omega)) = true := by
      have := byte_at t (t.size - 1) (by omega)
      rw [this] at hw
      simpa only [size_len] using hw
    rw [trim_last hw', size_len]
  · rw [size_len, e, List.length_take, ← size_len]
    omega

theorem text_kept {u : ByteArray} (hL : Lead u.data.toList) (h0 : 0 < u.size) (hw : ¬ white (u[u.size - 1]'(by omega)) = true) : trim u.data.toList = u.data.toList := by
  refine trim_lead hL fun _ => ?_
  rw [byte_at u (u.size - 1) (by omega)] at hw
  simpa only [size_len, Bool.not_eq_true] using hw
end Go.Proofs.YtalnjlodldhfbaaGreatDoor

/-
  Plain facts on a text cut at its commas, and on the parts without white at their ends and without the empty ones. No program is spoken of; no condition beyond those that each theorem states.
-/
namespace Go.Proofs.YtalnjlodldhfbaaGreatDoor
open Go.Lib

/-- b ahead of the first part. -/
def ahead (b : UInt8) : List (List UInt8) → List (List UInt8)
  | [] => [[b]]
  | p :: q => (b :: p) :: q

/-- What stands between the commas. -/
def cutAt : List UInt8 → List (List UInt8)
  | [] => [[]]
  | b :: r => if b = 44 then [] :: cutAt r else ahead b (cutAt r)

theorem cut_none {l : List UInt8} (h : ∀ b ∈ l, b ≠ 44) : cutAt l = [l] := by
  induction l with
  | nil => rfl
  | cons b r ih =>
    rw [cutAt, if_neg (h b (by simp)), ih fun x hx => h x (by simp [hx])]
    rfl
theorem cut_comma {p r : List UInt8} (h : ∀ b ∈ p, b ≠ 44) : cutAt (p ++ 44 :: r) = p :: cutAt r := by
  induction p with
  | nil => rw [List.nil_append, cutAt, if_pos rfl]
  | cons b q ih =>
    rw [List.cons_append, cutAt, if_neg (h b (by simp)), ih fun x hx => h x (by simp [hx])]
    rfl

theorem index_44 (r : List UInt8) : Lib.index (44 :: r) [44] = 0 := by simp [Lib.index]
theorem index_ne {b : UInt8} (r : List UInt8) (h : b ≠ 44) : Lib.index (b :: r) [44] = if Lib.index r [44] == -1 then -1 else Lib.index r [44] + 1 := by
  have hp : ([44] : List UInt8).isPrefixOf (b :: r) = false := by simp [List.isPrefixOf, Ne.symm h]
  rw [Lib.index, hp]
  simp

theorem split_cut : ∀ l : List UInt8, Lib.splitK [44] 0 (Lib.count l [44]) l = cutAt l
  | [] => by
    have : Lib.count [] [44] = 0 := by decide
    rw [this]
    rfl
  | b :: r => by
    have ih := split_cut r
    by_cases h : b = 44
    · subst h
      rw [Lib.count_cons_eq, Nat.add_comm 1, Lib.splitK, index_44]
      rw [if_neg (by decide), cutAt, if_pos rfl]
      simpa using ih
    · rw [Lib.count_cons_ne b 44 r h, cutAt, if_neg h, ← ih]
      generalize Lib.count r [44] = k
      cases k with
      | zero => rfl
      | succ k =>
        rw [Lib.splitK, Lib.splitK, index_ne r h]
        by_cases hi : Lib.index r [44] = -1
        · rw [hi]
          rfl
        · have hge := Lib.index_ge r [44]
          have e1 : (Lib.index r [44] == -1) = false := by simpa using hi
          rw [e1]
          simp only [Bool.false_eq_true, if_false]
          have e2 : (Lib.index r [44] + 1 == -1) = false := by
            rw [beq_eq_false_iff_ne]
            omega
          rw [e2]
          simp only [Bool.false_eq_true, if_false]
          obtain ⟨j, hj⟩ : ∃ j : Nat, Lib.index r [44] = j := ⟨(Lib.index r [44]).toNat, by omega⟩
          rw [hj]
          have e3 : ((j : Int) + 1).toNat = j + 1 := by omega
          have e4 : (j : Int).toNat = j := by omega
          rw [e3, e4]
          simp [ahead]

/-- The parts without white at their ends, without the empty ones. -/
def clean (ps : List (List UInt8)) : List (List UInt8) := (ps.map trim).filter fun p => !p.isEmpty
def listOf (l : List UInt8) : List (List UInt8) := clean (cutAt l)

theorem clean_append (a b : List (List UInt8)) : clean (a ++ b) = clean a ++ clean b := by simp [clean]
theorem clean_one (p : List UInt8) : clean [p] = if (trim p).isEmpty then [] else [trim p] := by
  unfold clean
  by_cases h : (trim p).isEmpty = true
  · simp [h]
  · simp [h]
theorem clean_cons (p : List UInt8) (q : List (List UInt8)) : clean (p :: q) = clean [p] ++ clean q := clean_append [p] q

/-- Texts of lists of bytes. -/
def mk (l : List UInt8) : ByteArray := ⟨l.toArray⟩
theorem mk_inj {a b : List UInt8} (h : mk a = mk b) : a = b := by
  have := congrArg (fun t : ByteArray => t.data.toList) h
  simpa [mk] using this
theorem mk_list (l : List UInt8) : (mk l).data.toList = l := by simp [mk]
theorem mk_of (s : ByteArray) : mk s.data.toList = s := Lib.mk_data s
theorem mk_size (l : List UInt8) : (mk l).size = l.length := by rw [size_len, mk_list]

theorem split_parts (s : ByteArray) : Lib.splitB ⟨#[44]⟩ 0 (Lib.countB s ⟨#[44]⟩) s = (cutAt s.data.toList).map mk := by
  have h := Lib.splitB_data ⟨#[44]⟩ 0 (Lib.countB s ⟨#[44]⟩) s
  have h2 : Lib.splitK [44] 0 (Lib.count s.data.toList [44]) s.data.toList = cutAt s.data.toList := split_cut _
  have h3 : (Lib.splitB ⟨#[44]⟩ 0 (Lib.countB s ⟨#[44]⟩) s).map (·.data.toList) = cutAt s.data.toList := h.trans h2
  rw [← h3, List.map_map]
  conv => lhs; rw [← List.map_id (Lib.splitB ⟨#[44]⟩ 0 (Lib.countB s ⟨#[44]⟩) s)]
  apply List.map_congr_left
  intro t _
  exact (mk_of t).symm
theorem split_many (s : ByteArray) : Lib.countB s ⟨#[44]⟩ + 1 = (cutAt s.data.toList).length := by
  have := Lib.splitB_all ⟨#[44]⟩ (by decide) 0 _ s rfl
  rw [split_parts, List.length_map] at this
  exact this.symm

theorem cut_pos (l : List UInt8) : 0 < (cutAt l).length := by
  cases l with
  | nil => simp [cutAt]
  | cons b r =>
    rw [cutAt]
    split
    · simp
    · cases cutAt r <;> simp [ahead]
theorem cut_len (l : List UInt8) : (cutAt l).length ≤ l.length + 1 := by
  induction l with
  | nil => simp [cutAt]
  | cons b r ih =>
    rw [cutAt]
    split
    · simpa using ih
    · cases h : cutAt r with
      | nil => simp [ahead]
      | cons p q => rw [h] at ih; simp [ahead] at ih ⊢; omega
theorem clean_len (ps : List (List UInt8)) : (clean ps).length ≤ ps.length := by
  unfold clean
  exact Nat.le_trans (List.length_filter_le _ _) (by simp)
theorem cut_part_le {l : List UInt8} : ∀ p ∈ cutAt l, p.length ≤ l.length := by
  induction l with
  | nil => intro p hp; simp [cutAt] at hp; simp [hp]
  | cons b r ih =>
    intro p hp
    rw [cutAt] at hp
    split at hp
    · rcases List.mem_cons.1 hp with rfl | hp
      · simp
      · have := ih p hp; simp; omega
    · cases h : cutAt r with
      | nil => rw [h] at hp; simp [ahead] at hp; simp [hp]
      | cons q t =>
        rw [h] at hp ih
        simp only [ahead, List.mem_cons] at hp
        rcases hp with rfl | hp
        · have := ih q (by simp); simp; exact this
        · have := ih p (by simp [hp]); simp; omega
end Go.Proofs.YtalnjlodldhfbaaGreatDoor

/-
  Letters of one size: ascii.shift and Lower as the program has them. Conditions: those that each theorem states.
-/
namespace Go.Proofs.YtalnjlodldhfbaaGreatDoor
open Go.RowKit Go.Lib

/-- A number is added to the bytes from a to b. -/
def turn (a b k : Nat) (c : UInt8) : UInt8 := if a ≤ c.toNat ∧ c.toNat ≤ b then UInt8.ofNat (c.toNat + k) else c

/-- A row of bytes of the call's own: block g holds F 0 to F (n - 1), none of them frozen. -/
def Row (w : World) (g n : Nat) (F : Nat → UInt8) : Prop := ∀ j, j < n → w.cell? ⟨g, j, Option.none⟩ = some (.int .u8 ((F j).toNat : Int)) ∧ w.frozen? ⟨g, j, Option.none⟩ = false

theorem Row.set {w : World} {g n k : Nat} {F : Nat → UInt8} (h : Row w g n F) (hk : k < n) (y : UInt8) {u : Int} (hu : u = (y.toNat : Int)) : Row (w.setCell ⟨g, k, Option.none⟩ (.int .u8 u)) g n (fun j => if j = k then y else F j) := by
  intro j hj
  refine ⟨?_, by rw [World.frozen?_setCell]; exact (h j hj).2⟩
  by_cases e : j = k
  · subst e
    rw [World.cell?_setCell_same (u := .int .u8 ((F j).toNat : Int)) (h := (h j hj).1)]
    simp [hu]
  · rw [World.cell?_setCell_other (h := fun c => e (by injection c with _ c; exact c.symm))]
    simp only [if_neg e]
    exact (h j hj).1
theorem Row.congr {w : World} {g n : Nat} {F G : Nat → UInt8} (h : Row w g n F) (e : ∀ j, j < n → F j = G j) : Row w g n G := fun j hj => by
  rw [← e j hj]
  exact h j hj

/-- Of the bytes l the first k are turned. -/
def upTo (f : UInt8 → UInt8) (l : List UInt8) (k j : Nat) : UInt8 := if j < k then f (l[j]?.getD 0) else l[j]?.getD 0

theorem row_new (w : World) (s : ByteArray) (cap : Nat) (e lo hi : Nat) (hlo : s.size ≤ lo) (f : UInt8 → UInt8) : Row (w.alloc (.cells (bytesRow s cap) e (lo, hi))) w.heap.size s.size (upTo f s.data.toList 0) := by
  intro j hj
  constructor
  · rw [World.cell?_alloc_mark, bytesRow_at s cap j hj]
    simp [upTo, Array.getElem?_eq_getElem (show j < s.data.size from hj)]
  · rw [World.frozen?_alloc_mark, decide_eq_false (by omega)]
    rfl

theorem row_ge (s : ByteArray) (cap : Nat) : s.size ≤ (bytesRow s cap).size := by
  unfold bytesRow
  rw [Array.size_append, Array.size_map]
  exact Nat.le_add_right _ _

theorem upTo_step {f : UInt8 → UInt8} {l : List UInt8} {k : Nat} (j : Nat) : (if j = k then f (l[k]?.getD 0) else upTo f l k j) = upTo f l (k + 1) j := by
  unfold upTo
  by_cases e : j = k
  · subst e
    rw [if_pos rfl, if_pos (by omega)]
  · rw [if_neg e]
    by_cases h : j < k
    · rw [if_pos h, if_pos (by omega)]
    · rw [if_neg h, if_neg (by omega)]
theorem upTo_same {f : UInt8 → UInt8} {l : List UInt8} {k : Nat} (h : f (l[k]?.getD 0) = l[k]?.getD 0) (j : Nat) : upTo f l k j = upTo f l (k + 1) j := by
  rw [← upTo_step]
  by_cases e : j = k
  · subst e
    rw [if_pos rfl, h]
    unfold upTo
    rw [if_neg (by omega)]
  · rw [if_neg e]

theorem bytes_text (l : List UInt8) : strOfNums (l.map fun b => (b.toNat : Int)) = ⟨l.toArray⟩ := by
  unfold strOfNums
  congr 2
  rw [List.map_map]
  conv => rhs; rw [← List.map_id l]
  apply List.map_congr_left
  intro b _
  simp

theorem row_text {P : Program} {w : World} {g n c : Nat} {f : UInt8 → UInt8} {l : List UInt8} (hn : n = l.length) (h : Row w g n (upTo f l n)) (src dst e : TypeId)
    (hs : P.underlying src = some (.slice e)) (he : P.underlying e = some (.int .u8)) (hd : P.underlying dst = some .string) :
    (convert src dst (.slice (some ⟨g, 0, Option.none⟩) n c)).run P w = .ok (.string ⟨(l.map f).toArray⟩) w := by
  have := run_convert_bytes_arg (P := P) w src e hs he g 0 n c ((l.map f).map fun b => (b.toNat : Int)) (by simp [hn]) (fun i hi => by
    rw [Nat.zero_add, (h i hi).1]
    have hl : i < l.length := by omega
    simp [upTo, hi, hl]) dst hd
  rw [this, bytes_text]

set_option maxHeartbeats 2000000 in
set_option maxRecDepth 100000 in
theorem shift_any (s : ByteArray) (hs : s.size ≤ maxLen) (a b m : Nat) (w : World) : Calls Tryz.prog 50 #[.string s, .int .u8 a, .int .u8 b, .int .u8 m] w fun e w' =>
    e = .returned (.string ⟨(s.data.toList.map (turn a b m)).toArray⟩) ∧ Below w.heap.size w w' := by
  have hm : s.size ≤ 9223372036854775807 := by unfold maxLen at hs; exact hs
  have hconv := run_bytes_of_string (P := Tryz.prog) w 9 65 5 s Tryz.underlying9 Tryz.underlying65 Tryz.underlying5
  have hrow := row_new w s (grownCap w s.size 0 5) 5 (bytesRow s (grownCap w s.size 0 5)).size ((bytesRow s (grownCap w s.size 0 5)).size + 1) (row_ge s _) (turn a b m)
  generalize bytesRow s (grownCap w s.size 0 5) = C at hconv hrow
  generalize grownCap w s.size 0 5 = cap at hconv
  obtain ⟨r, hr⟩ : ∃ r : ByteArray, r = ⟨(s.data.toList.map (turn a b m)).toArray⟩ := ⟨_, rfl⟩
  rw [← hr]
  have hr' := Lib.hid hr
  have hrow' := Lib.hid hrow
  clear hr hrow
  go_enter Tryz.func50, Tryz.ntmps50
  go_wp2
  go_loopw [16] (fun i wr => ∃ k : Nat, k ≤ s.size ∧ i = .int .i64 k ∧ Below w.heap.size w wr ∧ Row wr w.heap.size s.size (upTo (turn a b m) s.data.toList k)) (fun i _ => s.size - (RowKit.intOf i).toNat)
  case atStart => exact ⟨0, Nat.zero_le _, rfl, ((Below.refl _ w).alloc (Nat.le_refl _) _).drew, hrow'.out⟩
  case round =>
    obtain ⟨k, hk, rfl, hb, hR0⟩ := hrel
    have hR := Lib.hid hR0
    by_cases hkn : k < s.size
    · have hc := (hR0 k hkn).1
      have hf := (hR0 k hkn).2
      have hx : upTo (turn a b m) s.data.toList k k = s.data.toList[k]?.getD 0 := by simp [upTo]
      rw [hx] at hc
      generalize hy : s.data.toList[k]?.getD 0 = y at hc
      have hy' := Lib.hid hy
      clear hR0 hx hy
      have hkeep : turn a b m y = y → Row wr w.heap.size s.size (upTo (turn a b m) s.data.toList (k + 1)) := fun h => hR.out.congr fun j _ => upTo_same (by rw [hy'.out]; exact h) j
      have hset : ∀ u : Int, u = ((turn a b m y).toNat : Int) → Row (wr.setCell ⟨w.heap.size, k, Option.none⟩ (.int .u8 u)) w.heap.size s.size (upTo (turn a b m) s.data.toList (k + 1)) := fun u hu =>
        (hR.out.set hkn (turn a b m y) hu).congr fun j _ => by rw [← hy'.out]; exact upTo_step j
      have hkeep' := Lib.hid hkeep
      have hset' := Lib.hid hset
      clear hkeep hset
      go_wp2
      · go_roundw
        case rel =>
          have h1 : a ≤ y.toNat := by assumption
          have h2 : y.toNat ≤ b := by assumption
          exact ⟨k + 1, by omega, by go_num, hb.setCell (Nat.le_refl _) _, hset'.out _ (by rw [turn, if_pos ⟨h1, h2⟩, UInt8.toNat_ofNat']; omega)⟩
        case measure => simp [RowKit.intOf]; omega
      · go_roundw
        case rel =>
          have h2 : ¬ y.toNat ≤ b := by assumption
          exact ⟨k + 1, by omega, by go_num, hb, hkeep'.out (by rw [turn, if_neg (by omega)])⟩
        case measure => simp [RowKit.intOf]; omega
      · go_roundw
        case rel =>
          have h2 : ¬ a ≤ y.toNat := by assumption
          exact ⟨k + 1, by omega, by go_num, hb, hkeep'.out (by rw [turn, if_neg (by omega)])⟩
        case measure => simp [RowKit.intOf]; omega
    · have e : k = s.size := by omega
      subst e
      have hback := row_text (P := Tryz.prog) (c := cap) (size_len s) hR0 65 9 5 Tryz.underlying65 Tryz.underlying5 Tryz.underlying9
      rw [← hr'.out] at hback
      clear hR0
      go_wp2
      go_ret
      exact ⟨rfl, hb⟩

theorem lower_any (s : ByteArray) (hs : s.size ≤ maxLen) (w : World) : Calls Tryz.prog 26 #[.string s] w fun e w' =>
    e = .returned (.string ⟨(s.data.toList.map (turn 65 90 32)).toArray⟩) ∧ Below w.heap.size w w' := by
  have h := shift_any s hs 65 90 32 w
  generalize (⟨(s.data.toList.map (turn 65 90 32)).toArray⟩ : ByteArray) = r at h ⊢
  go_enter Tryz.func26, Tryz.ntmps26
  go_wp2_with (go_at_call 50; refine h.mono ?_; rintro e w' ⟨rfl, hb⟩)
  go_ret
  exact ⟨rfl, hb⟩
end Go.Proofs.YtalnjlodldhfbaaGreatDoor

/-
  Plain facts on lists of headers: which names match, what is got, set and dropped. No program is spoken of; no condition beyond those that each theorem states.
-/
namespace Go.Proofs.YtalnjlodldhfbaaGreatDoor
open Go.Lib

/-- A header: its name and its value. -/
abbrev Hd := ByteArray × ByteArray

/-- A text's bytes with small letters. -/
def lo (s : ByteArray) : List UInt8 := s.data.toList.map (turn 65 90 32)
/-- Do names match? -/
def alike (a b : ByteArray) : Bool := lo a == lo b
theorem alike_refl (a : ByteArray) : alike a a = true := by simp [alike]
theorem alike_comm (a b : ByteArray) : alike a b = alike b a := by
  unfold alike
  rw [Bool.eq_iff_iff]
  simp only [beq_iff_eq]
  exact eq_comm
theorem alike_trans {a b c : ByteArray} (h : alike a b = true) : alike a c = alike b c := by
  unfold alike at h ⊢
  rw [beq_iff_eq] at h
  rw [h]
/-- Does a header match one of the names? -/
def hit (ns : List ByteArray) (h : Hd) : Bool := ns.any fun n => alike h.1 n
theorem hit_one (n : ByteArray) (h : Hd) : hit [n] h = alike h.1 n := by simp [hit]

def vals (n : ByteArray) (l : List Hd) : List ByteArray := (l.filter fun h => alike h.1 n).map (·.2)
def sep2 : List UInt8 := [44, 32]
def joined (xs : List ByteArray) : List UInt8 := Lib.join (xs.map (·.data.toList)) sep2
def without (ns : List ByteArray) (l : List Hd) : List Hd := l.filter fun h => !hit ns h
/-- Where the first header of a name stands; the length, if there is none. -/
def placeOf (n : ByteArray) (l : List Hd) : Nat := l.findIdx fun h => alike h.1 n
def setOf (l : List Hd) (h : Hd) : List Hd := l.take (placeOf h.1 l) ++ h :: without [h.1] (l.drop (placeOf h.1 l))

theorem vals_append (n : ByteArray) (a b : List Hd) : vals n (a ++ b) = vals n a ++ vals n b := by simp [vals]
theorem vals_cons (n : ByteArray) (h : Hd) (l : List Hd) : vals n (h :: l) = if alike h.1 n then h.2 :: vals n l else vals n l := by
  unfold vals
  rw [List.filter_cons]
  split <;> simp
theorem vals_step {n : ByteArray} {l : List Hd} {k : Nat} (hk : k < l.length) : vals n (l.take (k + 1)) = vals n (l.take k) ++ (if alike l[k].1 n then [l[k].2] else []) := by
  rw [List.take_add_one, List.getElem?_eq_getElem hk, vals_append]
  congr 1
  show vals n [l[k]] = _
  rw [vals_cons]
  rfl
theorem vals_len (n : ByteArray) (l : List Hd) : (vals n l).length ≤ l.length := by
  unfold vals
  rw [List.length_map]
  exact List.length_filter_le _ _
theorem without_append (ns : List ByteArray) (a b : List Hd) : without ns (a ++ b) = without ns a ++ without ns b := by simp [without]
theorem without_cons (ns : List ByteArray) (h : Hd) (l : List Hd) : without ns (h :: l) = if hit ns h then without ns l else h :: without ns l := by
  unfold without
  rw [List.filter_cons]
  cases hit ns h <;> simp
theorem without_step {ns : List ByteArray} {l : List Hd} {k : Nat} (hk : k < l.length) : without ns (l.take (k + 1)) = without ns (l.take k) ++ (if hit ns l[k] then [] else [l[k]]) := by
  rw [List.take_add_one, List.getElem?_eq_getElem hk, without_append]
  congr 1
  show without ns [l[k]] = _
  rw [without_cons]
  rfl
theorem without_len (ns : List ByteArray) (l : List Hd) : (without ns l).length ≤ l.length := List.length_filter_le _ _
theorem without_twice (ns : List ByteArray) (l : List Hd) : without ns (without ns l) = without ns l := by
  unfold without
  rw [List.filter_filter]
  simp

theorem place_le (n : ByteArray) (l : List Hd) : placeOf n l ≤ l.length := List.findIdx_le_length
theorem place_lt {n : ByteArray} {l : List Hd} {k : Nat} (hk : k < placeOf n l) (hl : k < l.length) : alike l[k].1 n = false := by
  have := List.not_of_lt_findIdx (p := fun h : Hd => alike h.1 n) (xs := l) hk
  simpa using this
theorem place_at {n : ByteArray} {l : List Hd} (h : placeOf n l < l.length) : alike l[placeOf n l].1 n = true := List.findIdx_getElem (w := h)
theorem place_is {n : ByteArray} {l : List Hd} {k : Nat} (hk : k < l.length) (h : alike l[k].1 n = true) (hb : ∀ j (hj : j < k), alike (l[j]'(by omega)).1 n = false) : placeOf n l = k := by
  rcases Nat.lt_trichotomy (placeOf n l) k with c | c | c
  · have := place_at (n := n) (l := l) (by omega)
    rw [hb _ c] at this
    cases this
  · exact c
  · rw [place_lt c hk] at h
    cases h
theorem place_none {n : ByteArray} {l : List Hd} (hb : ∀ j (hj : j < l.length), alike l[j].1 n = false) : placeOf n l = l.length := by
  rcases Nat.lt_or_ge (placeOf n l) l.length with c | c
  · have := place_at c
    rw [hb _ c] at this
    cases this
  · have := place_le n l
    omega

theorem before_place (n : ByteArray) (l : List Hd) : ∀ h ∈ l.take (placeOf n l), alike h.1 n = false := by
  intro h hh
  obtain ⟨j, hj, e⟩ := List.getElem_of_mem hh
  rw [List.length_take] at hj
  rw [List.getElem_take] at e
  rw [← e]
  exact place_lt (by omega) (by omega)
theorem without_before (n : ByteArray) (l : List Hd) : without [n] (l.take (placeOf n l)) = l.take (placeOf n l) := by
  unfold without
  rw [List.filter_eq_self]
  intro h hh
  rw [hit_one, before_place n l h hh]
  rfl
theorem vals_before (n : ByteArray) (l : List Hd) : vals n (l.take (placeOf n l)) = [] := by
  unfold vals
  rw [List.map_eq_nil_iff, List.filter_eq_nil_iff]
  intro h hh
  rw [before_place n l h hh]
  simp
theorem vals_without (n : ByteArray) (l : List Hd) : vals n (without [n] l) = [] := by
  unfold vals without
  rw [List.map_eq_nil_iff, List.filter_eq_nil_iff]
  intro h hh
  rw [List.mem_filter, hit_one] at hh
  simpa using hh.2
/-- What is dropped of another name leaves what is got. -/
theorem vals_other {n m : ByteArray} (h : alike n m = false) (l : List Hd) : vals n (without [m] l) = vals n l := by
  induction l with
  | nil => rfl
  | cons x r ih =>
    rw [without_cons, vals_cons, hit_one]
    cases hm : alike x.1 m with
    | true =>
      have : alike x.1 n = false := by
        rw [alike_comm x.1 n]
        rw [Bool.eq_false_iff]
        intro c
        rw [alike_trans c] at h
        rw [h] at hm
        cases hm
      rw [this]
      simpa using ih
    | false =>
      simp only [Bool.false_eq_true, if_false]
      rw [vals_cons, ih]

theorem set_split (l : List Hd) (h : Hd) : l.take (placeOf h.1 l) ++ without [h.1] (l.drop (placeOf h.1 l)) = without [h.1] l := by
  conv => rhs; rw [← List.take_append_drop (placeOf h.1 l) l]
  rw [without_append, without_before]
theorem set_dropped (l : List Hd) (h : Hd) : without [h.1] (setOf l h) = without [h.1] l := by
  unfold setOf
  rw [without_append, without_cons, hit_one, alike_refl, if_pos rfl, without_before, without_twice]
  exact set_split l h
theorem set_got (l : List Hd) (h : Hd) : vals h.1 (setOf l h) = [h.2] := by
  unfold setOf
  rw [vals_append, vals_cons, alike_refl, if_pos rfl, vals_before, vals_without]
  rfl
theorem set_other {l : List Hd} {h : Hd} {n : ByteArray} (hn : alike n h.1 = false) : vals n (setOf l h) = vals n l := by
  have e : alike h.1 n = false := by rw [alike_comm]; exact hn
  unfold setOf
  rw [vals_append, vals_cons, e]
  simp only [Bool.false_eq_true, if_false]
  rw [vals_other hn, ← vals_append, List.take_append_drop]
theorem set_place (l : List Hd) (h : Hd) : placeOf h.1 (setOf l h) = placeOf h.1 l := by
  have hle := place_le h.1 l
  have hlen : (l.take (placeOf h.1 l)).length = placeOf h.1 l := by rw [List.length_take]; omega
  have hlt : placeOf h.1 l < (setOf l h).length := by
    unfold setOf
    rw [List.length_append, hlen, List.length_cons]
    omega
  apply place_is hlt
  · have : (setOf l h)[placeOf h.1 l]? = some h := by
      unfold setOf
      rw [List.getElem?_append_right (by omega)]
      simp [hlen]
    rw [List.getElem?_eq_getElem hlt, Option.some.injEq] at this
    rw [this]
    exact alike_refl _
  · intro j hj
    have : (setOf l h)[j]? = l[j]? := by
      unfold setOf
      rw [List.getElem?_append_left (by omega), List.getElem?_take, if_pos hj]
    rw [List.getElem?_eq_getElem (by omega), List.getElem?_eq_getElem (by omega), Option.some.injEq] at this
    rw [this]
    exact place_lt hj (by omega)
theorem set_twice (l : List Hd) (h : Hd) : setOf (setOf l h) h = setOf l h := by
  have hle := place_le h.1 l
  have hlen : (l.take (placeOf h.1 l)).length = placeOf h.1 l := by rw [List.length_take]; omega
  have e : setOf (setOf l h) h = (setOf l h).take (placeOf h.1 l) ++ h :: without [h.1] ((setOf l h).drop (placeOf h.1 l)) := by
    have : ∀ t, setOf t h = t.take (placeOf h.1 t) ++ h :: without [h.1] (t.drop (placeOf h.1 t)) := fun _ => rfl
    rw [this (setOf l h), set_place]
  rw [e]
  have e1 : (setOf l h).take (placeOf h.1 l) = l.take (placeOf h.1 l) := by
    unfold setOf
    rw [List.take_append_of_le_length (by omega), List.take_take]
    congr 1
    omega
  have e2 : (setOf l h).drop (placeOf h.1 l) = h :: without [h.1] (l.drop (placeOf h.1 l)) := by
    unfold setOf
    rw [List.drop_append_of_le_length (by omega), List.drop_of_length_le (by omega), List.nil_append]
  rw [e1, e2, without_cons, hit_one, alike_refl, if_pos rfl, without_twice]
  rfl
theorem set_len (l : List Hd) (h : Hd) : (setOf l h).length ≤ l.length + 1 := by
  unfold setOf
  have := without_len [h.1] (l.drop (placeOf h.1 l))
  simp only [List.length_append, List.length_take, List.length_cons, List.length_drop] at this ⊢
  omega

/-- The reference's way to set: what stands for the first k headers, and whether h is among it. -/
def setUp (h : Hd) (l : List Hd) : List Hd × Bool := (if l.any (fun x => alike x.1 h.1) then setOf l h else l, l.any fun x => alike x.1 h.1)
theorem any_place {n : ByteArray} {l : List Hd} (h : l.any (fun x => alike x.1 n) = true) : placeOf n l < l.length := by
  unfold placeOf
  rw [List.findIdx_lt_length]
  simpa using h
theorem none_place {n : ByteArray} {l : List Hd} (h : l.any (fun x => alike x.1 n) = false) : placeOf n l = l.length := by
  apply place_none
  intro j hj
  rw [List.any_eq_false] at h
  have := h l[j] (List.getElem_mem hj)
  simpa using this
theorem place_append {n : ByteArray} {l r : List Hd} (h : l.any (fun x => alike x.1 n) = true) : placeOf n (l ++ r) = placeOf n l := by
  have hp := any_place h
  apply place_is (by rw [List.length_append]; omega)
  · rw [List.getElem_append_left hp]
    exact place_at hp
  · intro j hj
    rw [List.getElem_append_left (by omega)]
    exact place_lt hj (by omega)
theorem set_append {l r : List Hd} {h : Hd} (ha : l.any (fun x => alike x.1 h.1) = true) : setOf (l ++ r) h = setOf l h ++ without [h.1] r := by
  have hp := any_place ha
  unfold setOf
  rw [place_append ha, List.take_append_of_le_length (by omega), List.drop_append_of_le_length (by omega), without_append, List.append_assoc, List.cons_append]
/-- One header more, of another name. -/
theorem setUp_other {h x : Hd} {l : List Hd} (hx : alike x.1 h.1 = false) : setUp h (l ++ [x]) = ((setUp h l).1 ++ [x], (setUp h l).2) := by
  unfold setUp
  have e : (l ++ [x]).any (fun x => alike x.1 h.1) = l.any (fun x => alike x.1 h.1) := by simp [hx]
  simp only [e]
  cases ha : l.any (fun x => alike x.1 h.1) with
  | true => simp only [if_true, set_append ha, without_cons, hit_one, hx, Bool.false_eq_true, if_false]; rfl
  | false => simp
/-- The first one of the name. -/
theorem setUp_first {h x : Hd} {l : List Hd} (hx : alike x.1 h.1 = true) (ha : (setUp h l).2 = false) : setUp h (l ++ [x]) = ((setUp h l).1 ++ [h], true) := by
  unfold setUp at ha ⊢
  have e : (l ++ [x]).any (fun x => alike x.1 h.1) = true := by simp [hx]
  simp only at ha
  simp only [e, ha, if_true, Bool.false_eq_true, if_false]
  have hp : placeOf h.1 (l ++ [x]) = l.length := by
    have hn := none_place ha
    apply place_is (by simp)
    · simpa using hx
    · intro j hj
      rw [List.getElem_append_left hj]
      exact place_lt (by omega) hj
  unfold setOf
  rw [hp]
  simp [hit_one, hx, without]
/-- A later one. -/
theorem setUp_later {h x : Hd} {l : List Hd} (hx : alike x.1 h.1 = true) (ha : (setUp h l).2 = true) : setUp h (l ++ [x]) = ((setUp h l).1, true) := by
  unfold setUp at ha ⊢
  have e : (l ++ [x]).any (fun x => alike x.1 h.1) = true := by simp [hx]
  simp only at ha
  simp only [e, ha, if_true, set_append ha, without_cons, hit_one, hx]
  simp [without]
theorem setUp_end_yes {h : Hd} {l : List Hd} (ha : (setUp h l).2 = true) : (setUp h l).1 = setOf l h := by
  unfold setUp at ha ⊢
  simp only at ha
  simp [ha]
theorem setUp_end_no {h : Hd} {l : List Hd} (ha : (setUp h l).2 = false) : (setUp h l).1 ++ [h] = setOf l h := by
  unfold setUp at ha ⊢
  simp only at ha
  simp only [ha, Bool.false_eq_true, if_false]
  unfold setOf
  rw [none_place ha]
  simp [without]
theorem setUp_len (h : Hd) (l : List Hd) : (setUp h l).1.length ≤ l.length + 1 := by
  unfold setUp
  simp only
  split
  · exact set_len l h
  · exact Nat.le_succ _
theorem take_snoc {α : Type} {l : List α} {k : Nat} (hk : k < l.length) : l.take (k + 1) = l.take k ++ [l[k]] := by
  rw [List.take_add_one, List.getElem?_eq_getElem hk]
  rfl
theorem setUp_nil (h : Hd) : setUp h [] = ([], false) := rfl

/-- What the reference's Get has: one value more. -/
theorem joined_nil : joined [] = [] := rfl
theorem joined_one (x : ByteArray) : joined [x] = x.data.toList := by
  unfold joined
  simp [Lib.join_one]
theorem joined_snoc {xs : List ByteArray} (x : ByteArray) (h : xs ≠ []) : joined (xs ++ [x]) = joined xs ++ sep2 ++ x.data.toList := by
  cases xs with
  | nil => exact absurd rfl h
  | cons y r =>
    unfold joined
    rw [List.cons_append, List.map_cons, List.map_cons, Lib.join_cons, Lib.join_cons, List.map_append]
    simp [Lib.joinTail, List.append_assoc]
/-- The bytes of all values. -/
def bytesIn (l : List Hd) : Nat := (l.map fun h => h.1.size + h.2.size + 1).sum
theorem bytesIn_cons (h : Hd) (l : List Hd) : bytesIn (h :: l) = h.1.size + h.2.size + 1 + bytesIn l := by simp [bytesIn]
theorem bytesIn_take (l : List Hd) (k : Nat) : bytesIn (l.take k) ≤ bytesIn l := by
  induction l generalizing k with
  | nil => simp
  | cons x r ih =>
    cases k with
    | zero => simp [bytesIn]
    | succ k =>
      rw [List.take_succ_cons, bytesIn_cons, bytesIn_cons]
      have := ih k
      omega
theorem bytesIn_append (a b : List Hd) : bytesIn (a ++ b) = bytesIn a + bytesIn b := by simp [bytesIn]
theorem bytesIn_filter (p : Hd → Bool) (l : List Hd) : bytesIn (l.filter p) ≤ bytesIn l := by
  induction l with
  | nil => simp
  | cons x r ih =>
    rw [List.filter_cons]
    split
    · rw [bytesIn_cons, bytesIn_cons]; omega
    · rw [bytesIn_cons]; omega
theorem bytesIn_set (l : List Hd) (h : Hd) : bytesIn (setOf l h) ≤ bytesIn l + bytesIn [h] := by
  unfold setOf
  rw [bytesIn_append, bytesIn_cons]
  have h1 : bytesIn (without [h.1] (l.drop (placeOf h.1 l))) ≤ bytesIn (l.drop (placeOf h.1 l)) := bytesIn_filter _ _
  have h2 : bytesIn l = bytesIn (l.take (placeOf h.1 l)) + bytesIn (l.drop (placeOf h.1 l)) := by rw [← bytesIn_append, List.take_append_drop]
  have h3 : bytesIn [h] = h.1.size + h.2.size + 1 := by simp [bytesIn]
  omega
theorem bytesIn_mem {l : List Hd} {h : Hd} (hm : h ∈ l) : h.1.size + h.2.size + 1 ≤ bytesIn l := by
  induction l with
  | nil => cases hm
  | cons x r ih =>
    rw [bytesIn_cons]
    rcases List.mem_cons.1 hm with rfl | hm
    · omega
    · have := ih hm; omega
theorem bytesIn_len (l : List Hd) : l.length ≤ bytesIn l := by
  induction l with
  | nil => simp
  | cons x r ih => rw [bytesIn_cons, List.length_cons]; omega
theorem joined_len (n : ByteArray) (l : List Hd) : (joined (vals n l)).length ≤ 3 * bytesIn l := by
  have key : ∀ xs : List ByteArray, (joined xs).length ≤ Lib.lens (xs.map (·.data.toList)) + 2 * xs.length := fun xs => by
    cases xs with
    | nil => simp [joined_nil]
    | cons x r =>
      unfold joined
      rw [List.map_cons, Lib.join_length]
      simp [sep2]
      omega
  have h2 : Lib.lens ((vals n l).map (·.data.toList)) + (vals n l).length ≤ bytesIn l := by
    induction l with
    | nil => simp [vals, Lib.lens]
    | cons x r ih =>
      rw [vals_cons, bytesIn_cons]
      split
      · simp only [List.map_cons, Lib.lens, List.sum_cons, List.length_cons] at ih ⊢
        rw [← size_len]
        omega
      · omega
  have := key (vals n l)
  omega
end Go.Proofs.YtalnjlodldhfbaaGreatDoor

/-
  Words for slices of strings in memory. Conditions: those that each theorem states.
-/
namespace Go.Proofs.YtalnjlodldhfbaaGreatDoor
open Go.RowKit Go.Lib Go.Shelf

/-- The slice value with address A and length n reads as the texts l. -/
structure Texts (w : World) (A : Option Addr) (n : Nat) (l : List (List UInt8)) : Prop where
  len : l.length = n
  cell : 0 < n → ∃ b, A = some ⟨b, 0, Option.none⟩ ∧ b < w.heap.size ∧ ∀ j, j < n → w.cell? ⟨b, j, Option.none⟩ = some (.string (mk (l[j]?.getD [])))

theorem Texts.later {w w' : World} {A : Option Addr} {n : Nat} {l : List (List UInt8)} (h : Texts w A n l) (hb : Below w.heap.size w w') : Texts w' A n l :=
  ⟨h.len, fun hn => by
    obtain ⟨b, e, hlt, hc⟩ := h.cell hn
    exact ⟨b, e, Nat.lt_of_lt_of_le hlt hb.size, fun j hj => cell_later hb (hc j hj)⟩⟩

/-- The call owns the slice v, which reads as the texts l; its block is number 'base' or above. -/
def OwnsT (w : World) (base : Nat) (v : Value) (l : List (List UInt8)) : Prop := w.ownsRow base 9 1 v l.length (l.map fun p => Value.string (mk p))

theorem OwnsT.texts {w : World} {base : Nat} {v : Value} {l : List (List UInt8)} (h : OwnsT w base v l) : ∃ A c, v = .slice A l.length c ∧ Texts w A l.length l := by
  rcases h.2 with ⟨rfl, h0⟩ | ⟨g, cap, cur, rfl, hb, hg, hn, hm, hs, ht⟩
  · have hl : l = [] := List.eq_nil_of_length_eq_zero h0
    subst hl
    exact ⟨Option.none, 0, rfl, rfl, fun hn => absurd hn (by simp)⟩
  · refine ⟨_, cap, rfl, rfl, fun hp => ⟨g, rfl, ?_, fun j hj => ?_⟩⟩
    · rcases Nat.lt_or_ge g w.heap.size with hlt | hge
      · exact hlt
      · rw [Array.getElem?_eq_none hge] at hg; cases hg
    · have := (World.ownsRow.cells h (g := g) rfl) j (.string (mk (l[j]?.getD []))) (by simp [List.getElem?_eq_getElem hj])
      rwa [addr_add, Nat.zero_add] at this
theorem OwnsT.alloc {w : World} {base : Nat} {v : Value} {l : List (List UInt8)} (h : OwnsT w base v l) (o : Obj) : OwnsT (w.alloc o) base v l := World.ownsRow.alloc h o
theorem OwnsT.kept {w w' : World} {base : Nat} {v : Value} {l : List (List UInt8)} {B : Nat} (h : OwnsT w base v l) (hb : Below B w w') (hB : w.heap.size ≤ B) : OwnsT w' base v l :=
  World.ownsRow.kept (row := Option.none) h ⟨hb.os, hb.tape, hb.output, hb.size, fun k hk _ => hb.block k (by omega)⟩ (by cases hv : v.ownBlock <;> simp)
theorem OwnsT.below {w0 w w' : World} {B : Nat} {v : Value} {l : List (List UInt8)} (hown : OwnsT w B v l) (hb : Below B w0 w) (hg : w.grownBy w' v.ownBlock) (hB : B ≤ w.heap.size) : Below B w0 w' :=
  hb.grown hg hB fun k hk => (World.ownsRow.lt hown k hk).1

/-- A new block of texts. -/
theorem texts_new (w : World) (cs : Array Value) (l : List (List UInt8)) (hcs : cs = (l.map fun p => Value.string (mk p)).toArray) : Texts (w.alloc (.cells cs 9)) (some ⟨w.heap.size, 0, Option.none⟩) l.length l :=
  ⟨rfl, fun _ => ⟨w.heap.size, rfl, by simp, fun j hj => by
    have := cell_of_row (w.alloc (.cells cs 9)) w.heap.size j cs 9 (0, 0) (heap_alloc_new w _)
    rw [this, hcs]
    simp [List.getElem?_eq_getElem hj]⟩⟩

theorem Tryz.info9 : (Tryz.prog.info? 9).map (fun i => (i.zero, i.size, i.bytes)) = some (some (.string ByteArray.empty), 1, 16) := by kernel_rfl

/-- A call gives back the texts l in memory of its own, and changes nothing that was there. -/
def GivesT (w : World) (l : List (List UInt8)) (en : Ending) (w' : World) : Prop := ∃ v, en = .returned v ∧ OwnsT w' w.heap.size v l ∧ Below w.heap.size w w'

theorem text_eq (a b : List UInt8) : ((mk a).toList == (mk b).toList) = decide (a = b) := by
  rw [ByteArray.toList_eq, ByteArray.toList_eq, mk_list, mk_list]
  by_cases h : a = b
  · simp [h]
  · simp [h]

theorem same_of {a b : List (List UInt8)} (hl : a.length = b.length) (h : ∀ j, j < a.length → a[j]?.getD [] = b[j]?.getD []) : a = b := by
  apply List.ext_getElem hl
  intro j h1 h2
  have := h j h1
  rw [List.getElem?_eq_getElem h1, List.getElem?_eq_getElem h2] at this
  exact this

theorem below_drawn {B : Nat} {a w : World} (h : Below B a w) (n : Nat) : Below B a (w.drewN n) := ⟨h.os, h.tape, h.output, h.size, h.block⟩
end Go.Proofs.YtalnjlodldhfbaaGreatDoor

/-
  One rule for a statement whose operations Go may carry out in more than one order: an invariant over the set of operations that are done, shown once for each operation, instead of once for each order; and the single operations, each by its own law. Conditions: those that each theorem states.
-/
namespace Go.Proofs.YtalnjlodldhfbaaGreatDoor
open Go.RowKit Leb

section
variable {P : Program} {ops : Array Oper} {Q : Exit → Act → World → Prop}

/-- The operations that must be done before o. -/
def preds (o : Oper) : List Nat := (o.after.toList.filter (Region.binds .any)).map (·.on)

/-- Each operation waits for earlier ones alone. -/
def forwards (ops : Array Oper) : Bool := (List.range ops.size).all fun i => match ops[i]? with | some o => (preds o).all fun k => decide (k < i) | Option.none => true

theorem forwards_spec (h : forwards ops = true) {i : Nat} {o : Oper} (ho : ops[i]? = some o) : ∀ k ∈ preds o, k < i := by
  have hi := (Array.getElem?_eq_some_iff.1 ho).1
  unfold forwards at h
  rw [List.all_eq_true] at h
  have := h i (List.mem_range.2 hi)
  rw [ho] at this
  simp only [List.all_eq_true, decide_eq_true_eq] at this
  exact this

theorem preds_of {o : Oper} {D : Nat → Prop} (h : ∀ e ∈ o.after, Region.binds .any e = true → D e.on) : ∀ k ∈ preds o, D k := by
  intro k hk
  unfold preds at hk
  rw [List.mem_map] at hk
  obtain ⟨e, he, rfl⟩ := hk
  rw [List.mem_filter] at he
  exact h e (by simpa using he.1) he.2

theorem wpAny_inv (I : (Nat → Prop) → Act → World → Prop) (hac : forwards ops = true)
    (step : ∀ D a w i o, I D a w → ops[i]? = some o → ¬ D i → (∀ k ∈ preds o, D k) → wpOp P ops Q i (fun a' w' => I (fun j => D j ∨ j = i) a' w') a w)
    (fin : ∀ D a w, I D a w → (∀ i, i < ops.size → D i) → Q .normal a w) :
    ∀ (fuel : Nat) (listed : Array Bool) (a : Act) (w : World), listed.size = ops.size → listed.toList.countP (! ·) ≤ fuel → I (fun j => listed.getD j false = true) a w → wpAny P .any ops Q fuel listed a w := by
  have all : ∀ (listed : Array Bool), listed.size = ops.size → Region.ready .any ops listed = [] → ∀ i, i < ops.size → listed.getD i false = true := by
    intro listed hs hr i
    induction i using Nat.strongRecOn with
    | ind i ih =>
      intro hi
      cases hd : listed.getD i false with
      | true => rfl
      | false =>
        exfalso
        have ho : ops[i]? = some ops[i] := Array.getElem?_eq_getElem hi
        have : i ∈ Region.ready .any ops listed := by
          rw [mem_ready]
          refine ⟨?_, ops[i], ho, fun e he hb => ?_⟩
          · rw [Array.getD, dif_pos (by omega)] at hd ⊢; exact hd
          · have hk : e.on ∈ preds ops[i] := by
              unfold preds
              rw [List.mem_map]
              exact ⟨e, List.mem_filter.2 ⟨by simpa using he, hb⟩, rfl⟩
            have := forwards_spec hac ho _ hk
            exact ih e.on this (by omega)
        rw [hr] at this
        cases this
  intro fuel
  induction fuel with
  | zero =>
    intro listed a w hs hc hI
    have h0 : ∀ i, i < listed.size → listed.getD i false = true := by
      intro i hi
      have := List.countP_eq_zero.1 (Nat.le_zero.1 hc) listed[i] (by simp)
      rw [Array.getD, dif_pos hi]
      simpa using this
    have hr : Region.ready .any ops listed = [] := by
      apply List.eq_nil_iff_forall_not_mem.2
      intro j hj
      rw [mem_ready] at hj
      obtain ⟨h1, o, ho, _⟩ := hj
      have hj' := (Array.getElem?_eq_some_iff.1 ho).1
      have := h0 j (by omega)
      rw [Array.getD, dif_pos (by omega)] at this h1
      rw [this] at h1
      cases h1
    exact ⟨hr, fin _ a w hI (fun i hi => h0 i (by omega))⟩
  | succ fuel ih =>
    intro listed a w hs hc hI
    refine ⟨fun hr => fin _ a w hI (all listed hs hr), fun i hi => ?_⟩
    rw [mem_ready] at hi
    obtain ⟨h1, o, ho, hpre⟩ := hi
    have hlt := (Array.getElem?_eq_some_iff.1 ho).1
    have hli : listed[i]'(by omega) = false := by rw [Array.getD, dif_pos (by omega)] at h1; exact h1
    have hnd : ¬ listed.getD i false = true := by rw [Array.getD, dif_pos (by omega)]; show ¬ listed[i]'(by omega) = true; rw [hli]; simp
    refine wpOp_mono (fun a' w' h => ?_) (step _ a w i o hI ho hnd (preds_of hpre))
    refine ih (listed.setIfInBounds i true) a' w' (by simpa using hs) ?_ ?_
    · rw [Array.toList_setIfInBounds, List.countP_set (by simpa using (by omega : i < listed.size))]
      have e1 : (! listed.toList[i]'(by simpa using (by omega : i < listed.size))) = true := by simp [hli]
      rw [if_pos e1]
      have hpos : 0 < listed.toList.countP (! ·) := by
        rw [List.countP_pos_iff]
        exact ⟨listed.toList[i]'(by simpa using (by omega : i < listed.size)), List.getElem_mem _, e1⟩
      have e2 : (if (! true) = true then 1 else 0) = 0 := rfl
      rw [e2]
      omega
    · have e : (fun j => (listed.setIfInBounds i true).getD j false = true) = (fun j => listed.getD j false = true ∨ j = i) := by
        funext j
        apply propext
        by_cases hj : j = i
        · subst hj
          have : (listed.setIfInBounds j true).getD j false = true := by
            rw [Array.getD, dif_pos (by simpa using (by omega : j < listed.size))]
            simp
          simp [this]
        · rw [getD_set_ne false (Ne.symm hj)]
          simp [hj]
      rw [e]
      exact h

/-- The rule. -/
theorem wp_region_inv {id : Nat} {a : Act} {w : World} (I : (Nat → Prop) → Act → World → Prop) (hm : P.follows .mixedOrders = true) (hac : forwards ops = true)
    (h0 : I (fun _ => False) a w.drew)
    (step : ∀ D a w i o, I D a w → ops[i]? = some o → ¬ D i → (∀ k ∈ preds o, D k) → wpOp P ops Q i (fun a' w' => I (fun j => D j ∨ j = i) a' w') a w)
    (fin : ∀ D a w, I D a w → (∀ i, i < ops.size → D i) → Q .normal a w) : (Code.region id ops true).wp P Q a w := by
  refine wp_region_any hm (wpAny_inv I hac step fin _ _ _ _ (by simp) ?_ ?_)
  · rw [show (Array.replicate ops.size false).toList = List.replicate ops.size false by simp, List.countP_replicate]
    simp
  · have e : (fun j => (Array.replicate ops.size false).getD j false = true) = (fun _ => False) := by
      funext j
      apply propext
      simp only [iff_false]
      rw [Array.getD]
      split <;> simp
    rw [e]
    exact h0

/-- The operations that must be done before operation number i. -/
def predsAt (ops : Array Oper) (i : Nat) : List Nat := match ops[i]? with | some o => preds o | Option.none => []

/-- The rule, operation by operation: what is done is done with all that it waited for. -/
theorem wp_region_each {id : Nat} {a : Act} {w : World} (I : (Nat → Prop) → Act → World → Prop) (hm : P.follows .mixedOrders = true) (hac : forwards ops = true)
    (h0 : I (fun _ => False) a w.drew)
    (step : ∀ i, i < ops.size → ∀ D a w, I D a w → (∀ j, D j → ∀ k, (predsAt ops j).contains k = true → D k) → ¬ D i → (∀ k, (predsAt ops i).contains k = true → D k) → wpOp P ops Q i (fun a' w' => I (fun j => D j ∨ j = i) a' w') a w)
    (fin : ∀ D a w, I D a w → (∀ i, i < ops.size → D i) → Q .normal a w) : (Code.region id ops true).wp P Q a w := by
  refine wp_region_inv (fun D a w => I D a w ∧ ∀ j, D j → ∀ k, (predsAt ops j).contains k = true → D k) hm hac ⟨h0, fun j hj => hj.elim⟩ ?_ (fun D a w h hall => fin D a w h.1 hall)
  intro D a w i o ⟨hI, hcl⟩ ho hnd hpre
  have hlt := (Array.getElem?_eq_some_iff.1 ho).1
  have hp : ∀ k, (predsAt ops i).contains k = true → D k := by
    intro k hk
    unfold predsAt at hk
    rw [ho] at hk
    exact hpre k (by simpa using hk)
  refine wpOp_mono (fun a' w' h => ⟨h, fun j hj k hk => ?_⟩) (step i hlt D a w hI hcl hnd hp)
  rcases hj with hj | rfl
  · exact .inl (hcl j hj k hk)
  · exact .inl (hp k hk)

/-! ### The slots of a frame that is a letter -/

theorem eval_put_same (a : Act) (d : Nat) (v : Value) (h : d < a.tmps.size) : (a.put (some d) v).eval (.tmp d) = v := by
  simp [Act.eval, Act.put, h]
theorem eval_put_other (a : Act) {d t : Nat} (v : Value) (h : t ≠ d) : (a.put (some d) v).eval (.tmp t) = a.eval (.tmp t) :=
  Act.eval_put (by intro d' hd e; injection hd with hd; injection e with e; subst hd; exact h e)
theorem size_put (a : Act) (d : Option Tmp) (v : Value) : (a.put d v).tmps.size = a.tmps.size := by
  cases d <;> simp [Act.put]
theorem defers_put (a : Act) (d : Option Tmp) (v : Value) : (a.put d v).defers = a.defers := by
  cases d <;> rfl

/-- An operation whose guard is what it asks for, or that has none, is carried out. -/
theorem wanted_free {o : Oper} {y : Nat → Option Bool} (h : o.guard = Option.none) : Region.wanted o y = true := by simp [Region.wanted, h]
theorem wanted_by {o : Oper} {a : Act} {j d : Nat} {b : Bool} (h : o.guard = some (j, b)) (og : Oper) (hj : ops[j]? = some og) (hd : og.dst = some d) (hv : a.eval (.tmp d) = .bool b) : Region.wanted o (yielded ops a.tmps) = true := by
  have hs : a.tmps[d]? = some (.bool b) := by
    simp only [Act.eval, Array.getD_eq_getD_getElem?] at hv
    cases hx : a.tmps[d]? with
    | none => rw [hx] at hv; simp [undef] at hv
    | some x => rw [hx] at hv; simpa using hv
  simp [Region.wanted, h, yielded, hj, hd, hs]

/-- An operation that yields a value. -/
theorem wpOp_value {i : Nat} {o : Oper} {a : Act} {w w' : World} {K : Act → World → Prop} {v : Value} (ho : ops[i]? = some o) (hw : Region.wanted o (yielded ops a.tmps) = true)
    (hr : (execOp a.eval o).run P w = .ok (.value v) w') (hK : K (a.put o.dst v) w') : wpOp P ops Q i K a w :=
  wpOp_step ho fun K' hK' => by rw [if_pos hw]; unfold Oper.wp; rw [hr]; exact hK' _ _ hK

/-- A call of a Go function, by its contract. -/
theorem wpOp_call {i : Nat} {o : Oper} {a : Act} {w : World} {K : Act → World → Prop} (ho : ops[i]? = some o) (hw : Region.wanted o (yielded ops a.tmps) = true)
    (f : FuncId) (vs : Array Value) (hr : (execOp a.eval o).run P w = .ok (.enter f vs) w) {R : Ending → World → Prop} (hc : Calls P f vs w R) (hK : ∀ e w', R e w' → ∃ v, e = .returned v ∧ K (a.put o.dst v) w') : wpOp P ops Q i K a w :=
  wpOp_step ho fun K' hK' => by
    rw [if_pos hw]
    unfold Oper.wp
    rw [hr]
    refine hc.mono fun e w' h => ?_
    obtain ⟨v, rfl, hv⟩ := hK e w' h
    exact hK' _ _ hv

section
variable {i : Nat} {o : Oper} {a : Act} {w w' : World} {K : Act → World → Prop}
theorem wpOp_move (ho : ops[i]? = some o) (hw : Region.wanted o (yielded ops a.tmps) = true) (x : Operand) (hop : o.op = .move x) (v : Value) (hx : a.eval x = v) (hK : K (a.put o.dst v) w) : wpOp P ops Q i K a w :=
  wpOp_value ho hw (v := v) (w' := w) (by simp only [execOp, hop, hx]; rfl) hK
theorem wpOp_assign (ho : ops[i]? = some o) (hw : Region.wanted o (yielded ops a.tmps) = true) (x : Operand) (hop : o.op = .assign x) (v : Value) (hx : a.eval x = v) (hK : K (a.put o.dst v) w) : wpOp P ops Q i K a w :=
  wpOp_value ho hw (v := v) (w' := w) (by simp only [execOp, hop, hx]; rfl) hK
theorem wpOp_pick (ho : ops[i]? = some o) (hw : Region.wanted o (yielded ops a.tmps) = true) (c x y : Operand) (hop : o.op = .pick c x y) (b : Bool) (hc : a.eval c = .bool b) (v : Value) (hv : (if b then a.eval x else a.eval y) = v) (hK : K (a.put o.dst v) w) : wpOp P ops Q i K a w :=
  wpOp_value ho hw (v := v) (w' := w) (by simp only [execOp, hop, hc, ← hv]; rfl) hK
theorem wpOp_convert (ho : ops[i]? = some o) (hw : Region.wanted o (yielded ops a.tmps) = true) (src dst : TypeId) (x : Operand) (hop : o.op = .convert src dst x) (u v : Value) (hx : a.eval x = u) (hr : (convert src dst u).run P w = .ok v w') (hK : K (a.put o.dst v) w') : wpOp P ops Q i K a w :=
  wpOp_value ho hw (v := v) (w' := w') (by simp only [execOp, hop, hx, Sem.run_bind, hr]; rfl) hK
theorem wpOp_build (ho : ops[i]? = some o) (hw : Region.wanted o (yielded ops a.tmps) = true) (t : TypeId) (n : Nat) (ps : Array (Nat × Operand)) (hop : o.op = .buildSlice t n ps) (us : Array (Nat × Value)) (hu : (ps.map fun (k, x) => (k, a.eval x)) = us) (v : Value) (hr : (Instr.buildSlice t n us).run P w = .ok v w') (hK : K (a.put o.dst v) w') : wpOp P ops Q i K a w :=
  wpOp_value ho hw (v := v) (w' := w') (by simp only [execOp, hop, hu, Sem.run_bind, hr]; rfl) hK
theorem wpOp_bin (ho : ops[i]? = some o) (hw : Region.wanted o (yielded ops a.tmps) = true) (op : BinOp) (t t' : TypeId) (x y : Operand) (hop : o.op = .binOp op t x y t') (u u' v : Value) (hx : a.eval x = u) (hy : a.eval y = u')
    (hr : (do eqGuard op t x y u u'; binOp op t u u' : Sem Value).run P w = .ok v w) (hK : K (a.put o.dst v) w) : wpOp P ops Q i K a w :=
  wpOp_value ho hw (v := v) (w' := w) (by
    have := congrArg (fun r : Result Value => r.andThen fun x w'' => (Sem.run P (pure (Next.value x) : Sem Next) w'')) hr
    simp only [execOp, hop, hx, hy]
    rw [Sem.run_bind]
    exact this) hK
theorem wpOp_index (ho : ops[i]? = some o) (hw : Region.wanted o (yielded ops a.tmps) = true) (t : TypeId) (x y : Operand) (hop : o.op = .indexAddr t x y) (u u' v : Value) (hx : a.eval x = u) (hy : a.eval y = u') (hr : (Instr.indexAt t u u').run P w = .ok v w) (hK : K (a.put o.dst v) w) : wpOp P ops Q i K a w :=
  wpOp_value ho hw (v := v) (w' := w) (by simp only [execOp, hop, hx, hy, Sem.run_bind, hr]; rfl) hK
theorem wpOp_load (ho : ops[i]? = some o) (hw : Region.wanted o (yielded ops a.tmps) = true) (t : TypeId) (x : Operand) (hop : o.op = .load t x) (u v : Value) (hx : a.eval x = u) (hr : (Instr.loadAt t u).run P w = .ok v w) (hK : K (a.put o.dst v) w) : wpOp P ops Q i K a w :=
  wpOp_value ho hw (v := v) (w' := w) (by simp only [execOp, hop, hx, Sem.run_bind, hr]; rfl) hK
theorem wpOp_unary (ho : ops[i]? = some o) (hw : Region.wanted o (yielded ops a.tmps) = true) (op : UnOp) (t : TypeId) (x : Operand) (hop : o.op = .unOp op t x) (u v : Value) (hx : a.eval x = u) (hr : (Op.unary op u).run P w = .ok v w) (hK : K (a.put o.dst v) w) : wpOp P ops Q i K a w :=
  wpOp_value ho hw (v := v) (w' := w) (by simp only [execOp, hop, hx, Sem.run_bind, hr]; rfl) hK
theorem wpOp_slice (ho : ops[i]? = some o) (hw : Region.wanted o (yielded ops a.tmps) = true) (t : TypeId) (x : Operand) (lo hi mx : Option Operand) (hop : o.op = .slice t x lo hi mx) (u v : Value) (lo' hi' mx' : Option Value) (hx : a.eval x = u) (h1 : lo.map a.eval = lo') (h2 : hi.map a.eval = hi') (h3 : mx.map a.eval = mx')
    (hr : (Instr.sliceAt t u lo' hi' mx').run P w = .ok v w) (hK : K (a.put o.dst v) w) : wpOp P ops Q i K a w :=
  wpOp_value ho hw (v := v) (w' := w) (by simp only [execOp, hop, hx, h1, h2, h3, Sem.run_bind, hr]; rfl) hK
theorem wpOp_len (ho : ops[i]? = some o) (hw : Region.wanted o (yielded ops a.tmps) = true) (x : Operand) (t : TypeId) (hop : o.op = .call { callee := .builtin .len, args := #[x], argTypes := #[t] }) (e : TypeId) (ht : P.underlying t = some (.slice e)) (A : Option Addr) (n c : Nat) (hx : a.eval x = .slice A n c) (hK : K (a.put o.dst (.int .i64 n)) w) : wpOp P ops Q i K a w :=
  wpOp_value ho hw (v := .int .i64 n) (w' := w) (by
    unfold execOp
    simp only [hop, resolve, invoke, builtin, Sem.run_bind, Sem.run_pure, Result.andThen_ok, List.map_toArray, List.map_cons, List.map_nil, hx]
    simp [Builtin.len_, run_underlying ht, goInt]) hK
theorem wpOp_call0 (ho : ops[i]? = some o) (hw : Region.wanted o (yielded ops a.tmps) = true) (f : FuncId) (ts : Array TypeId) (hop : o.op = .call { callee := .value (.func f), args := #[], argTypes := ts })
    {R : Ending → World → Prop} (hcf : (callFunc f #[]).run P w = .ok (.enter f #[]) w) (hc : Calls P f #[] w R) (hK : ∀ e w', R e w' → ∃ v, e = .returned v ∧ K (a.put o.dst v) w') : wpOp P ops Q i K a w :=
  wpOp_call ho hw f #[] (by
    unfold execOp
    simp only [hop, resolve, Act.eval, Deferred.ofValue, invoke, Sem.run_bind, Sem.run_pure, Result.andThen_ok, List.map_toArray, List.map_nil, Array.append_empty]
    exact hcf) hc hK
theorem wpOp_call1 (ho : ops[i]? = some o) (hw : Region.wanted o (yielded ops a.tmps) = true) (f : FuncId) (x : Operand) (ts : Array TypeId) (hop : o.op = .call { callee := .value (.func f), args := #[x], argTypes := ts }) (u : Value) (hx : a.eval x = u)
    {R : Ending → World → Prop} (hcf : (callFunc f #[u]).run P w = .ok (.enter f #[u]) w) (hc : Calls P f #[u] w R) (hK : ∀ e w', R e w' → ∃ v, e = .returned v ∧ K (a.put o.dst v) w') : wpOp P ops Q i K a w :=
  wpOp_call ho hw f #[u] (by
    subst hx
    unfold execOp
    simp only [hop, resolve, Act.eval, Deferred.ofValue, invoke, Sem.run_bind, Sem.run_pure, Result.andThen_ok, List.map_toArray, List.map_cons, List.map_nil, Array.append_empty]
    exact hcf) hc hK
theorem wpOp_call2 (ho : ops[i]? = some o) (hw : Region.wanted o (yielded ops a.tmps) = true) (f : FuncId) (x y : Operand) (ts : Array TypeId) (hop : o.op = .call { callee := .value (.func f), args := #[x, y], argTypes := ts }) (u u' : Value) (hx : a.eval x = u) (hy : a.eval y = u')
    {R : Ending → World → Prop} (hcf : (callFunc f #[u, u']).run P w = .ok (.enter f #[u, u']) w) (hc : Calls P f #[u, u'] w R) (hK : ∀ e w', R e w' → ∃ v, e = .returned v ∧ K (a.put o.dst v) w') : wpOp P ops Q i K a w :=
  wpOp_call ho hw f #[u, u'] (by
    subst hx
    subst hy
    unfold execOp
    simp only [hop, resolve, Act.eval, Deferred.ofValue, invoke, Sem.run_bind, Sem.run_pure, Result.andThen_ok, List.map_toArray, List.map_cons, List.map_nil, Array.append_empty]
    exact hcf) hc hK
/-- 'append' of whatever reads as bytes onto a slice of the call's own. -/
theorem wpOp_append (ho : ops[i]? = some o) (hw : Region.wanted o (yielded ops a.tmps) = true) (s x : Operand) (t : TypeId) (hop : o.op = .call { callee := .builtin .append, args := #[s, x], argTypes := #[t, t] })
    (base : Nat) (e : TypeId) (inf : TypeInfo) (ht : P.underlying t = some (.slice e)) (hi : P.info? e = some inf) (hz : inf.zero = some (.int .u8 0)) (hz1 : inf.size = 1) (hz2 : inf.bytes = 1)
    (v : Value) (xs : List Int) (hs : a.eval s = v) (hown : Owns w base e v xs) (A : Option Addr) (m c : Nat) (l : List Int) (hx : a.eval x = .slice A m c) (h : Holds w A m c l)
    (hlim : xs.length + m ≤ 140737488355328) (hbase : base ≤ w.heap.size)
    (hK : ∀ v' w', Owns w' base e v' (xs ++ l) → w.grownBy w' v.ownBlock → (v'.ownBlock = v.ownBlock ∨ v'.ownBlock = some w.heap.size) → K (a.put o.dst v') w') : wpOp P ops Q i K a w :=
  wpOp_step ho fun K' hK' => by
    rw [if_pos hw]
    exact wp_append_bytes s x t hop base e inf ht hi hz hz1 hz2 v xs hs hown A m c l hx h hlim hbase fun v' w' h1 h2 h3 => hK' _ _ (hK v' w' h1 h2 h3)
end
end

/-- Every cell that was there holds what it held. -/
structure Keeps (w w' : World) : Prop where
  size : w.heap.size ≤ w'.heap.size
  cell : ∀ a v, w.cell? a = some v → w'.cell? a = some v
theorem Keeps.refl (w : World) : Keeps w w := ⟨Nat.le_refl _, fun _ _ h => h⟩
theorem below_keeps {w w' : World} (hb : Below w.heap.size w w') : Keeps w w' := ⟨hb.size, fun _ _ h => cell_later hb h⟩
theorem Holds.keeps {w w' : World} {A : Option Addr} {n c : Nat} {l : List Int} (h : Holds w A n c l) (hk : Keeps w w') : Holds w' A n c l :=
  ⟨h.len, h.byt, h.cap, h.room, h.bare, fun hn => by
    obtain ⟨b, off, e, hc⟩ := h.cell hn
    exact ⟨b, off, e, fun j hj => hk.cell _ _ (hc j hj)⟩⟩

/-- The mark that '[]byte("..")' lays behind its row changes no cell. -/
theorem cell_freeze (w : World) (p a : Addr) (k : Nat) : (w.freeze p k).cell? a = w.cell? a := by
  unfold World.freeze
  split
  · rfl
  · simp only [World.cell?, Array.getElem?_modify]
    by_cases h : p.block = a.block
    · rw [if_pos h]
      cases hb : w.heap[a.block]? with
      | none => rfl
      | some o => cases o <;> rfl
    · rw [if_neg h]
theorem keeps_freeze (w : World) (p : Addr) (k : Nat) : Keeps w (w.freeze p k) := by
  refine ⟨?_, fun a v h => by rw [cell_freeze]; exact h⟩
  unfold World.freeze
  split
  · exact Nat.le_refl _
  · simp
theorem below_freezes {B : Nat} {a w : World} (h : Below B a w) {p : Addr} (hp : B ≤ p.block) (n : Nat) : Below B a (w.freeze p n) := by
  refine h.trans ⟨?_, ?_, ?_, (keeps_freeze w p n).size, fun k hk => ?_⟩
  · unfold World.freeze; split <;> rfl
  · unfold World.freeze; split <;> rfl
  · unfold World.freeze; split <;> rfl
  · unfold World.freeze
    split
    · rfl
    · simp only [Array.getElem?_modify]
      rw [if_neg (by omega)]
theorem run_mark (P : Program) (w : World) (t e : TypeId) (g n c : Nat) (ht : P.underlying t = some (.slice e)) (he : P.underlying e = some (.int .u8)) :
    ∃ w', (convert t t (.slice (some ⟨g, 0, Option.none⟩) n c)).run P w = .ok (.slice (some ⟨g, 0, Option.none⟩) n c) w' ∧ Keeps w w' ∧ ∀ B a, Below B a w → B ≤ g → Below B a w' := by
  cases hs : w.shape? g with
  | none => exact ⟨w, by simp [convert, run_underlying ht, run_underlying he, markStringish, hs], Keeps.refl w, fun _ _ h _ => h⟩
  | some p => exact ⟨w.freeze ⟨g, p.2, Option.none⟩ 1, by simp [convert, run_underlying ht, run_underlying he, markStringish, hs], keeps_freeze _ _ _, fun _ _ h hB => below_freezes h hB 1⟩

/-- A slot holds a slice that reads as l. -/
def BB (l : List Int) (v : Value) (w : World) : Prop := ∃ A c, v = .slice A l.length c ∧ Holds w A l.length c l
theorem BB.later {l : List Int} {v : Value} {w w' : World} (h : BB l v w) (hb : Below w.heap.size w w') : BB l v w' := by
  obtain ⟨A, c, rfl, hA⟩ := h
  exact ⟨A, c, rfl, hA.later hb⟩

theorem BB.keeps {l : List Int} {v : Value} {w w' : World} (h : BB l v w) (hk : Keeps w w') : BB l v w' := by
  obtain ⟨A, c, rfl, hA⟩ := h
  exact ⟨A, c, rfl, hA.keeps hk⟩

/-- The block of the own slice v is not the one in which u's bytes lie. -/
def Apart (v u : Value) : Prop := ∀ g b off n c, v.ownBlock = some g → u = .slice (some ⟨b, off, Option.none⟩) n c → 0 < n → b ≠ g

theorem Holds.grown {w w' : World} {A : Option Addr} {n c : Nat} {l : List Int} {v : Value} (h : Holds w A n c l) (hg : w.grownBy w' v.ownBlock) (ha : Apart v (.slice A n c)) : Holds w' A n c l :=
  ⟨h.len, h.byt, h.cap, h.room, h.bare, fun hn => by
    obtain ⟨b, off, rfl, hc⟩ := h.cell hn
    refine ⟨b, off, rfl, fun j hj => ?_⟩
    have hlt := World.block_lt_of_cell? w _ (hc 0 hn)
    rw [← hc j hj]
    exact World.cell?_of_block (hg.block b hlt (fun e => ha b b off n c e.symm rfl hn rfl))⟩

theorem BB.grown {l : List Int} {v u : Value} {w w' : World} (h : BB l u w) (hg : w.grownBy w' v.ownBlock) (ha : Apart v u) : BB l u w' := by
  obtain ⟨A, c, rfl, hA⟩ := h
  exact ⟨A, c, rfl, hA.grown hg ha⟩

theorem Holds.block {w : World} {b off n c : Nat} {l : List Int} (h : Holds w (some ⟨b, off, Option.none⟩) n c l) (hn : 0 < n) : b < w.heap.size := by
  obtain ⟨b', off', e, hc⟩ := h.cell hn
  injection e with e
  injection e with e1 e2
  subst e1
  exact World.block_lt_of_cell? w _ (hc 0 hn)

theorem BB.block {w : World} {l : List Int} {u : Value} (h : BB l u w) {b off n c : Nat} (hu : u = .slice (some ⟨b, off, Option.none⟩) n c) (hn : 0 < n) : b < w.heap.size := by
  obtain ⟨A, cc, rfl, hA⟩ := h
  injection hu with h1 h2 h3
  subst h1
  subst h2
  exact hA.block hn

/-! ### The invariant that most regions want: each operation's slot holds what its fact says; all other slots are as they were; memory has at most grown -/

/-- The slots of the operations: no slot twice, all within the frame. -/
def slotsGood (N : Nat) (ds : List Nat) : Bool := decide ds.Nodup && ds.all fun t => decide (t < N)

def slotAt (ds : List Nat) (j : Nat) : Nat := ds[j]?.getD 0

theorem slotAt_mem {ds : List Nat} {j : Nat} (h : j < ds.length) : slotAt ds j ∈ ds := by
  unfold slotAt
  rw [List.getElem?_eq_getElem h]
  exact List.getElem_mem h

theorem slotAt_lt {N : Nat} {ds : List Nat} (hg : slotsGood N ds = true) {j : Nat} (h : j < ds.length) : slotAt ds j < N := by
  unfold slotsGood at hg
  simp only [Bool.and_eq_true, List.all_eq_true, decide_eq_true_eq] at hg
  exact hg.2 _ (slotAt_mem h)

theorem slotAt_ne {N : Nat} {ds : List Nat} (hg : slotsGood N ds = true) {i j : Nat} (hi : i < ds.length) (hj : j < ds.length) (hne : j ≠ i) : slotAt ds j ≠ slotAt ds i := by
  unfold slotsGood at hg
  simp only [Bool.and_eq_true, decide_eq_true_eq] at hg
  unfold slotAt
  rw [List.getElem?_eq_getElem hi, List.getElem?_eq_getElem hj]
  simp only [Option.getD_some]
  intro e
  exact hne ((List.getElem_inj hg.1).1 e)

structure RInv (N : Nat) (ds : List Nat) (a0 : Act) (F : Nat → Value → World → Prop) (w0 : World) (X : (Nat → Prop) → Act → World → Prop) (D : Nat → Prop) (a : Act) (w : World) : Prop where
  size : a.tmps.size = N
  defs : a.defers = a0.defers
  few : ∀ j, D j → j < ds.length
  same : ∀ t, t ∉ ds → a.eval (.tmp t) = a0.eval (.tmp t)
  fact : ∀ j, D j → F j (a.eval (.tmp (slotAt ds j))) w
  more : X D a w
  below : Below w0.heap.size w0 w

section
variable {N : Nat} {ds : List Nat} {a0 : Act} {F : Nat → Value → World → Prop} {w0 : World} {X : (Nat → Prop) → Act → World → Prop} {D : Nat → Prop} {a : Act} {w w' : World}

theorem RInv.start (hs : a0.tmps.size = N) (hX : X (fun _ => False) a0 w) (hb : Below w0.heap.size w0 w) : RInv N ds a0 F w0 X (fun _ => False) a0 w :=
  ⟨hs, rfl, fun _ h => h.elim, fun _ _ => rfl, fun _ h => h.elim, hX, hb⟩

theorem RInv.put {i : Nat} {v : Value} (hg : slotsGood N ds = true) (hI : RInv N ds a0 F w0 X D a w) (hi : i < ds.length)
    (hF : ∀ j, D j → j ≠ i → F j (a.eval (.tmp (slotAt ds j))) w → F j (a.eval (.tmp (slotAt ds j))) w') (hv : F i v w')
    (hX : X (fun j => D j ∨ j = i) (a.put (some (slotAt ds i)) v) w') (hb : Below w0.heap.size w0 w') : RInv N ds a0 F w0 X (fun j => D j ∨ j = i) (a.put (some (slotAt ds i)) v) w' := by
  refine ⟨by rw [size_put, hI.size], by rw [defers_put, hI.defs], fun j hj => hj.elim (hI.few j) (fun e => e ▸ hi), fun t ht => ?_, fun j hj => ?_, hX, hb⟩
  · rw [eval_put_other _ _ (fun e => ht (by rw [e]; exact slotAt_mem hi)), hI.same t ht]
  · by_cases hji : j = i
    · subst hji
      rw [eval_put_same _ _ _ (by rw [hI.size]; exact slotAt_lt hg hi)]
      exact hv
    · have hj' : D j := hj.resolve_right hji
      rw [eval_put_other _ _ (slotAt_ne hg hi (hI.few j hj') hji)]
      exact hF j hj' hji (hI.fact j hj')

/-- No more is asked. -/
def NoMore (_ : Nat → Prop) (_ : Act) (_ : World) : Prop := True

/-- The facts outlive whatever leaves the cells that were there. -/
def Outlives (F : Nat → Value → World → Prop) : Prop := ∀ j v w w', F j v w → Keeps w w' → F j v w'

theorem RInv.addK {i : Nat} {v : Value} (hI : RInv N ds a0 F w0 NoMore D a w) (hg : slotsGood N ds = true) (hl : Outlives F) (hi : i < ds.length) (hk : Keeps w w') (hb : Below w0.heap.size w0 w') (hv : F i v w') :
    RInv N ds a0 F w0 NoMore (fun j => D j ∨ j = i) (a.put (some (slotAt ds i)) v) w' :=
  hI.put hg hi (fun j _ _ h => hl j _ _ _ h hk) hv trivial hb

theorem RInv.add {i : Nat} {v : Value} (hI : RInv N ds a0 F w0 NoMore D a w) (hg : slotsGood N ds = true) (hl : Outlives F) (hi : i < ds.length) (hb : Below w.heap.size w w') (hv : F i v w') :
    RInv N ds a0 F w0 NoMore (fun j => D j ∨ j = i) (a.put (some (slotAt ds i)) v) w' :=
  hI.put hg hi (fun j _ _ h => hl j _ _ _ h (below_keeps hb)) hv trivial (hI.below.trans (hb.mono hI.below.size))

/-- The frame with the slots ds laid anew. -/
def putAll (a0 : Act) : List Nat → List Value → Act
  | d :: ds, u :: us => (putAll a0 ds us).put (some d) u
  | _, _ => a0

theorem putAll_size (a0 : Act) : ∀ (ds : List Nat) (us : List Value), (putAll a0 ds us).tmps.size = a0.tmps.size
  | d :: ds, u :: us => by rw [putAll, size_put, putAll_size a0 ds us]
  | [], _ => rfl
  | _ :: _, [] => rfl
theorem putAll_defers (a0 : Act) : ∀ (ds : List Nat) (us : List Value), (putAll a0 ds us).defers = a0.defers
  | d :: ds, u :: us => by rw [putAll, defers_put, putAll_defers a0 ds us]
  | [], _ => rfl
  | _ :: _, [] => rfl
theorem putAll_other (a0 : Act) : ∀ (ds : List Nat) (us : List Value) (t : Nat), t ∉ ds → (putAll a0 ds us).eval (.tmp t) = a0.eval (.tmp t)
  | d :: ds, u :: us, t, h => by
    rw [putAll, eval_put_other _ _ (fun e => h (by simp [e])), putAll_other a0 ds us t (fun e => h (by simp [e]))]
  | [], _, _, _ => rfl
  | _ :: _, [], _, _ => rfl
theorem putAll_at (a0 : Act) (f : Nat → Value) : ∀ (ds : List Nat), ds.Nodup → (∀ t ∈ ds, t < a0.tmps.size) → ∀ t ∈ ds, (putAll a0 ds (ds.map f)).eval (.tmp t) = f t
  | d :: ds, hn, hs, t, ht => by
    rw [List.map_cons, putAll]
    by_cases e : t = d
    · subst e
      rw [eval_put_same _ _ _ (by rw [putAll_size]; exact hs t (by simp))]
    · rw [eval_put_other _ _ e]
      have hn' := List.nodup_cons.1 hn
      exact putAll_at a0 f ds hn'.2 (fun x hx => hs x (by simp [hx])) t ((List.mem_cons.1 ht).resolve_left e)

theorem act_ext {a b : Act} (h1 : a.tmps.size = b.tmps.size) (h2 : a.defers = b.defers) (h3 : ∀ t, t < a.tmps.size → a.eval (.tmp t) = b.eval (.tmp t)) : a = b := by
  obtain ⟨x, xd⟩ := a
  obtain ⟨y, yd⟩ := b
  simp only at h1 h2 h3
  subst h2
  have : x = y := by
    apply Array.ext h1
    intro t ht ht'
    have := h3 t ht
    simpa [Act.eval, Array.getD, ht, ht'] using this
  rw [this]

/-- Behind the region: the frame written out, and each slot's fact. -/
theorem RInv.done (hI : RInv N ds a0 F w0 X D a w) (hg : slotsGood N ds = true) (hs : a0.tmps.size = N) (hall : ∀ i, i < ds.length → D i) :
    ∃ f : Nat → Value, a = putAll a0 ds (ds.map f) ∧ ∀ j, j < ds.length → F j (f (slotAt ds j)) w := by
  refine ⟨fun t => a.eval (.tmp t), ?_, fun j hj => hI.fact j (hall j hj)⟩
  unfold slotsGood at hg
  simp only [Bool.and_eq_true, List.all_eq_true, decide_eq_true_eq] at hg
  refine act_ext (by rw [putAll_size, hI.size, hs]) (by rw [putAll_defers, hI.defs]) fun t _ => ?_
  by_cases ht : t ∈ ds
  · rw [putAll_at a0 _ ds hg.1 (fun x hx => by rw [hs]; exact hg.2 x hx) t ht]
  · rw [putAll_other a0 ds _ t ht, hI.same t ht]
end
end Go.Proofs.YtalnjlodldhfbaaGreatDoor

/-
  Words for slices of headers (two cells an element) and of strings in memory. Conditions: those that each theorem states.
-/
namespace Go.Proofs.YtalnjlodldhfbaaGreatDoor
open Go.RowKit Go.Lib Go.Shelf

/-- The cells of headers, one behind the other. -/
def hcells (l : List Hd) : List Value := l.flatMap fun h => [.string h.1, .string h.2]
theorem hcells_len (l : List Hd) : (hcells l).length = l.length * 2 := by
  induction l with
  | nil => rfl
  | cons h r ih => simp only [hcells, List.flatMap_cons, List.length_append, List.length_cons, List.length_nil] at ih ⊢; omega
theorem hcells_append (a b : List Hd) : hcells (a ++ b) = hcells a ++ hcells b := by simp [hcells]
theorem hcells_at {l : List Hd} {j : Nat} (hj : j < l.length) : (hcells l)[j * 2]? = some (.string l[j].1) ∧ (hcells l)[j * 2 + 1]? = some (.string l[j].2) := by
  induction l generalizing j with
  | nil => simp at hj
  | cons h r ih =>
    cases j with
    | zero => simp [hcells]
    | succ j =>
      have := ih (j := j) (by simpa using hj)
      have e : hcells (h :: r) = .string h.1 :: .string h.2 :: hcells r := rfl
      rw [e, show (j + 1) * 2 = j * 2 + 2 by omega]
      simpa using this
theorem hcells_one (l : List Hd) : ∀ u ∈ hcells l, u.oneCell' = true := by
  intro u hu
  obtain ⟨h, _, hh⟩ := List.mem_flatMap.1 hu
  simp at hh
  rcases hh with rfl | rfl <;> rfl

/-- The slice value with address A, length n and capacity c reads as the headers l. -/
structure Hds (w : World) (A : Option Addr) (n c : Nat) (l : List Hd) : Prop where
  len : l.length = n
  cap : n ≤ c
  room : c ≤ maxLen
  bare : A = Option.none → c = 0
  cell : 0 < n → ∃ b off, A = some ⟨b, off, Option.none⟩ ∧ b < w.heap.size ∧ ∀ j, j < n * 2 → w.cell? ⟨b, off + j, Option.none⟩ = (hcells l)[j]?

section
variable {w w' : World} {A : Option Addr} {n c : Nat} {l : List Hd}
theorem Hds.later (h : Hds w A n c l) (hb : Below w.heap.size w w') : Hds w' A n c l :=
  ⟨h.len, h.cap, h.room, h.bare, fun hn => by
    obtain ⟨b, off, e, hlt, hc⟩ := h.cell hn
    refine ⟨b, off, e, Nat.lt_of_lt_of_le hlt hb.size, fun j hj => ?_⟩
    rw [← hc j hj]
    exact hb.cell (p := ⟨b, off + j, Option.none⟩) hlt⟩
theorem Hds.keeps (h : Hds w A n c l) (hk : Keeps w w') : Hds w' A n c l :=
  ⟨h.len, h.cap, h.room, h.bare, fun hn => by
    obtain ⟨b, off, e, hlt, hc⟩ := h.cell hn
    refine ⟨b, off, e, Nat.lt_of_lt_of_le hlt hk.size, fun j hj => ?_⟩
    have hl : j < (hcells l).length := by rw [hcells_len, h.len]; omega
    have h1 := hc j hj
    rw [List.getElem?_eq_getElem hl] at h1 ⊢
    exact hk.cell _ _ h1⟩
theorem Hds.at (h : Hds w A n c l) {k : Nat} (hk : k < n) : ∃ b off, A = some ⟨b, off, Option.none⟩ ∧ w.cell? ⟨b, off + k * 2, Option.none⟩ = some (.string (l[k]'(by rw [h.len]; exact hk)).1) ∧ w.cell? ⟨b, off + k * 2 + 1, Option.none⟩ = some (.string (l[k]'(by rw [h.len]; exact hk)).2) := by
  obtain ⟨b, off, e, _, hc⟩ := h.cell (by omega)
  have hl : k < l.length := by rw [h.len]; exact hk
  refine ⟨b, off, e, ?_, ?_⟩
  · rw [hc (k * 2) (by omega), (hcells_at hl).1]
  · rw [Nat.add_assoc, hc (k * 2 + 1) (by omega), (hcells_at hl).2]
theorem hds_empty (w : World) (A : Option Addr) (c : Nat) (hc : c ≤ maxLen) (hb : A = Option.none → c = 0) : Hds w A 0 c [] := ⟨rfl, Nat.zero_le _, hc, hb, fun h => absurd h (by omega)⟩
theorem Hds.front (h : Hds w A n c l) {k : Nat} (hk : k ≤ n) : Hds w A k c (l.take k) :=
  ⟨by rw [List.length_take, h.len]; omega, Nat.le_trans hk h.cap, h.room, h.bare, fun hp => by
    obtain ⟨b, off, e, hlt, hc⟩ := h.cell (by omega)
    refine ⟨b, off, e, hlt, fun j hj => ?_⟩
    rw [hc j (by omega)]
    conv => lhs; rw [← List.take_append_drop k l, hcells_append]
    rw [List.getElem?_append_left (by rw [hcells_len, List.length_take, h.len]; omega)]⟩
theorem Hds.back {b off : Nat} (h : Hds w (some ⟨b, off, Option.none⟩) n c l) {k : Nat} (hk : k ≤ n) : Hds w (some ⟨b, off + k * 2, Option.none⟩) (n - k) (c - k) (l.drop k) :=
  ⟨by rw [List.length_drop, h.len], by have := h.cap; omega, by have := h.room; omega, (fun e => by cases e), fun hp => by
    obtain ⟨b', off', e, hlt, hc⟩ := h.cell (by omega)
    injection e with e
    injection e with e1 e2
    subst e1
    subst e2
    refine ⟨b, off + k * 2, rfl, hlt, fun j hj => ?_⟩
    rw [Nat.add_assoc, hc (k * 2 + j) (by omega)]
    conv => lhs; rw [← List.take_append_drop k l, hcells_append]
    have e : (hcells (l.take k)).length = k * 2 := by rw [hcells_len, List.length_take, h.len]; congr 1; omega
    rw [List.getElem?_append_right (by omega), e]
    congr 1
    omega⟩

/-- The call owns the slice v, which reads as the headers l; its block is number 'base' or above. -/
def OwnsH (w : World) (base : Nat) (v : Value) (l : List Hd) : Prop := w.ownsRow base 45 2 v l.length (hcells l)
theorem OwnsH.hds {base : Nat} {v : Value} (h : OwnsH w base v l) : ∃ A c, v = .slice A l.length c ∧ Hds w A l.length c l := by
  rcases h.2 with ⟨rfl, h0⟩ | ⟨g, cap, cur, rfl, hb, hg, hn, hm, hs, ht⟩
  · have hl : l = [] := List.eq_nil_of_length_eq_zero h0
    subst hl
    exact ⟨Option.none, 0, rfl, hds_empty w _ _ (Nat.zero_le _) (fun _ => rfl)⟩
  · refine ⟨_, cap, rfl, rfl, hn, hm, (fun e => by cases e), fun hp => ⟨g, 0, rfl, (Array.getElem?_eq_some_iff.1 hg).1, fun j hj => ?_⟩⟩
    rw [Nat.zero_add]
    exact World.ownsRow.cellAt h j hj
/-- The same, its length behind a name. -/
theorem OwnsH.hds' {base : Nat} {v : Value} (h : OwnsH w base v l) : ∃ A m c, v = .slice A m c ∧ Hid (m = l.length) ∧ Hds w A m c l := by
  obtain ⟨A, c, e, hS⟩ := h.hds
  exact ⟨A, _, c, e, Lib.hid rfl, hS⟩
theorem OwnsH.alloc {base : Nat} {v : Value} (h : OwnsH w base v l) (o : Obj) : OwnsH (w.alloc o) base v l := World.ownsRow.alloc h o
theorem OwnsH.kept {base : Nat} {v : Value} {B : Nat} (h : OwnsH w base v l) (hb : Below B w w') (hB : w.heap.size ≤ B) : OwnsH w' base v l :=
  World.ownsRow.kept (row := Option.none) h ⟨hb.os, hb.tape, hb.output, hb.size, fun k hk _ => hb.block k (by omega)⟩ (by cases hv : v.ownBlock <;> simp)
theorem OwnsH.below {w0 : World} {B : Nat} {v : Value} (hown : OwnsH w B v l) (hb : Below B w0 w) (hg : w.grownBy w' v.ownBlock) (hB : B ≤ w.heap.size) : Below B w0 w' :=
  hb.grown hg hB fun k hk => (World.ownsRow.lt hown k hk).1
theorem OwnsH.low {base base' : Nat} {v : Value} (h : OwnsH w base v l) (hB : base' ≤ base) : OwnsH w base' v l := by
  refine ⟨h.1, ?_⟩
  rcases h.2 with h0 | ⟨g, cap, cur, e1, hb, rest⟩
  · exact .inl h0
  · exact .inr ⟨g, cap, cur, e1, Nat.le_trans hB hb, rest⟩
/-- A call gives back the headers l in memory of its own, and changes nothing that was there. -/
def GivesH (w : World) (l : List Hd) (en : Ending) (w' : World) : Prop := ∃ v, en = .returned v ∧ OwnsH w' w.heap.size v l ∧ Below w.heap.size w w'
end

theorem Tryz.infoHd : (Tryz.prog.info? 45).map (fun i => (i.zero, i.size, i.bytes)) = some (some (.agg #[.string ByteArray.empty, .string ByteArray.empty]), 2, 32) := by kernel_rfl

/-- The slice value with address A, length n and capacity c reads as the strings l. -/
structure Strs (w : World) (A : Option Addr) (n c : Nat) (l : List ByteArray) : Prop where
  len : l.length = n
  cap : n ≤ c
  room : c ≤ maxLen
  bare : A = Option.none → c = 0
  cell : 0 < n → ∃ b off, A = some ⟨b, off, Option.none⟩ ∧ b < w.heap.size ∧ ∀ j (hj : j < l.length), w.cell? ⟨b, off + j, Option.none⟩ = some (.string l[j])

section
variable {w w' : World} {A : Option Addr} {n c : Nat} {l : List ByteArray}
theorem Strs.later (h : Strs w A n c l) (hb : Below w.heap.size w w') : Strs w' A n c l :=
  ⟨h.len, h.cap, h.room, h.bare, fun hn => by
    obtain ⟨b, off, e, hlt, hc⟩ := h.cell hn
    exact ⟨b, off, e, Nat.lt_of_lt_of_le hlt hb.size, fun j hj => cell_later hb (hc j hj)⟩⟩
theorem Strs.keeps (h : Strs w A n c l) (hk : Keeps w w') : Strs w' A n c l :=
  ⟨h.len, h.cap, h.room, h.bare, fun hn => by
    obtain ⟨b, off, e, hlt, hc⟩ := h.cell hn
    exact ⟨b, off, e, Nat.lt_of_lt_of_le hlt hk.size, fun j hj => hk.cell _ _ (hc j hj)⟩⟩
theorem strs_empty (w : World) (A : Option Addr) (c : Nat) (hc : c ≤ maxLen) (hb : A = Option.none → c = 0) : Strs w A 0 c [] := ⟨rfl, Nat.zero_le _, hc, hb, fun h => absurd h (by omega)⟩
theorem Strs.front (h : Strs w A n c l) {k : Nat} (hk : k ≤ n) : Strs w A k c (l.take k) :=
  ⟨by rw [List.length_take, h.len]; omega, Nat.le_trans hk h.cap, h.room, h.bare, fun hp => by
    obtain ⟨b, off, e, hlt, hc⟩ := h.cell (by omega)
    refine ⟨b, off, e, hlt, fun j hj => ?_⟩
    rw [List.length_take] at hj
    rw [hc j (by omega), List.getElem_take]⟩
/-- A new block of strings. -/
theorem strs_new (w : World) (cs : Array Value) (l : List ByteArray) (hcs : cs = (l.map Value.string).toArray) (hm : l.length ≤ maxLen) : Strs (w.alloc (.cells cs 9)) (some ⟨w.heap.size, 0, Option.none⟩) l.length l.length l :=
  ⟨rfl, Nat.le_refl _, hm, (fun e => by cases e), fun _ => ⟨w.heap.size, 0, rfl, by simp, fun j hj => by
    have := cell_of_row (w.alloc (.cells cs 9)) w.heap.size (0 + j) cs 9 (0, 0) (heap_alloc_new w _)
    rw [this, hcs]
    simp [List.getElem?_eq_getElem hj]⟩⟩
/-- The call owns the slice v, which reads as the strings l. -/
def OwnsS (w : World) (base : Nat) (v : Value) (l : List ByteArray) : Prop := w.ownsRow base 9 1 v l.length (l.map Value.string)
theorem OwnsS.strs {base : Nat} {v : Value} (h : OwnsS w base v l) : ∃ A c, v = .slice A l.length c ∧ Strs w A l.length c l := by
  rcases h.2 with ⟨rfl, h0⟩ | ⟨g, cap, cur, rfl, hb, hg, hn, hm, hs, ht⟩
  · have hl : l = [] := List.eq_nil_of_length_eq_zero h0
    subst hl
    exact ⟨Option.none, 0, rfl, strs_empty w _ _ (Nat.zero_le _) (fun _ => rfl)⟩
  · refine ⟨_, cap, rfl, rfl, hn, hm, (fun e => by cases e), fun hp => ⟨g, 0, rfl, (Array.getElem?_eq_some_iff.1 hg).1, fun j hj => ?_⟩⟩
    rw [Nat.zero_add, World.ownsRow.cellAt h j (by omega)]
    simp [List.getElem?_eq_getElem hj]
/-- The same, its length behind a name. -/
theorem OwnsS.strs' {base : Nat} {v : Value} (h : OwnsS w base v l) : ∃ A m c, v = .slice A m c ∧ Hid (m = l.length) ∧ Strs w A m c l := by
  obtain ⟨A, c, e, hS⟩ := h.strs
  exact ⟨A, _, c, e, Lib.hid rfl, hS⟩
theorem OwnsS.alloc {base : Nat} {v : Value} (h : OwnsS w base v l) (o : Obj) : OwnsS (w.alloc o) base v l := World.ownsRow.alloc h o
theorem OwnsS.kept {base : Nat} {v : Value} {B : Nat} (h : OwnsS w base v l) (hb : Below B w w') (hB : w.heap.size ≤ B) : OwnsS w' base v l :=
  World.ownsRow.kept (row := Option.none) h ⟨hb.os, hb.tape, hb.output, hb.size, fun k hk _ => hb.block k (by omega)⟩ (by cases hv : v.ownBlock <;> simp)
theorem OwnsS.below {w0 : World} {B : Nat} {v : Value} (hown : OwnsS w B v l) (hb : Below B w0 w) (hg : w.grownBy w' v.ownBlock) (hB : B ≤ w.heap.size) : Below B w0 w' :=
  hb.grown hg hB fun k hk => (World.ownsRow.lt hown k hk).1
end

theorem below_then {w a b : World} (h : Below w.heap.size w a) (k : Below a.heap.size a b) : Below w.heap.size w b := h.trans (k.mono h.size)
theorem below_box (w : World) (o : Obj) : Below w.heap.size w (w.alloc o) := (Below.refl _ _).alloc (Nat.le_refl _) o
theorem below_boxd (w : World) (o : Obj) : Below w.heap.size w (w.alloc o).drew := (below_box w o).drew

theorem below_undrew {w w' : World} (h : Below w.drew.heap.size w.drew w') : Below w.heap.size w w' := ⟨h.os, h.tape, h.output, h.size, h.block⟩
/-- Every name and value is at most so long. -/
def Short (B : Nat) (l : List Hd) : Prop := ∀ h ∈ l, h.1.size ≤ B ∧ h.2.size ≤ B
theorem Hds.few {w : World} {A : Option Addr} {n c : Nat} {l : List Hd} (h : Hds w A n c l) : Hds w A (min n 30) c (l.take 30) := by
  have h1 := h.front (k := min n 30) (by omega)
  have e : l.take (min n 30) = l.take 30 := by
    rcases Nat.le_total n 30 with hn | hn
    · rw [Nat.min_eq_left hn, List.take_of_length_le (by rw [h.len]; exact Nat.le_refl _), List.take_of_length_le (by rw [h.len]; exact hn)]
    · rw [Nat.min_eq_right hn]
  rw [e] at h1
  exact h1
theorem Short.take {B : Nat} {l : List Hd} (h : Short B l) (k : Nat) : Short B (l.take k) := fun x hx => h x (List.mem_of_mem_take hx)
/-- Every name and value is at most so long as one argument may be. -/
abbrev Fits (l : List Hd) : Prop := Short 140737488351232 l
theorem Short.mono {B B' : Nat} {l : List Hd} (h : Short B l) (hB : B ≤ B') : Short B' l := fun x hx => ⟨Nat.le_trans (h x hx).1 hB, Nat.le_trans (h x hx).2 hB⟩
theorem cells_pair_new (w : World) (x y : Value) (t : TypeId) : ∀ j u, [x, y][j]? = some u → (w.alloc (.cells #[x, y] t)).cell? ((⟨w.heap.size, 0, Option.none⟩ : Addr).add j) = some u := by
  intro j u hj
  rw [addr_add, cell_of_row _ w.heap.size (0 + j) _ t (0, 0) (heap_alloc_new w _)]
  match j, hj with
  | 0, hj => simpa using hj
  | 1, hj => simpa using hj
theorem strs_one (w : World) (x : ByteArray) (g : Nat) (hg : g = w.heap.size) : Strs (w.alloc (.cells #[.string x] 9)) (some ⟨g, 0, Option.none⟩) 1 1 [x] := by
  subst hg
  exact strs_new w _ [x] rfl (by simp [maxLen])
section
variable {P : Program} {ops : Array Oper} {Q : Exit → Act → World → Prop} {i : Nat} {o : Oper} {a : Act} {w : World} {K : Act → World → Prop}
theorem wpOp_field (ho : ops[i]? = some o) (hw : Region.wanted o (yielded ops a.tmps) = true) (t : TypeId) (x : Operand) (k : Nat) (hop : o.op = .fieldAddr t x k) (u v : Value) (hx : a.eval x = u) (hr : (Instr.fieldAt t u k).run P w = .ok v w) (hK : K (a.put o.dst v) w) : wpOp P ops Q i K a w :=
  wpOp_value ho hw (v := v) (w' := w) (by simp only [execOp, hop, hx, Sem.run_bind, hr]; rfl) hK
end

theorem run_frontH (w : World) (A : Option Addr) (n c k : Nat) (h : k ≤ n) (hc : n ≤ c) : (Instr.sliceAt 22 (.slice A n c) Option.none (some (.int .i64 (k : Int))) Option.none).run Tryz.prog w = .ok (.slice A k c) w := by
  have f3 : (0 : Int) ≤ (k : Int) := by omega
  have f5 : (k : Int) ≤ (c : Int) := by omega
  go_simp
theorem run_backH (w : World) (A : Option Addr) (n c k : Nat) (h : k ≤ n) (hc : n ≤ c) : (Instr.sliceAt 22 (.slice A n c) (some (.int .i64 (k : Int))) Option.none Option.none).run Tryz.prog w = .ok (.slice (if c = k then A else A.map (·.add (k * 2))) (n - k) (c - k)) w := by
  have f3 : (0 : Int) ≤ (k : Int) := by omega
  have f4 : (k : Int) ≤ (n : Int) := by omega
  have f5 : (n : Int) ≤ (c : Int) := by omega
  go_simp
theorem run_loadH (w : World) (g o : Nat) (x y : ByteArray) (h1 : w.cell? ⟨g, o, Option.none⟩ = some (.string x)) (h2 : w.cell? ⟨g, o + 1, Option.none⟩ = some (.string y)) : (Instr.loadAt 45 (.pointer (some ⟨g, o, Option.none⟩))).run Tryz.prog w = .ok (.agg #[.string x, .string y]) w := by go_simp
theorem run_load9 (w : World) (g k : Nat) (x : ByteArray) (h : w.cell? ⟨g, k, Option.none⟩ = some (.string x)) : (Instr.loadAt 9 (.pointer (some ⟨g, k, Option.none⟩))).run Tryz.prog w = .ok (.string x) w := by go_simp
theorem run_field0 (w : World) (g o : Nat) : (Instr.fieldAt 45 (.pointer (some ⟨g, o, Option.none⟩)) 0).run Tryz.prog w = .ok (.pointer (some ⟨g, o, Option.none⟩)) w := by go_simp
theorem run_field1 (w : World) (g o : Nat) : (Instr.fieldAt 45 (.pointer (some ⟨g, o, Option.none⟩)) 1).run Tryz.prog w = .ok (.pointer (some ⟨g, o + 1, Option.none⟩)) w := by go_simp
theorem run_buildH (w : World) (x y : ByteArray) : (Instr.buildSlice 22 1 #[(0, .agg #[.string x, .string y])]).run Tryz.prog w = .ok (.slice (some ⟨w.heap.size, 0, Option.none⟩) 1 1) (w.alloc (.cells #[.string x, .string y] 45)) := by go_simp
theorem run_build9 (w : World) (x : ByteArray) : (Instr.buildSlice 31 1 #[(0, .string x)]).run Tryz.prog w = .ok (.slice (some ⟨w.heap.size, 0, Option.none⟩) 1 1) (w.alloc (.cells #[.string x] 9)) := by go_simp
theorem Hds.backAny {w : World} {A : Option Addr} {n c : Nat} {l : List Hd} (h : Hds w A n c l) {k : Nat} (hk : k ≤ n) : Hds w (if c = k then A else A.map (·.add (k * 2))) (n - k) (c - k) (l.drop k) := by
  have hcap := h.cap
  by_cases hp : 0 < n - k
  · obtain ⟨b, off, e, _, _⟩ := h.cell (by omega)
    subst e
    rw [if_neg (by omega)]
    have := h.back hk
    simpa [addr_add] using this
  · refine ⟨by rw [List.length_drop, h.len], by omega, by have := h.room; omega, fun e => ?_, fun hq => absurd hq hp⟩
    by_cases hc : c = k
    · omega
    · rw [if_neg hc] at e
      have : A = Option.none := by cases A with | none => rfl | some a => cases e
      have := h.bare this
      omega
/-- A new block of headers. -/
theorem hds_new (w : World) (cs : Array Value) (l : List Hd) (hcs : cs = (hcells l).toArray) (hm : l.length ≤ maxLen) : Hds (w.alloc (.cells cs 45)) (some ⟨w.heap.size, 0, Option.none⟩) l.length l.length l :=
  ⟨rfl, Nat.le_refl _, hm, (fun e => by cases e), fun _ => ⟨w.heap.size, 0, rfl, by simp, fun j hj => by
    rw [cell_of_row (w.alloc (.cells cs 45)) w.heap.size (0 + j) cs 45 (0, 0) (heap_alloc_new w _), hcs]
    simp⟩⟩
theorem Short.drop {B : Nat} {l : List Hd} (h : Short B l) (k : Nat) : Short B (l.drop k) := fun x hx => h x (List.mem_of_mem_drop hx)
theorem short_of {B : Nat} {l : List Hd} (h : (l.all fun x => decide (x.1.size ≤ 1000) && decide (x.2.size ≤ 1000)) = true) (hB : 1000 ≤ B) : Short B l := fun x hx => by
  rw [List.all_eq_true] at h
  have := h x hx
  simp only [Bool.and_eq_true, decide_eq_true_eq] at this
  omega
theorem tiny {n : Nat} (h : n ≤ 1000) : n ≤ maxLen := by simp only [maxLen]; omega
theorem owns_snoc {w3 : World} {B : Nat} {v1 : Value} {x y : ByteArray} {xs : List Hd} (h : w3.ownsRow B 45 2 v1 (xs.length + 1) (hcells xs ++ [.string x, .string y])) : OwnsH w3 B v1 (xs ++ [(x, y)]) := by
  unfold OwnsH
  rw [List.length_append, hcells_append]
  exact h

theorem run_idxH (w : World) (g off n c k : Nat) (h : k < n) : (Instr.indexAt 22 (.slice (some ⟨g, off, Option.none⟩) n c) (.int .i64 (k : Int))).run Tryz.prog w = .ok (.pointer (some ⟨g, off + k * 2, Option.none⟩)) w := by go_simp
theorem run_idx9 (w : World) (g off n c k : Nat) (h : k < n) : (Instr.indexAt 31 (.slice (some ⟨g, off, Option.none⟩) n c) (.int .i64 (k : Int))).run Tryz.prog w = .ok (.pointer (some ⟨g, off + k, Option.none⟩)) w := by go_simp
/-- A slice value that reads as headers, as strings. -/
def HH (l : List Hd) (v : Value) (w : World) : Prop := ∃ A n c, v = .slice A n c ∧ Hds w A n c l
def SS (l : List ByteArray) (v : Value) (w : World) : Prop := ∃ A n c, v = .slice A n c ∧ Strs w A n c l
theorem HH.keeps {l : List Hd} {v : Value} {w w' : World} (h : HH l v w) (hk : Keeps w w') : HH l v w' := by
  obtain ⟨A, n, c, e, h1⟩ := h
  exact ⟨A, n, c, e, h1.keeps hk⟩
theorem SS.keeps {l : List ByteArray} {v : Value} {w w' : World} (h : SS l v w) (hk : Keeps w w') : SS l v w' := by
  obtain ⟨A, n, c, e, h1⟩ := h
  exact ⟨A, n, c, e, h1.keeps hk⟩
theorem OwnsH.hh {w : World} {base : Nat} {v : Value} {l : List Hd} (h : OwnsH w base v l) : HH l v w := by
  obtain ⟨A, c, e, h1⟩ := h.hds
  exact ⟨A, _, c, e, h1⟩
/-- A call gives back the headers l, and changes nothing that was there. -/
def ReadsH (w : World) (l : List Hd) (en : Ending) (w' : World) : Prop := ∃ v, en = .returned v ∧ HH l v w' ∧ Below w.heap.size w w'
theorem GivesH.reads {w : World} {l : List Hd} {e : Ending} {w' : World} (h : GivesH w l e w') : ReadsH w l e w' := by
  obtain ⟨v, he, ho, hb⟩ := h
  exact ⟨v, he, ho.hh, hb⟩
end Go.Proofs.YtalnjlodldhfbaaGreatDoor

/-
  A text among others; which methods need no question, as the program and as the reference have them. Conditions: those that each theorem states.
-/
namespace Go.Proofs.YtalnjlodldhfbaaGreatDoor
open Go.RowKit Go.Lib Go.Shelf

/-- Is a text one of some? -/
def isIn (x : ByteArray) (zs : List ByteArray) : Bool := zs.any fun z => x.data.toList == z.data.toList
theorem isIn_iff {x : ByteArray} {zs : List ByteArray} : isIn x zs = true ↔ x ∈ zs := by
  unfold isIn
  rw [List.any_eq_true]
  constructor
  · rintro ⟨z, hz, e⟩
    rw [beq_iff_eq] at e
    have : x = z := by rw [← mk_of x, ← mk_of z, e]
    rw [this]
    exact hz
  · intro h
    exact ⟨x, h, by simp⟩
theorem isIn_same (x : ByteArray) {a b : List ByteArray} (h : ∀ z ∈ a, z ∈ b) (h' : ∀ z ∈ b, z ∈ a) : isIn x a = isIn x b := by
  rw [Bool.eq_iff_iff, isIn_iff, isIn_iff]
  exact ⟨h x, h' x⟩
theorem isIn_hit {x : ByteArray} {l : List UInt8} {zs : List ByteArray} (h : (x.toList == l) = true) (hz : mk l ∈ zs) : isIn x zs = true := by
  rw [isIn_iff]
  rw [beq_iff_eq, ByteArray.toList_eq] at h
  have : x = mk l := by rw [← mk_of x, h]
  rw [this]
  exact hz
theorem isIn_miss {x : ByteArray} {zs : List ByteArray} (h : ∀ z ∈ zs, (x.toList == z.data.toList) = false) : isIn x zs = false := by
  unfold isIn
  rw [List.any_eq_false]
  intro z hz
  rw [← ByteArray.toList_eq, h z hz]
  exact Bool.false_ne_true

theorem text_is {u : ByteArray} {l : List UInt8} (h : (u.toList == l) = true) : u = ⟨l.toArray⟩ := by
  rw [beq_iff_eq, ByteArray.toList_eq] at h
  rw [← h, Lib.mk_data]

def simple : List ByteArray := [⟨#[71, 69, 84]⟩, ⟨#[72, 69, 65, 68]⟩, ⟨#[80, 79, 83, 84]⟩]

set_option maxRecDepth 100000 in
theorem simple_any (u : ByteArray) (w : World) : Calls Tryz.prog 19 #[.string u] w fun e w' => e = .returned (.bool (isIn u simple)) ∧ w' = w := by
  obtain ⟨r, hr⟩ : ∃ r, r = isIn u simple := ⟨_, rfl⟩
  rw [← hr]
  have hm := Lib.hid hr
  clear hr
  go_enter Tryz.func19, Tryz.ntmps19
  go_wp2
  all_goals go_ret
  all_goals first
    | (rename_i p q; exact absurd (p.symm.trans q) Bool.noConfusion)
    | (rename_i p q
       have hy : isIn u simple = true := isIn_hit q (by simp [simple, mk])
       refine ⟨ret_bool ?_, rfl⟩
       rw [hm.out, hy]; done)
    | (refine ⟨ret_bool ?_, rfl⟩
       have hn : isIn u simple = false := isIn_miss (by simp [simple]; simp_all)
       rw [hm.out, hn])

theorem isIn_step {x : ByteArray} {zs : List ByteArray} {k : Nat} (hk : k < zs.length) : isIn x (zs.take (k + 1)) = (isIn x (zs.take k) || (zs[k].toList == x.toList)) := by
  unfold isIn
  rw [take_snoc hk, List.any_append, ByteArray.toList_eq, ByteArray.toList_eq]
  congr 1
  simp only [List.any_cons, List.any_nil, Bool.or_false]
  exact Bool.beq_comm
theorem isIn_at {x : ByteArray} {zs : List ByteArray} {k : Nat} (hk : k < zs.length) (h : (zs[k].toList == x.toList) = true) : isIn x zs = true := by
  rw [isIn_iff]
  rw [beq_iff_eq, ByteArray.toList_eq, ByteArray.toList_eq] at h
  have : x = zs[k] := by rw [← mk_of x, ← h, mk_of]
  rw [this]
  exact List.getElem_mem hk

set_option maxHeartbeats 2000000 in
set_option maxRecDepth 100000 in
theorem among_any (A : Option Addr) (n c : Nat) (zs : List ByteArray) (x : ByteArray) (w : World) (h : Strs w A n c zs) :
    Calls Tryz.prog 37 #[.string x, .slice A n c] w fun e w' => e = .returned (.bool (isIn x zs)) ∧ w' = w := by
  have hn : n ≤ 9223372036854775807 := by have h1 := h.cap; have h2 := h.room; unfold maxLen at h2; omega
  have hl := Lib.hid h.len
  have hH := Lib.hid h
  clear h
  go_enter Tryz.func37, Tryz.ntmps37
  go_wp2
  go_loop [5] (fun i => ∃ k : Nat, k ≤ n ∧ i = .int .i64 k ∧ isIn x (zs.take k) = false) (fun i => n - (RowKit.intOf i).toNat)
  case atStart => exact ⟨0, Nat.zero_le _, rfl, rfl⟩
  case round =>
    obtain ⟨k, hk, rfl, hno0⟩ := hrel
    have hno := Lib.hid hno0
    clear hno0
    by_cases hlt : k < n
    · have hkl : k < zs.length := by rw [hl.out]; exact hlt
      obtain ⟨b, off, rfl, _, hc⟩ := hH.out.cell (by omega)
      have h1 := hc k hkl
      have hst := Lib.hid (isIn_step (x := x) hkl)
      have hat := Lib.hid (isIn_at (x := x) hkl)
      clear hc
      generalize zs[k] = z at h1 hst hat
      cases hq : (z.toList == x.toList) with
      | true =>
        have hf := Lib.hid (hat.out hq)
        go_wp2
        go_ret
        exact ⟨ret_bool hf.out.symm, rfl⟩
      | false =>
        have hf : Hid (isIn x (zs.take (k + 1)) = false) := Lib.hid (by rw [hst.out, hno.out, hq]; rfl)
        clear hst hat
        go_wp2
        go_round
        case rel => exact ⟨k + 1, by omega, by go_num, hf.out⟩
        case measure => simp [RowKit.intOf]; omega
    · have ek : k = n := by omega
      subst ek
      have hf := Lib.hid (show isIn x zs = false by
        have h1 := hno.out
        rw [← hl.out, List.take_length] at h1
        exact h1)
      go_wp2
      go_ret
      exact ⟨ret_bool hf.out.symm, rfl⟩

/-- The same of a new list. -/
theorem among_new (zs : List ByteArray) (n : Nat) (hn : n = zs.length) (hm : zs.length ≤ 1000) (x : ByteArray) (w : World) (cs : Array Value) (hcs : cs = (zs.map Value.string).toArray) (g : Nat) (hg : g = w.heap.size) :
    Calls Tryz.prog 37 #[.string x, .slice (some ⟨g, 0, Option.none⟩) n n] (w.alloc (.cells cs 9)) fun e w' => e = .returned (.bool (isIn x zs)) ∧ w' = w.alloc (.cells cs 9) := by
  subst hn
  subst hg
  exact among_any _ _ _ zs x _ (strs_new w cs zs hcs (tiny hm))

def simpleR : List ByteArray := [⟨#[80, 79, 83, 84]⟩, ⟨#[72, 69, 65, 68]⟩, ⟨#[71, 69, 84]⟩]
theorem simple_same (x : ByteArray) : isIn x simpleR = isIn x simple := isIn_same x (by simp [simple, simpleR]) (by simp [simple, simpleR])

set_option maxRecDepth 100000 in
theorem refSimple_any (u : ByteArray) (w : World) : Calls Tryz.prog 22 #[.string u] w fun e w' => e = .returned (.bool (isIn u simple)) ∧ Below w.heap.size w w' := by
  have hin := Lib.hid (fun W cs hcs g hg => simple_same u ▸ among_new simpleR 3 rfl (by decide) u W cs hcs g hg)
  generalize isIn u simple = b at hin ⊢
  go_enter Tryz.func22, Tryz.ntmps22
  go_wp2_with (go_at_call 37; refine (hin.out _ _ rfl _ rfl).mono ?_; rintro e w2 ⟨rfl, hw⟩; subst hw)
  go_ret
  exact ⟨rfl, below_box _ _⟩
end Go.Proofs.YtalnjlodldhfbaaGreatDoor

/-
  Inside a round of a loop over a function: what holds of an operation, of a list of operations or of a region by the plain rules holds there too, where nothing is deferred. Conditions: those that each theorem states.
-/
namespace Go.Proofs.YtalnjlodldhfbaaGreatDoor
open Go.RowKit Leb

section
variable {P : Program} {ops : Array Oper} {Q : Exit → Act → World → Prop} {n l : Nat}

theorem rows_round {row : String} {args : Array Value} {w : World} {R : Value → World → Prop} (h : Rows P row args w R) : RowsIn (Fence.wide.inRound l) n P row args w R := by
  intro c cs _
  obtain ⟨v, w', r, s⟩ := h c cs
  exact ⟨v, w', r, stepsIn_wide.2 s⟩

theorem wp_round {o : Oper} {a : Act} {w : World} {K : Act → World → Prop} (hd : ∀ c, o.op ≠ .defer c) (h : o.wp P a w K Q) : o.wpIn (Fence.wide.inRound l) n P a w K Q := by
  unfold Oper.wpIn
  refine ⟨fun _ _ => trivial, ?_⟩
  rw [Oper.semAt_eq _ _ _ hd]
  unfold Oper.wp at h
  generalize (execOp a.eval o).run P w = r at *
  cases r with
  | ok x w' =>
    cases x with
    | value v => exact h
    | skip => exact h
    | defer d => exact h
    | enter f args => exact ⟨(fun e => by cases e), CallsIn.inRound l (callsIn_wide.2 h)⟩
    | row r args => exact ⟨(fun e => by cases e), rows_round h⟩
    | round => exact h.elim
    | _ => exact h.elim
  | halt x w' => cases x <;> first | exact h | exact h.elim

theorem wp_wide {o : Oper} {a : Act} {w : World} {K : Act → World → Prop} (h : o.wp P a w K Q) : o.wpIn Fence.wide n P a w K Q := by
  unfold Oper.wpIn
  refine ⟨fun _ _ => trivial, ?_⟩
  have e : o.semAt Fence.wide.round a.eval = execOp a.eval o := rfl
  rw [e]
  unfold Oper.wp at h
  generalize (execOp a.eval o).run P w = r at *
  cases r with
  | ok x w' =>
    cases x with
    | value v => exact h
    | skip => exact h
    | defer d => exact h
    | enter f args => exact ⟨(fun e => by cases e), callsIn_wide.2 h⟩
    | row r args => exact ⟨(fun e => by cases e), rows_round (l := 0) h⟩
    | round => exact h.elim
    | _ => exact h.elim
  | halt x w' => cases x <;> first | exact h | exact h.elim

/-- A whole block is loaded, outside and inside a round. -/
theorem wpListIn_row_wide {rest : List Oper} {o : Oper} {a : Act} {w : World} (hgd : o.guard = Option.none) (ty : TypeId) (x : Operand) (ho : o.op = .load ty x)
    (g : Nat) (hx : a.eval x = .pointer (some ⟨g, 0, Option.none⟩)) (t : TypeId) (cs : Array Value) (fr : Nat × Nat) (d : TypeDesc) (hg : w.heap[g]? = some (.cells cs t fr))
    (hu : P.underlying ty = some d) (hd : (match d with | .struct _ | .array _ _ => true | _ => false) = true) (hi : (P.info? ty).map (·.size) = some cs.size)
    (h : wpListIn Fence.wide n P ops Q rest (a.put o.dst (.agg cs)) w) : wpListIn Fence.wide n P ops Q (o :: rest) a w :=
  wpListIn_plain hgd fun _ hK => wp_wide (wp_load_row ty x ho g hx t cs fr d hg hu hd hi (hK _ _ h))

/-- No operation defers a call. -/
def noDefers (ops : Array Oper) : Bool := ops.toList.all fun o => match o.op with | .defer _ => false | _ => true

theorem noDefers_spec (h : noDefers ops = true) {o : Oper} (ho : o ∈ ops.toList) : ∀ c, o.op ≠ .defer c := by
  intro c hc
  unfold noDefers at h
  rw [List.all_eq_true] at h
  have := h o ho
  rw [hc] at this
  cases this

theorem wpOp_round {i : Nat} {K : Act → World → Prop} {a : Act} {w : World} (hQ : ¬ LetsOut Q) (hd : noDefers ops = true) (h : wpOp P ops Q i K a w) : wpOpIn (Fence.wide.inRound l) n P ops Q i K a w := by
  unfold wpOp at h
  unfold wpOpIn
  cases ho : ops[i]? with
  | none => rw [ho] at h; exact h
  | some o =>
    rw [ho] at h
    simp only at h ⊢
    have hm : o ∈ ops.toList := by
      obtain ⟨hi, e⟩ := Array.getElem?_eq_some_iff.1 ho
      rw [← e]
      simp
    by_cases hw : Region.wanted o (yielded ops a.tmps) = true
    · rw [if_pos hw] at h ⊢
      exact wp_round (noDefers_spec hd hm) (h.resolve_right fun h => hQ h.2)
    · rw [if_neg hw] at h ⊢
      exact ⟨fun _ _ => trivial, h⟩

theorem wpAny_round {md : Region.Mode} (hQ : ¬ LetsOut Q) (hd : noDefers ops = true) : ∀ (fuel : Nat) (listed : Array Bool) (a : Act) (w : World), wpAny P md ops Q fuel listed a w → wpAnyIn (Fence.wide.inRound l) n P md ops Q fuel listed a w
  | 0, _, _, _, h => h
  | fuel + 1, _, _, _, h => ⟨h.1, fun i hi => wpOp_round hQ hd (wpOp_mono (fun a w => wpAny_round hQ hd fuel _ a w) (h.2 i hi))⟩

/-- The rule for a region whose order is open, inside a round. -/
theorem wpIn_region_each {id : Nat} {a : Act} {w : World} (hQ : ¬ LetsOut Q) (hd : noDefers ops = true) (I : (Nat → Prop) → Act → World → Prop) (hm : P.follows .mixedOrders = true) (hac : forwards ops = true)
    (h0 : I (fun _ => False) a w.drew)
    (step : ∀ i, i < ops.size → ∀ D a w, I D a w → (∀ j, D j → ∀ k, (predsAt ops j).contains k = true → D k) → ¬ D i → (∀ k, (predsAt ops i).contains k = true → D k) → wpOp P ops Q i (fun a' w' => I (fun j => D j ∨ j = i) a' w') a w)
    (fin : ∀ D a w, I D a w → (∀ i, i < ops.size → D i) → Q .normal a w) : (Code.region id ops true).wpIn (Fence.wide.inRound l) n P Q a w := by
  refine wpIn_region_any hm (wpAny_round hQ hd _ _ _ _ ?_)
  refine wpAny_inv (fun D a w => I D a w ∧ ∀ j, D j → ∀ k, (predsAt ops j).contains k = true → D k) hac ?_ (fun D a w h hall => fin D a w h.1 hall) _ _ _ _ (by simp) ?_ ?_
  · intro D a w i o ⟨hI, hcl⟩ ho hnd hpre
    have hlt := (Array.getElem?_eq_some_iff.1 ho).1
    have hp : ∀ k, (predsAt ops i).contains k = true → D k := by
      intro k hk
      unfold predsAt at hk
      rw [ho] at hk
      exact hpre k (by simpa using hk)
    refine wpOp_mono (fun a' w' h => ⟨h, fun j hj k hk => ?_⟩) (step i hlt D a w hI hcl hnd hp)
    rcases hj with hj | rfl
    · exact .inl (hcl j hj k hk)
    · exact .inl (hp k hk)
  · rw [show (Array.replicate ops.size false).toList = List.replicate ops.size false by simp, List.countP_replicate]
    simp
  · have e : (fun j => (Array.replicate ops.size false).getD j false = true) = (fun _ => False) := by
      funext j
      apply propext
      simp only [iff_false]
      rw [Array.getD]
      split <;> simp
    rw [e]
    exact ⟨h0, fun j hj => hj.elim⟩

/-- A list of operations, by the plain rules. -/
theorem wpList_round (hQ : ¬ LetsOut Q) (hd : noDefers ops = true) : ∀ (rest : List Oper) (a : Act) (w : World), (∀ o ∈ rest, o ∈ ops.toList) → wpList P ops Q rest a w → wpListIn (Fence.wide.inRound l) n P ops Q rest a w
  | [], _, _, _, h => h
  | o :: rest, a, w, hm, h => by
    unfold wpList at h
    unfold wpListIn
    by_cases hw : Region.wanted o (yielded ops a.tmps) = true
    · rw [if_pos hw] at h ⊢
      exact wp_round (noDefers_spec hd (hm o (by simp))) (Oper.wp_mono (fun a w => wpList_round hQ hd rest a w (fun x hx => hm x (by simp [hx]))) (h.resolve_right fun h => hQ h.2))
    · rw [if_neg hw] at h ⊢
      exact ⟨fun _ _ => trivial, wpList_round hQ hd rest _ w (fun x hx => hm x (by simp [hx])) h⟩

/-- A region in the order of the text, by the plain rules. -/
theorem wpIn_region_plain {id : Nat} {a : Act} {w : World} {k : List Oper} (hQ : ¬ LetsOut Q) (hd : noDefers k.toArray = true) (h : wpList P k.toArray Q k a w) : (Code.region id k.toArray false).wpIn (Fence.wide.inRound l) n P Q a w :=
  wpIn_region_lit (wpList_round hQ hd k a w (fun _ h => by simpa using h) h)

/-- 'append' of whatever reads as bytes onto a slice of the call's own, inside a round. -/
theorem wpListIn_append_bytes {rest : List Oper} {o : Oper} {a : Act} {w : World} (hgd : o.guard = Option.none) (s x : Operand) (t : TypeId)
    (ho : o.op = .call { callee := .builtin .append, args := #[s, x], argTypes := #[t, t] })
    (base : Nat) (e : TypeId) (i : TypeInfo) (ht : P.underlying t = some (.slice e)) (hi : P.info? e = some i) (hz : i.zero = some (.int .u8 0)) (hz1 : i.size = 1) (hz2 : i.bytes = 1)
    (v : Value) (xs : List Int) (hs : a.eval s = v) (hown : Owns w base e v xs) (A : Option Addr) (m c : Nat) (ys : List Int) (hx : a.eval x = .slice A m c) (h : Holds w A m c ys)
    (hlim : xs.length + m ≤ 140737488355328) (hbase : base ≤ w.heap.size)
    (hK : ∀ v' w', Owns w' base e v' (xs ++ ys) → w.grownBy w' v.ownBlock → (v'.ownBlock = v.ownBlock ∨ v'.ownBlock = some w.heap.size) → wpListIn (Fence.wide.inRound l) n P ops Q rest (a.put o.dst v') w') : wpListIn (Fence.wide.inRound l) n P ops Q (o :: rest) a w :=
  wpListIn_plain hgd fun _ hK' => wp_round (fun c hc => by rw [ho] at hc; cases hc) (wp_append_bytes s x t ho base e i ht hi hz hz1 hz2 v xs hs hown A m c ys hx h hlim hbase fun v' w' h2 h3 h4 => hK' _ _ (hK v' w' h2 h3 h4))
end
end Go.Proofs.YtalnjlodldhfbaaGreatDoor

/-
  A region whose order is open, but whose last operations come in the order of the text and behind all others ('x = append(x, f(y)...)'): the invariant rule for the first operations, a plain walk for the last. Both outside and inside a round of a loop over a function. Conditions: those that each theorem states.
-/
namespace Go.Proofs.YtalnjlodldhfbaaGreatDoor
open Go.RowKit Leb

section
variable {P : Program} {ops : Array Oper} {Q : Exit → Act → World → Prop}

/-- What operation number i waits for, through whatever comes between (and i itself). -/
def reach (ops : Array Oper) : Nat → Nat → List Nat
  | 0, i => [i]
  | f + 1, i => i :: (predsAt ops i).flatMap (reach ops f)

theorem reach_done {D : Nat → Prop} (hcl : ∀ j, D j → ∀ k, (predsAt ops j).contains k = true → D k) : ∀ (f i : Nat), D i → ∀ j ∈ reach ops f i, D j
  | 0, i, hi, j, hj => by simp [reach] at hj; exact hj ▸ hi
  | f + 1, i, hi, j, hj => by
    simp only [reach, List.mem_cons, List.mem_flatMap] at hj
    rcases hj with rfl | ⟨k, hk, hj⟩
    · exact hi
    · exact reach_done hcl f k (hcl i hi k (by simpa using hk)) j hj

/-- From number m on each operation waits for all before it. -/
def chained (ops : Array Oper) (f m : Nat) : Bool := (List.range ops.size).all fun i => decide (i < m) || (List.range i).all fun j => (reach ops f i).contains j

theorem chained_spec {f m : Nat} (h : chained ops f m = true) {i : Nat} (hi : i < ops.size) (hm : m ≤ i) {j : Nat} (hj : j < i) : j ∈ reach ops f i := by
  unfold chained at h
  rw [List.all_eq_true] at h
  have := h i (List.mem_range.2 hi)
  rw [Bool.or_eq_true, List.all_eq_true] at this
  rcases this with h1 | h1
  · simp at h1; omega
  · simpa using h1 j (List.mem_range.2 hj)

theorem wpAny_tail (m f : Nat) (hm : m ≤ ops.size) (hch : chained ops f m = true) (I : (Nat → Prop) → Act → World → Prop) (hac : forwards ops = true)
    (step : ∀ i, i < m → ∀ D a w, I D a w → (∀ j, D j → ∀ k, (predsAt ops j).contains k = true → D k) → ¬ D i → (∀ k, (predsAt ops i).contains k = true → D k) → wpOp P ops Q i (fun a' w' => I (fun j => D j ∨ j = i) a' w') a w)
    (fin : ∀ D a w, I D a w → (∀ i, i < m → D i) → wpOps P ops Q (List.range' m (ops.size - m)) a w) {a : Act} {w : World} (h0 : I (fun _ => False) a w) :
    wpAny P .any ops Q ops.size (Array.replicate ops.size false) a w := by
  have tail : ∀ k, k < ops.size → List.range' k (ops.size - k) = k :: List.range' (k + 1) (ops.size - (k + 1)) := by
    intro k hk
    rw [show ops.size - k = (ops.size - (k + 1)) + 1 by omega, List.range'_succ]
  refine wpAny_inv (fun D a w => (∀ j, D j → j < ops.size ∧ ∀ k, (predsAt ops j).contains k = true → D k) ∧
      (((∀ i, m ≤ i → ¬ D i) ∧ I D a w) ∨ ∃ k, m ≤ k ∧ k ≤ ops.size ∧ (∀ i, D i ↔ i < k) ∧ wpOps P ops Q (List.range' k (ops.size - k)) a w)) hac ?_ ?_ _ _ _ _ (by simp) ?_ ?_
  · rintro D a w i o ⟨hcl, halt⟩ ho hnd hpre
    have hlt := (Array.getElem?_eq_some_iff.1 ho).1
    have hp : ∀ k, (predsAt ops i).contains k = true → D k := by
      intro k hk
      unfold predsAt at hk
      rw [ho] at hk
      exact hpre k (by simpa using hk)
    have hcl2 : ∀ j, D j → ∀ k, (predsAt ops j).contains k = true → D k := fun j hj => (hcl j hj).2
    have hcl' : ∀ j, (D j ∨ j = i) → j < ops.size ∧ ∀ k, (predsAt ops j).contains k = true → (D k ∨ k = i) := by
      rintro j (hj | rfl)
      · exact ⟨(hcl j hj).1, fun k hk => .inl ((hcl j hj).2 k hk)⟩
      · exact ⟨hlt, fun k hk => .inl (hp k hk)⟩
    have hbelow : m ≤ i → ∀ j, j < i → D j := by
      intro hmi j hj
      have := reach_done (D := fun x => D x ∨ x = i) (fun x hx k hk => (hcl' x hx).2 k hk) f i (.inr rfl) j (chained_spec hch hlt hmi hj)
      exact this.resolve_right (by omega)
    rcases halt with ⟨hno, hI⟩ | ⟨k, hmk, hk, hD, hops⟩
    · by_cases him : i < m
      · refine wpOp_mono (fun a' w' h => ⟨hcl', .inl ⟨fun j hj hd => ?_, h⟩⟩) (step i him D a w hI hcl2 hnd hp)
        rcases hd with hd | rfl
        · exact hno j hj hd
        · omega
      · have hmi : m ≤ i := by omega
        have him' : i = m := by
          rcases Nat.lt_or_ge m i with h | h
          · exact absurd (hbelow hmi m h) (hno m (Nat.le_refl _))
          · omega
        subst him'
        have hf := fin D a w hI (hbelow hmi)
        rw [tail i hlt, wpOps_cons] at hf
        refine wpOp_mono (fun a' w' h => ⟨hcl', .inr ⟨i + 1, by omega, by omega, fun j => ⟨fun hj => ?_, fun hj => ?_⟩, h⟩⟩) hf
        · rcases hj with hj | rfl
          · rcases Nat.lt_or_ge j i with h | h
            · omega
            · exact absurd hj (hno j h)
          · omega
        · rcases Nat.lt_or_ge j i with h | h
          · exact .inl (hbelow hmi j h)
          · exact .inr (by omega)
    · have hik : i = k := by
        have h1 : ¬ i < k := fun h => hnd ((hD i).2 h)
        rcases Nat.lt_or_ge k i with h | h
        · exact absurd ((hD k).1 (hbelow (by omega) k h)) (by omega)
        · omega
      subst hik
      rw [tail i hlt, wpOps_cons] at hops
      refine wpOp_mono (fun a' w' h => ⟨hcl', .inr ⟨i + 1, by omega, by omega, fun j => ⟨fun hj => ?_, fun hj => ?_⟩, h⟩⟩) hops
      · rcases hj with hj | rfl
        · have := (hD j).1 hj; omega
        · omega
      · rcases Nat.lt_or_ge j i with h | h
        · exact .inl ((hD j).2 h)
        · exact .inr (by omega)
  · rintro D a w ⟨hcl, ⟨hno, hI⟩ | ⟨k, hmk, hk, hD, hops⟩⟩ hall
    · have hms : m = ops.size := by
        rcases Nat.lt_or_ge m ops.size with h | h
        · exact absurd (hall m h) (hno m (Nat.le_refl _))
        · omega
      have := fin D a w hI (fun i hi => hall i (by omega))
      rw [← hms, Nat.sub_self] at this
      exact this
    · have hks : k = ops.size := by
        rcases Nat.lt_or_ge k ops.size with h | h
        · exact absurd ((hD k).1 (hall k h)) (by omega)
        · omega
      subst hks
      rw [Nat.sub_self] at hops
      exact hops
  · rw [show (Array.replicate ops.size false).toList = List.replicate ops.size false by simp, List.countP_replicate]
    simp
  · have e : (fun j => (Array.replicate ops.size false).getD j false = true) = (fun _ => False) := by
      funext j
      apply propext
      simp only [iff_false]
      rw [Array.getD]
      split <;> simp
    rw [e]
    exact ⟨fun j hj => hj.elim, .inl ⟨fun _ _ h => h, h0⟩⟩

/-- The rule, outside a round. -/
theorem wp_region_tail {id : Nat} {a : Act} {w : World} (m f : Nat) (hm : m ≤ ops.size) (hch : chained ops f m = true) (I : (Nat → Prop) → Act → World → Prop) (hmx : P.follows .mixedOrders = true) (hac : forwards ops = true)
    (h0 : I (fun _ => False) a w.drew)
    (step : ∀ i, i < m → ∀ D a w, I D a w → (∀ j, D j → ∀ k, (predsAt ops j).contains k = true → D k) → ¬ D i → (∀ k, (predsAt ops i).contains k = true → D k) → wpOp P ops Q i (fun a' w' => I (fun j => D j ∨ j = i) a' w') a w)
    (fin : ∀ D a w, I D a w → (∀ i, i < m → D i) → wpOps P ops Q (List.range' m (ops.size - m)) a w) : (Code.region id ops true).wp P Q a w :=
  wp_region_any hmx (wpAny_tail m f hm hch I hac step fin h0)

/-- The rule, inside a round. -/
theorem wpIn_region_tail {n l id : Nat} {a : Act} {w : World} (hQ : ¬ LetsOut Q) (hd : noDefers ops = true) (m f : Nat) (hm : m ≤ ops.size) (hch : chained ops f m = true) (I : (Nat → Prop) → Act → World → Prop) (hmx : P.follows .mixedOrders = true) (hac : forwards ops = true)
    (h0 : I (fun _ => False) a w.drew)
    (step : ∀ i, i < m → ∀ D a w, I D a w → (∀ j, D j → ∀ k, (predsAt ops j).contains k = true → D k) → ¬ D i → (∀ k, (predsAt ops i).contains k = true → D k) → wpOp P ops Q i (fun a' w' => I (fun j => D j ∨ j = i) a' w') a w)
    (fin : ∀ D a w, I D a w → (∀ i, i < m → D i) → wpOps P ops Q (List.range' m (ops.size - m)) a w) : (Code.region id ops true).wpIn (Fence.wide.inRound l) n P Q a w :=
  wpIn_region_any hmx (wpAny_round hQ hd _ _ _ _ (wpAny_tail m f hm hch I hac step fin h0))

/-- A store. -/
theorem wpOp_store {i : Nat} {o : Oper} {a : Act} {w w' : World} {K : Act → World → Prop} (ho : ops[i]? = some o) (hw : Region.wanted o (yielded ops a.tmps) = true) (t : TypeId) (x y : Operand) (hop : o.op = .store t x y) (u v : Value) (hx : a.eval x = u) (hy : a.eval y = v)
    (hr : (Instr.storeAt t u v).run P w = .ok () w') (hK : K (a.put o.dst undef) w') : wpOp P ops Q i K a w :=
  wpOp_step ho fun K' hK' => by
    rw [if_pos hw]
    unfold Oper.wp
    have e : (execOp a.eval o).run P w = .ok .skip w' := by simp only [execOp, hop, hx, hy, Sem.run_bind, hr]; rfl
    rw [e]
    exact hK' _ _ hK
end
end Go.Proofs.YtalnjlodldhfbaaGreatDoor

/-
  Letters of one size as the reference has them. Conditions: those that each theorem states.
-/
namespace Go.Proofs.YtalnjlodldhfbaaGreatDoor
open Go.RowKit Go.Lib

/-- The bytes as numbers. -/
def nums (l : List UInt8) : List Int := l.map fun b => (b.toNat : Int)
theorem nums_len (l : List UInt8) : (nums l).length = l.length := by simp [nums]
theorem nums_bytes (l : List UInt8) : Leb.Bytes (nums l) := fun x hx => by
  obtain ⟨b, _, rfl⟩ := List.mem_map.1 hx
  have := byte_lt b
  omega
theorem nums_snoc {l : List UInt8} {k : Nat} {f : UInt8 → UInt8} (hk : k < l.length) {u : Int} (hu : u = ((f l[k]).toNat : Int)) : nums ((l.take k).map f) ++ [u] = nums ((l.take (k + 1)).map f) := by
  rw [List.take_add_one, List.getElem?_eq_getElem hk, hu, List.map_append]
  unfold nums
  rw [List.map_append]
  rfl
theorem one_byte {u : Int} (h0 : 0 ≤ u) (h1 : u < 256) : Leb.Bytes [u] := fun x hx => by
  simp at hx
  omega

/-- The reference's loop: of the bytes l the first k are taken over. -/
def CaseRel (w : World) (l : List UInt8) (f : UInt8 → UInt8) (v i : Value) (wr : World) : Prop :=
  ∃ k : Nat, k ≤ l.length ∧ i = .int .i64 k ∧ Owns wr w.heap.size 5 v (nums ((l.take k).map f)) ∧ Below w.heap.size w wr

theorem case_step {w wr w1 : World} {l : List UInt8} {f : UInt8 → UInt8} {v v1 : Value} {k : Nat} {u : Int} (o : Obj) (hk : k < l.length) (hu : u = ((f l[k]).toNat : Int))
    (hown : Owns wr w.heap.size 5 v (nums ((l.take k).map f))) (hb : Below w.heap.size w wr) (h1 : Owns w1 w.heap.size 5 v1 (nums ((l.take k).map f) ++ [u])) (hg : (wr.alloc o).grownBy w1 v.ownBlock) :
    CaseRel w l f v1 (.int .i64 ((k + 1 : Nat) : Int)) w1 := by
  rw [nums_snoc hk hu] at h1
  exact ⟨k + 1, hk, rfl, h1, below_own (hb.alloc hb.size _) (hown.alloc _) hg (by have := hb.size; simp; omega)⟩

set_option maxHeartbeats 2000000 in
set_option maxRecDepth 100000 in
theorem refLower_any (s : ByteArray) (hs : s.size ≤ 140737488351232) (w : World) : Calls Tryz.prog 32 #[.string s] w fun e w' =>
    e = .returned (.string ⟨(s.data.toList.map (turn 65 90 32)).toArray⟩) ∧ Below w.heap.size w w' := by
  obtain ⟨i0, hi, hz0, hz1, hz2⟩ := info_parts Tryz.info8
  have h0 := Lib.hid (owns_lit w w.heap.size 5 #[] [] rfl Leb.Bytes.nil (by simp) (Nat.le_refl _))
  have hsl := Lib.hid (size_len s)
  obtain ⟨l, hl⟩ : ∃ l, l = s.data.toList := ⟨_, rfl⟩
  rw [← hl] at hsl
  obtain ⟨r, hr⟩ : ∃ r : ByteArray, r = ⟨(s.data.toList.map (turn 65 90 32)).toArray⟩ := ⟨_, rfl⟩
  rw [← hr]
  have hl' := Lib.hid hl
  have hr' := Lib.hid hr
  clear hr hl
  go_enter Tryz.func32, Tryz.ntmps32
  go_wp2
  go_loopw [3, 4] (fun v i wr => CaseRel w l (turn 65 90 32) v i wr) (fun _ i _ => s.size - (RowKit.intOf i).toNat)
  case atStart => exact ⟨0, Nat.zero_le _, rfl, h0.out, (Below.refl _ _).alloc (Nat.le_refl _) _⟩
  case round =>
    obtain ⟨k, hk, rfl, hown, hb⟩ := hrel
    rw [← hsl.out] at hk
    have hB := hb.size
    have hlen : (nums ((l.take k).map (turn 65 90 32))).length = k := by rw [nums_len, List.length_map, List.length_take, ← hsl.out]; omega
    have hown' := Lib.hid hown
    generalize hys : nums ((l.take k).map (turn 65 90 32)) = ys at hown hlen
    have hys' := Lib.hid hys
    have hlen' := Lib.hid hlen
    clear hys hlen
    by_cases hkn : k < s.size
    · have hkl : k < l.length := by rw [← hsl.out]; exact hkn
      have hat : ∀ h : k < s.size, s[k] = l[k] := fun h => by rw [byte_at s k h]; simp only [hl'.out]
      have hat' := Lib.hid hat
      have hbl := byte_lt s[k]
      clear hat
      rcases (show s[k].toNat < 65 ∨ (65 ≤ s[k].toNat ∧ s[k].toNat ≤ 90) ∨ 90 < s[k].toNat by omega) with h | ⟨h, h'⟩ | h
      · have hu : (s[k].toNat : Int) = (((turn 65 90 32) l[k]).toNat : Int) := by rw [← hat'.out hkn, turn, if_neg (by omega)]
        have hu' := Lib.hid hu
        have H2 := Lib.hid (holds_new wr 5 #[.int .u8 (s[k].toNat : Int)] [(s[k].toNat : Int)] rfl (one_byte (by omega) (by omega)) (by simp [maxLen]))
        clear hu
        go_wp2_with (at_builtin; refine wpList_append_bytes rfl (.tmp 24) (.tmp 26) 65 rfl w.heap.size 5 i0 Tryz.underlying65 hi hz0 hz1 hz2 _ ys rfl (hown.alloc _) _ 1 1 [(s[k].toNat : Int)] rfl H2.out (by rw [hlen'.out]; omega) (by simp; omega) ?_; intro v1 w1 hown1 hg1 hat1)
        go_roundw
        case rel =>
          rw [← hys'.out] at hown1
          exact case_step _ hkl hu'.out hown'.out hb hown1 hg1
        case measure => simp [RowKit.intOf]; omega
      · have hu : ((s[k].toNat : Int) + 32) = (((turn 65 90 32) l[k]).toNat : Int) := by rw [← hat'.out hkn, turn, if_pos ⟨by omega, by omega⟩, UInt8.toNat_ofNat']; omega
        have hu' := Lib.hid hu
        have H2 := Lib.hid (holds_new wr 5 #[.int .u8 ((s[k].toNat : Int) + 32)] [((s[k].toNat : Int) + 32)] rfl (one_byte (by omega) (by omega)) (by simp [maxLen]))
        clear hu
        go_wp2_with (at_builtin; refine wpList_append_bytes rfl (.tmp 24) (.tmp 26) 65 rfl w.heap.size 5 i0 Tryz.underlying65 hi hz0 hz1 hz2 _ ys rfl (hown.alloc _) _ 1 1 [((s[k].toNat : Int) + 32)] rfl H2.out (by rw [hlen'.out]; omega) (by simp; omega) ?_; intro v1 w1 hown1 hg1 hat1)
        go_roundw
        case rel =>
          rw [← hys'.out] at hown1
          exact case_step _ hkl hu'.out hown'.out hb hown1 hg1
        case measure => simp [RowKit.intOf]; omega
      · have hu : (s[k].toNat : Int) = (((turn 65 90 32) l[k]).toNat : Int) := by rw [← hat'.out hkn, turn, if_neg (by omega)]
        have hu' := Lib.hid hu
        have H2 := Lib.hid (holds_new wr 5 #[.int .u8 (s[k].toNat : Int)] [(s[k].toNat : Int)] rfl (one_byte (by omega) (by omega)) (by simp [maxLen]))
        clear hu
        go_wp2_with (at_builtin; refine wpList_append_bytes rfl (.tmp 24) (.tmp 26) 65 rfl w.heap.size 5 i0 Tryz.underlying65 hi hz0 hz1 hz2 _ ys rfl (hown.alloc _) _ 1 1 [(s[k].toNat : Int)] rfl H2.out (by rw [hlen'.out]; omega) (by simp; omega) ?_; intro v1 w1 hown1 hg1 hat1)
        go_roundw
        case rel =>
          rw [← hys'.out] at hown1
          exact case_step _ hkl hu'.out hown'.out hb hown1 hg1
        case measure => simp [RowKit.intOf]; omega
    · have e : k = s.size := by omega
      subst e
      obtain ⟨X, c, hv, hh⟩ := hown.holds
      subst hv
      have htext := run_text (P := Tryz.prog) 65 9 5 Tryz.underlying65 Tryz.underlying5 Tryz.underlying9 hh
      have hrr : strOfNums ys = r := by
        rw [← hys'.out, hr'.out, ← hl'.out, hsl.out, List.take_length]
        exact bytes_text _
      rw [hrr] at htext
      clear hrr hown hh
      go_wp2
      go_ret
      exact ⟨rfl, hb⟩
end Go.Proofs.YtalnjlodldhfbaaGreatDoor

/-
  Plain facts on the CORS check. No program is spoken of; no condition beyond those that each theorem states.
-/
namespace Go.Proofs.YtalnjlodldhfbaaGreatDoor
open Go.Lib

/-- The names that the check asks for. -/
abbrev nameO : ByteArray := ⟨#[97, 99, 99, 101, 115, 115, 45, 99, 111, 110, 116, 114, 111, 108, 45, 97, 108, 108, 111, 119, 45, 111, 114, 105, 103, 105, 110]⟩
abbrev nameC : ByteArray := ⟨#[97, 99, 99, 101, 115, 115, 45, 99, 111, 110, 116, 114, 111, 108, 45, 97, 108, 108, 111, 119, 45, 99, 114, 101, 100, 101, 110, 116, 105, 97, 108, 115]⟩

/-- May it be seen? a: what the header of the origin says; b: is there one; t: what the header of the credentials says; s: the origin; k: the mode of credentials. -/
def seenOf (a : ByteArray) (b : Bool) (t s : ByteArray) (k : Int) : Bool :=
  b && ((!decide (k = 3) && (a.toList == [42])) || ((a.toList == s.toList) && (!decide (k = 3) || (t.toList == [116, 114, 117, 101]))))
def seen (l : List Hd) (s : ByteArray) (k : Int) : Bool := seenOf (mk (joined (vals nameO l))) (decide (0 < (vals nameO l).length)) (mk (joined (vals nameC l))) s k

/-- What is seen with credentials is seen without. -/
theorem seen_less {l : List Hd} {s : ByteArray} (h : seen l s 3 = true) (k : Int) : seen l s k = true := by
  unfold seen seenOf at h ⊢
  revert h
  generalize ((mk (joined (vals nameO l))).toList == [42]) = p
  generalize ((mk (joined (vals nameO l))).toList == s.toList) = q
  generalize ((mk (joined (vals nameC l))).toList == [116, 114, 117, 101]) = r
  generalize decide (0 < (vals nameO l).length) = b
  generalize decide (k = 3) = d
  simp only [decide_true]
  revert p q r b d
  decide

/-- Two values more: their text is neither one of them nor a star. -/
theorem joined_more (xs : List ByteArray) (s : ByteArray) : s.size + 2 ≤ (joined (xs ++ [s] ++ [s])).length := by
  rw [joined_snoc s (by simp)]
  simp only [List.length_append, ← size_len, sep2, List.length_cons, List.length_nil]
  omega
theorem seen_twice (l : List Hd) (x y s : ByteArray) (k : Int) (hx : alike x nameO = true) (hy : alike y nameO = true) : seen (l ++ [(x, s), (y, s)]) s k = false := by
  have hv : vals nameO (l ++ [(x, s), (y, s)]) = vals nameO l ++ [s] ++ [s] := by
    rw [vals_append, vals_cons, vals_cons, hx, hy]
    simp [vals]
  have hl := joined_more (vals nameO l) s
  unfold seen seenOf
  rw [hv]
  generalize joined (vals nameO l ++ [s] ++ [s]) = z at hl
  have h1 : ((mk z).toList == [42]) = false := by
    rw [beq_eq_false_iff_ne, ByteArray.toList_eq, mk_list]
    rintro rfl
    simp at hl
  have h2 : ((mk z).toList == s.toList) = false := by
    rw [beq_eq_false_iff_ne, ByteArray.toList_eq, ByteArray.toList_eq, mk_list]
    rintro rfl
    rw [size_len] at hl
    omega
  rw [h1, h2]
  simp
end Go.Proofs.YtalnjlodldhfbaaGreatDoor

/-
  ascii.isDigit. Conditions: those that each theorem states.
-/
namespace Go.Proofs.YtalnjlodldhfbaaGreatDoor
open Go.RowKit Go.Lib

theorem isDigit_any (c : Nat) (w : World) : Calls Tryz.prog 69 #[.int .u8 c] w fun e w' => e = .returned (.bool (48 ≤ c && c ≤ 57)) ∧ w' = w := by
  rcases (show c < 48 ∨ (48 ≤ c ∧ c ≤ 57) ∨ 57 < c by omega) with h | ⟨h1, h2⟩ | h
  all_goals
    go_enter Tryz.func69, Tryz.ntmps69
    go_wp2
    go_ret
    refine ⟨ret_bool ?_, rfl⟩
    rw [Bool.eq_iff_iff]
    simp
    try omega
end Go.Proofs.YtalnjlodldhfbaaGreatDoor

/-
  Plain facts on texts of digits: their value, how many digits it has, the least of it and a limit. No program is spoken of; no condition beyond those that each theorem states.
-/
namespace Go.Proofs.YtalnjlodldhfbaaGreatDoor

def digit (b : UInt8) : Bool := 48 ≤ b.toNat && b.toNat ≤ 57
def next (v : Nat) (b : UInt8) : Nat := 10 * v + (b.toNat - 48)
/-- The decimal value of a text of digits. -/
def val (l : List UInt8) : Nat := l.foldl next 0
/-- What a text is in digits, up to a limit. -/
def number (l : List UInt8) (M : Nat) : Nat := if l.all digit then min (val l) M else 0
def isNumber (l : List UInt8) : Bool := l.all digit && !l.isEmpty

theorem digit_bounds {b : UInt8} (h : digit b = true) : 48 ≤ b.toNat ∧ b.toNat ≤ 57 := by simpa [digit] using h
theorem val_step {l : List UInt8} {k : Nat} (hk : k < l.length) : val (l.take (k + 1)) = 10 * val (l.take k) + (l[k].toNat - 48) := by
  unfold val
  rw [List.take_add_one, List.getElem?_eq_getElem hk, List.foldl_append]
  rfl

/-- How many digits a text has, without the noughts ahead. -/
def many (l : List UInt8) : Nat := l.foldl (fun m b => if 0 < m ∨ 48 < b.toNat then m + 1 else m) 0
theorem many_step {l : List UInt8} {k : Nat} (hk : k < l.length) : many (l.take (k + 1)) = if 0 < many (l.take k) ∨ 48 < l[k].toNat then many (l.take k) + 1 else many (l.take k) := by
  unfold many
  rw [List.take_add_one, List.getElem?_eq_getElem hk, List.foldl_append]
  rfl

theorem digits_of {l : List UInt8} {k : Nat} (hk : k < l.length) (h : (l.take (k + 1)).all digit = true) : (l.take k).all digit = true ∧ digit l[k] = true := by
  rw [List.take_add_one, List.getElem?_eq_getElem hk, List.all_append] at h
  simpa using h

/-- The value of a text of digits lies between two powers of ten. -/
theorem val_many {l : List UInt8} : ∀ k, k ≤ l.length → (l.take k).all digit = true →
    val (l.take k) < 10 ^ many (l.take k) ∧ (0 < many (l.take k) → 10 ^ (many (l.take k) - 1) ≤ val (l.take k)) ∧ many (l.take k) ≤ k
  | 0, _, _ => by simp [val, many]
  | k + 1, hk, h => by
    have hk' : k < l.length := by omega
    obtain ⟨h1, h2⟩ := digits_of hk' h
    obtain ⟨i1, i2, i3⟩ := val_many k (by omega) h1
    have hd := digit_bounds h2
    rw [val_step hk', many_step hk']
    by_cases hc : 0 < many (l.take k) ∨ 48 < l[k].toNat
    · rw [if_pos hc, Nat.pow_succ]
      refine ⟨by omega, fun _ => ?_, by omega⟩
      rw [Nat.add_sub_cancel]
      by_cases hm : 0 < many (l.take k)
      · have := i2 hm
        have e : many (l.take k) = many (l.take k) - 1 + 1 := by omega
        rw [e, Nat.pow_succ]
        omega
      · have e : many (l.take k) = 0 := by omega
        rw [e]
        omega
    · rw [if_neg hc]
      have e : many (l.take k) = 0 := by omega
      rw [e] at i1 ⊢
      refine ⟨by omega, fun h => absurd h (by omega), by omega⟩

/-- The value is that of the last 'many' digits. -/
theorem val_tail {l : List UInt8} : ∀ k, k ≤ l.length → (l.take k).all digit = true → val (l.take k) = val ((l.take k).drop (k - many (l.take k)))
  | 0, _, _ => by simp
  | k + 1, hk, h => by
    have hk' : k < l.length := by omega
    obtain ⟨h1, h2⟩ := digits_of hk' h
    have ih := val_tail k (by omega) h1
    obtain ⟨i1, _, i3⟩ := val_many k (by omega) h1
    have hd := digit_bounds h2
    have e1 : l.take (k + 1) = l.take k ++ [l[k]] := by
      rw [List.take_add_one, List.getElem?_eq_getElem hk']
      rfl
    have hl : (l.take k).length = k := by rw [List.length_take]; omega
    rw [val_step hk', many_step hk']
    by_cases hc : 0 < many (l.take k) ∨ 48 < l[k].toNat
    · rw [if_pos hc, show k + 1 - (many (l.take k) + 1) = k - many (l.take k) by omega, e1, List.drop_append_of_le_length (by omega)]
      conv => lhs; rw [ih]
      unfold val
      rw [List.foldl_append]
      rfl
    · rw [if_neg hc]
      have e : many (l.take k) = 0 := by omega
      rw [e] at i1 ⊢
      rw [List.drop_of_length_le (by rw [List.length_take]; omega)]
      have : val ([] : List UInt8) = 0 := rfl
      omega

/-- One digit more, up to a limit. -/
def grow (n d M : Nat) : Nat := if M < d ∨ (M - d) / 10 < n then M else 10 * n + d
theorem grow_min (V d M : Nat) : grow (min V M) d M = min (10 * V + d) M := by
  unfold grow
  split <;> omega
theorem grow_le (n d M : Nat) : grow n d M ≤ M := by
  unfold grow
  split <;> omega
theorem val_digits {l : List UInt8} {k n : Nat} (hk : k ≤ l.length) (hn : n = k) (h : (l.take k).all digit = true) : val (l.take k) < 10 ^ n := by
  obtain ⟨h1, _, h3⟩ := val_many k hk h
  subst hn
  exact Nat.lt_of_lt_of_le h1 (Nat.pow_le_pow_right (by omega) h3)
end Go.Proofs.YtalnjlodldhfbaaGreatDoor

/-
  append of whatever reads as headers onto a slice of the call's own. Conditions: those that each theorem states.
-/
namespace Go.Proofs.YtalnjlodldhfbaaGreatDoor
open Go.RowKit Go.Lib Go.Shelf

section
variable {P : Program} {w : World}
/-- 'append' of whatever reads as headers onto a slice of the call's own. -/
theorem run_append_hds (base : Nat) (t ty : TypeId) (i : TypeInfo) (ht : P.underlying t = some (.slice 45)) (hi : P.info? 45 = some i) (hz : i.zero = some (.agg #[.string ByteArray.empty, .string ByteArray.empty])) (hs : i.size = 2) (hb : i.bytes = 32)
    {v : Value} {xs : List Hd} (hown : OwnsH w base v xs) {A : Option Addr} {m c : Nat} {l : List Hd} (h : Hds w A m c l) (hlim : xs.length + m ≤ 1000000) (hbase : base ≤ w.heap.size) :
    ∃ v' w', (Builtin.append_ #[t, t] ty #[v, .slice A m c]).run P w = .ok v' w' ∧ OwnsH w' base v' (xs ++ l) ∧ w.grownBy w' v.ownBlock := by
  have hl := h.len
  subst hl
  cases A with
  | none =>
    have hc := h.bare rfl
    subst hc
    have h0 : l.length = 0 := by have := h.cap; omega
    have hl : l = [] := List.eq_nil_of_length_eq_zero h0
    subst hl
    exact ⟨v, w, run_append_owned_none (P := P) w base t ty _ i 2 ht hi v _ _ hown, by simpa using hown, World.grownBy.refl w _⟩
  | some ad =>
    have hcs : ∀ j u, (hcells l)[j]? = some u → w.cell? (ad.add j) = some u := by
      intro j u hu
      have hj : j < l.length * 2 := by
        have := (List.getElem?_eq_some_iff.1 hu).1
        rwa [hcells_len] at this
      obtain ⟨b, off, e1, _, hc⟩ := h.cell (by omega)
      injection e1 with e1
      subst e1
      rw [addr_add, hc j hj, hu]
    have h63 : xs.length + l.length ≤ maxLen := by simp only [maxLen]; omega
    obtain ⟨v', w', hrun, h2, h3, _, h5⟩ := run_append_own_at (P := P) w base t ty _ i _ 2 32 ht hi hz hs hb rfl (by omega) v _ _ hown ad l.length c (hcells l) (hcells_len l) hcs (hcells_one l) h63 (by omega) hbase
    refine ⟨v', w', hrun, ?_, h3⟩
    unfold OwnsH
    rw [List.length_append, hcells_append]
    exact h2
theorem wpList_append_hds {ops : Array Oper} {rest : List Oper} {o : Oper} {a : Act} {Q : Exit → Act → World → Prop} (hgd : o.guard = Option.none) (s x : Operand) (t : TypeId)
    (ho : o.op = .call { callee := .builtin .append, args := #[s, x], argTypes := #[t, t] })
    (base : Nat) (i : TypeInfo) (ht : P.underlying t = some (.slice 45)) (hi : P.info? 45 = some i) (hz : i.zero = some (.agg #[.string ByteArray.empty, .string ByteArray.empty])) (hz1 : i.size = 2) (hz2 : i.bytes = 32)
    (v : Value) (xs : List Hd) (hs : a.eval s = v) (hown : OwnsH w base v xs) (A : Option Addr) (m c : Nat) (l : List Hd) (hx : a.eval x = .slice A m c) (h : Hds w A m c l)
    (hlim : xs.length + m ≤ 1000000) (hbase : base ≤ w.heap.size)
    (hK : ∀ v' w', OwnsH w' base v' (xs ++ l) → w.grownBy w' v.ownBlock → wpList P ops Q rest (a.put o.dst v') w') : wpList P ops Q (o :: rest) a w :=
  wpList_plain hgd fun _ hK' => by
    obtain ⟨v', w', hrun, h2, h3⟩ := run_append_hds (P := P) base t o.type i ht hi hz hz1 hz2 hown h hlim hbase
    unfold Oper.wp execOp
    simp only [ho, resolve, invoke, builtin, Sem.run_bind, Sem.run_pure, Result.andThen_ok, List.map_toArray, List.map_cons, List.map_nil, hs, hx, hrun]
    exact hK' _ _ (hK v' w' h2 h3)
end
end Go.Proofs.YtalnjlodldhfbaaGreatDoor

/-
  The law's own 'few' of layer 14. Conditions: those that each theorem states.
-/
namespace Go.Proofs.YtalnjlodldhfbaaGreatDoor
open Go.RowKit Go.Lib Go.Shelf

set_option maxRecDepth 100000 in
theorem few14_any (A : Option Addr) (n c : Nat) (l : List Hd) (w : World) (h : Hds w A n c l) : Calls Tryz.prog 8 #[.slice A n c] w fun e w' => e = .returned (.slice A (min n 30) c) ∧ w' = w := by
  have hn : n ≤ 9223372036854775807 := by have h1 := h.cap; have h2 := h.room; unfold maxLen at h2; omega
  have hc : c ≤ 9223372036854775807 := by have h2 := h.room; unfold maxLen at h2; omega
  have hcap := h.cap
  by_cases h30 : 30 < n
  · obtain ⟨b, off, rfl, _, _⟩ := h.cell (by omega)
    have e : min n 30 = 30 := by omega
    rw [e]
    clear e h
    go_enter Tryz.func8, Tryz.ntmps8
    go_wp2
    go_ret
    exact ⟨rfl, rfl⟩
  · have e : min n 30 = n := by omega
    rw [e]
    clear e h
    go_enter Tryz.func8, Tryz.ntmps8
    go_wp2
    go_ret
    exact ⟨rfl, rfl⟩
end Go.Proofs.YtalnjlodldhfbaaGreatDoor

/-
  The reference's Same of layer 9. Conditions: those that each theorem states.
-/
namespace Go.Proofs.YtalnjlodldhfbaaGreatDoor
open Go.RowKit Go.Lib Go.Shelf

theorem same9_of {a b : List Hd} (hl : a.length = b.length) (h : ∀ j (h1 : j < a.length) (h2 : j < b.length), a[j] = b[j]) : a = b := List.ext_getElem hl h

set_option maxHeartbeats 2000000 in
set_option maxRecDepth 100000 in
/-- Two lists that read as one are the same. (The laws ask it of equal lists alone.) -/
theorem same9_any (A B : Option Addr) (n m c d : Nat) (a : List Hd) (w : World) (ha : Hds w A n c a) (hb : Hds w B m d a) :
    Calls Tryz.prog 10 #[.slice A n c, .slice B m d] w fun e w' => e = .returned (.bool true) ∧ Below w.heap.size w w' := by
  have hnm : n = m := by rw [← ha.len, ← hb.len]
  subst hnm
  have hn : n ≤ 9223372036854775807 := by have h1 := ha.cap; have h2 := ha.room; unfold maxLen at h2; omega
  have hl := Lib.hid ha.len
  have ha' := Lib.hid ha
  have hb' := Lib.hid hb
  clear ha hb
  go_enter Tryz.func10, Tryz.ntmps10
  go_wp2
  go_loopw [5] (fun i wr => ∃ k : Nat, k ≤ n ∧ i = .int .i64 k ∧ Below w.heap.size w wr) (fun i _ => n - (RowKit.intOf i).toNat)
  case atStart => exact ⟨0, Nat.zero_le _, rfl, Below.refl _ _⟩
  case round =>
    obtain ⟨k, hk, rfl, hbe⟩ := hrel
    by_cases hkn : k < n
    · obtain ⟨ga, oa, rfl, h1, h2⟩ := (ha'.out.later hbe).at hkn
      obtain ⟨gb, ob, rfl, h3, h4⟩ := (hb'.out.later hbe).at hkn
      generalize (a[k]'(by rw [hl.out]; exact hkn)).1 = x at h1 h3
      generalize (a[k]'(by rw [hl.out]; exact hkn)).2 = y at h2 h4
      go_wp2
      go_region
      all_goals go_wp2
      all_goals
        go_roundw
        case rel =>
          refine ⟨k + 1, by omega, by go_num, ?_⟩
          first | exact hbe.drew | exact below_drawn hbe _
        case measure => simp [RowKit.intOf]; omega
    · go_wp2
      go_ret
      exact ⟨rfl, hbe⟩
end Go.Proofs.YtalnjlodldhfbaaGreatDoor
