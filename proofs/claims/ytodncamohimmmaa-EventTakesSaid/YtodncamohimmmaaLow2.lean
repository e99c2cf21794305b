/-
  Texts of one sort, one behind the other: numbers, memory, regions, strings, headers. Conditions: those that each theorem states.
-/
import Derived.Lib.Hide
import Derived.WalkKit
import Derived.WalkSpells
import Derived.Maps.AppendAt
import Derived.Laws.BytesArg
import Derived.Lib.Bytes
import Derived.OpenShut
import Derived.Deep.Draws
import Derived.WalkSmall
import Derived.Test.YtodncamohimmmaaChecked
import Derived.WalkLawsBesides
import Derived.Lib.Varint

namespace Go.Proofs.Ytodncamohimmmaa.Leb

def enc (n : Nat) : List Int := if _h : n < 128 then [(n : Int)] else ((n % 128 + 128 : Nat) : Int) :: enc (n / 128)
termination_by n
decreasing_by omega

theorem enc_small {n : Nat} (h : n < 128) : enc n = [(n : Int)] := by rw [enc, dif_pos h]
theorem enc_big {n : Nat} (h : 128 ≤ n) : enc n = ((n % 128 + 128 : Nat) : Int) :: enc (n / 128) := by rw [enc, dif_neg (by omega)]

def size (n : Nat) : Nat := (enc n).length

theorem size_small {n : Nat} (h : n < 128) : size n = 1 := by simp [size, enc_small h]
theorem size_big {n : Nat} (h : 128 ≤ n) : size n = size (n / 128) + 1 := by simp [size, enc_big h]
theorem size_pos (n : Nat) : 1 ≤ size n := by
  by_cases h : n < 128
  · rw [size_small h]; omega
  · rw [size_big (by omega)]; omega

theorem size_le : ∀ (k n : Nat), n < 128 ^ (k + 1) → size n ≤ k + 1
  | 0, n, h => by rw [size_small (by simpa using h)]; omega
  | k + 1, n, h => by
    by_cases hn : n < 128
    · rw [size_small hn]; omega
    · rw [size_big (by omega)]
      have := size_le k (n / 128) (by rw [Nat.div_lt_iff_lt_mul (by omega)]; rw [Nat.pow_succ] at h; exact h)
      omega

theorem size_le10 {n : Nat} (h : n < 18446744073709551616) : size n ≤ 10 :=
  size_le 9 n (Nat.lt_of_lt_of_le h (by decide))

def Bytes (l : List Int) : Prop := ∀ x ∈ l, 0 ≤ x ∧ x < 256

theorem Bytes.nil : Bytes [] := fun _ h => by cases h
theorem Bytes.append {a b : List Int} (ha : Bytes a) (hb : Bytes b) : Bytes (a ++ b) := fun x hx => by
  rcases List.mem_append.1 hx with h | h
  · exact ha x h
  · exact hb x h
theorem Bytes.take {a : List Int} (ha : Bytes a) (k : Nat) : Bytes (a.take k) := fun x hx => ha x (List.mem_of_mem_take hx)
theorem Bytes.drop {a : List Int} (ha : Bytes a) (k : Nat) : Bytes (a.drop k) := fun x hx => ha x (List.mem_of_mem_drop hx)
theorem Bytes.getD {a : List Int} (ha : Bytes a) (k : Nat) : 0 ≤ a[k]?.getD 0 ∧ a[k]?.getD 0 ≤ 255 := by
  by_cases h : k < a.length
  · have := ha a[k] (List.getElem_mem h)
    rw [List.getElem?_eq_getElem h]
    simp only [Option.getD_some]
    omega
  · rw [List.getElem?_eq_none (by omega)]
    simp

theorem enc_bytes (n : Nat) : Bytes (enc n) := by
  induction n using Nat.strongRecOn with
  | ind n ih =>
    by_cases h : n < 128
    · rw [enc_small h]; intro x hx; simp at hx; omega
    · rw [enc_big (by omega)]
      intro x hx
      rcases List.mem_cons.1 hx with h | h
      · omega
      · exact ih _ (by omega) x h

def val : List Int → Nat
  | [] => 0
  | x :: r => (x % 128).toNat + 128 * val r

theorem val_enc (n : Nat) : val (enc n) = n := by
  induction n using Nat.strongRecOn with
  | ind n ih =>
    by_cases h : n < 128
    · rw [enc_small h]; simp only [val]; omega
    · rw [enc_big (by omega)]
      simp only [val, ih (n / 128) (by omega)]
      omega

theorem val_snoc : ∀ (l : List Int) (k : Nat), k < l.length → val (l.take (k + 1)) = val (l.take k) + (l[k]?.getD 0 % 128).toNat * 128 ^ k
  | [], _, h => by simp at h
  | x :: r, 0, _ => by simp [val]
  | x :: r, k + 1, h => by
    have ih := val_snoc r k (by simpa using h)
    rw [List.take_succ_cons, List.take_succ_cons]
    simp only [val, ih, List.getElem?_cons_succ]
    generalize (r[k]?.getD 0 % 128).toNat = t
    have e : t * 128 ^ (k + 1) = 128 * (t * 128 ^ k) := by rw [Nat.pow_succ, ← Nat.mul_assoc, Nat.mul_comm]
    rw [e]
    omega

theorem val_take_lt : ∀ (k : Nat) (l : List Int), val (l.take k) < 128 ^ k
  | 0, l => by simp [val]
  | k + 1, [] => by simp only [List.take_nil, val]; exact Nat.pow_pos (by omega)
  | k + 1, x :: r => by
    have ih := val_take_lt k r
    rw [List.take_succ_cons]
    simp only [val]
    rw [Nat.pow_succ]
    omega

theorem val_take_le : ∀ (k : Nat) (l : List Int), val (l.take k) ≤ val l
  | 0, l => by simp [val]
  | k + 1, [] => by simp
  | k + 1, x :: r => by
    have ih := val_take_le k r
    rw [List.take_succ_cons]
    simp only [val]
    omega

def Ends : List Int → Prop
  | [] => False
  | [x] => 0 ≤ x ∧ x < 128
  | x :: y :: r => 128 ≤ x ∧ x < 256 ∧ Ends (y :: r)

theorem ends_cons {x : Int} {l : List Int} (hx : 128 ≤ x) (hx' : x < 256) (h : Ends l) : Ends (x :: l) := by
  cases l with
  | nil => exact h.elim
  | cons y r => exact ⟨hx, hx', h⟩

theorem enc_ends (n : Nat) : Ends (enc n) := by
  induction n using Nat.strongRecOn with
  | ind n ih =>
    by_cases h : n < 128
    · rw [enc_small h]; exact ⟨by omega, by omega⟩
    · rw [enc_big (by omega)]
      exact ends_cons (by omega) (by omega) (ih _ (by omega))

def last (l : List Int) : Int := l.getLast?.getD 0

theorem last_one (x : Int) : last [x] = x := rfl
theorem last_cons (x y : Int) (l : List Int) : last (x :: y :: l) = last (y :: l) := by simp [last, List.getLast?_cons]

theorem ends_last : ∀ {l : List Int}, Ends l → 0 ≤ last l ∧ last l < 128
  | [], h => h.elim
  | [x], h => h
  | x :: y :: r, h => by rw [last_cons]; exact ends_last h.2.2

theorem val_last : ∀ (k : Nat) (l : List Int), Ends l → l.length = k + 1 → (last l).toNat * 128 ^ k ≤ val l ∧ val l < ((last l).toNat + 1) * 128 ^ k
  | 0, [x], h, _ => by
    have h0 := h.1
    have h1 := h.2
    rw [last_one]
    simp only [val, Nat.pow_zero]
    omega
  | k + 1, x :: y :: r, h, hl => by
    have ih := val_last k (y :: r) h.2.2 (by simpa using hl)
    rw [last_cons, Nat.pow_succ]
    have e : val (x :: y :: r) = (x % 128).toNat + 128 * val (y :: r) := rfl
    rw [e]
    generalize val (y :: r) = v at ih ⊢
    generalize (last (y :: r)).toNat = t at ih ⊢
    have a1 : t * (128 ^ k * 128) = 128 * (t * 128 ^ k) := by rw [← Nat.mul_assoc, Nat.mul_comm]
    have a2 : (t + 1) * (128 ^ k * 128) = 128 * ((t + 1) * 128 ^ k) := by rw [← Nat.mul_assoc, Nat.mul_comm]
    rw [a1, a2]
    omega
  | 0, [], h, _ => h.elim
  | 0, x :: y :: r, _, hl => by simp at hl
  | k + 1, [], h, _ => h.elim
  | k + 1, [x], _, hl => by simp at hl

theorem enc_val : ∀ (l : List Int), Ends l → (enc (val l) = l ↔ (last l ≠ 0 ∨ l.length = 1))
  | [], h => h.elim
  | [x], h => by
    have h0 := h.1
    have h1 := h.2
    have e : val [x] = x.toNat := by simp only [val]; omega
    rw [e, enc_small (by omega)]
    simp
    omega
  | x :: y :: r, h => by
    have ih := enc_val (y :: r) h.2.2
    have hx := h.1
    have hx' := h.2.1
    have e : val (x :: y :: r) = (x % 128).toNat + 128 * val (y :: r) := rfl
    rw [last_cons, e]
    generalize hv : val (y :: r) = v at ih ⊢
    by_cases hz : v = 0
    · subst hz
      have hlt : (x % 128).toNat + 128 * 0 < 128 := by omega
      rw [enc_small hlt]
      have hy := val_last r.length (y :: r) h.2.2 (by simp)
      rw [hv] at hy
      have hl := ends_last h.2.2
      have hp : 0 < 128 ^ r.length := Nat.pow_pos (by omega)
      have h0 : (last (y :: r)).toNat = 0 := by
        rcases Nat.eq_zero_or_pos (last (y :: r)).toNat with h | h
        · exact h
        · have := Nat.mul_pos h hp
          omega
      constructor
      · intro hc
        simp at hc
      · intro hc
        simp at hc
        omega
    · rw [enc_big (by omega)]
      have e1 : ((x % 128).toNat + 128 * v) % 128 + 128 = x.toNat := by omega
      have e2 : ((x % 128).toNat + 128 * v) / 128 = v := by omega
      rw [e1, e2]
      have e3 : ((x.toNat : Nat) : Int) = x := by omega
      rw [e3]
      constructor
      · intro hc
        have hc' : enc v = y :: r := by injection hc
        rcases ih.1 hc' with h | h
        · exact .inl h
        · have hr : r = [] := List.eq_nil_of_length_eq_zero (by simpa using h)
          subst hr
          left
          rw [last_one]
          intro hy0
          subst hy0
          simp [val] at hv
          omega
      · intro hc
        have : last (y :: r) ≠ 0 := by
          rcases hc with h | h
          · exact h
          · simp at h
        rw [ih.2 (.inl this)]

def uniq (l : List Int) : Bool := if (decide (l.length = 10) && decide (1 < last l)) = true then false else (last l != 0 || decide (l.length = 1))

theorem uniq_iff (l : List Int) : uniq l = true ↔ (l.length = 10 → last l ≤ 1) ∧ (last l ≠ 0 ∨ l.length = 1) := by
  unfold uniq
  by_cases h : (decide (l.length = 10) && decide (1 < last l)) = true
  · rw [if_pos h]
    simp at h
    simp
    intro h'
    have := h' h.1
    omega
  · rw [if_neg h]
    simp at h
    simp
    intro _ h'
    have := h h'
    omega

theorem val_lt {l : List Int} (h : Ends l) (hl : l.length ≤ 10) (hu : l.length = 10 → last l ≤ 1) : val l < 18446744073709551616 := by
  obtain ⟨k, hk⟩ : ∃ k, l.length = k + 1 := by
    cases l with
    | nil => exact h.elim
    | cons x r => exact ⟨r.length, rfl⟩
  have hv := val_last k l h hk
  have hb := ends_last h
  rcases Nat.lt_or_ge k 9 with h9 | h9
  · have hle : ((last l).toNat + 1) * 128 ^ k ≤ 128 * 128 ^ 8 := Nat.mul_le_mul (by omega) (Nat.pow_le_pow_right (by omega) (by omega))
    have : (128 : Nat) * 128 ^ 8 < 18446744073709551616 := by decide
    omega
  · have hk9 : k = 9 := by omega
    subst hk9
    have hle : ((last l).toNat + 1) * 128 ^ 9 ≤ 2 * 128 ^ 9 := Nat.mul_le_mul_right _ (by have := hu hk; omega)
    have : (2 : Nat) * 128 ^ 9 = 18446744073709551616 := by decide
    omega

theorem uniq_enc {l : List Int} (h : Ends l) (hl : l.length ≤ 10) : (enc (val l % 18446744073709551616) = l ↔ uniq l = true) := by
  rw [uniq_iff]
  constructor
  · intro he
    have hv : val l % 18446744073709551616 = val l := by
      have := congrArg val he
      rwa [val_enc] at this
    rw [hv] at he
    refine ⟨fun h10 => ?_, (enc_val l h).1 he⟩
    have hlow := (val_last 9 l h h10).1
    have hb := ends_last h
    have hlt : val l < 18446744073709551616 := by omega
    have e : (128 : Nat) ^ 9 = 9223372036854775808 := by decide
    rw [e] at hlow
    omega
  · intro hu
    rw [Nat.mod_eq_of_lt (val_lt h hl hu.1)]
    exact (enc_val l h).2 hu.2

def span (l : List Int) : Nat := match (l.take 10).findIdx? (fun x => decide (x < 128)) with | some k => k + 1 | none => 0

theorem span_hit {l : List Int} {k : Nat} (hk : k < l.length) (h10 : k < 10) (hb : ∀ j, j < k → 128 ≤ l[j]?.getD 0) (hx : l[k]?.getD 0 < 128) : span l = k + 1 := by
  have e : (l.take 10).findIdx? (fun x => decide (x < 128)) = some k := by
    rw [List.findIdx?_eq_some_iff_getElem]
    refine ⟨by simp; omega, ?_, fun j hj => ?_⟩
    · rw [List.getElem?_eq_getElem hk] at hx
      simpa using hx
    · have := hb j hj
      rw [List.getElem?_eq_getElem (by omega)] at this
      simpa using this
  simp [span, e]

theorem span_none {l : List Int} (hb : ∀ j, j < l.length → j < 10 → 128 ≤ l[j]?.getD 0) : span l = 0 := by
  have e : (l.take 10).findIdx? (fun x => decide (x < 128)) = none := by
    rw [List.findIdx?_eq_none_iff]
    intro x hx
    obtain ⟨j, hj, rfl⟩ := List.mem_iff_getElem.1 hx
    simp at hj
    have := hb j (by omega) (by omega)
    rw [List.getElem?_eq_getElem (by omega)] at this
    simpa using this
  simp [span, e]

theorem span_cases (l : List Int) : (span l = 0 ∧ ∀ j, j < l.length → j < 10 → 128 ≤ l[j]?.getD 0) ∨
    ∃ k, span l = k + 1 ∧ k < l.length ∧ k < 10 ∧ (∀ j, j < k → 128 ≤ l[j]?.getD 0) ∧ l[k]?.getD 0 < 128 := by
  rcases h : (l.take 10).findIdx? (fun x => decide (x < 128)) with _ | k
  · left
    refine ⟨by simp [span, h], fun j hj h10 => ?_⟩
    rw [List.findIdx?_eq_none_iff] at h
    have := h l[j] (by rw [List.mem_take_iff_getElem]; exact ⟨j, by omega, rfl⟩)
    rw [List.getElem?_eq_getElem hj]
    simpa using this
  · right
    refine ⟨k, by simp [span, h], ?_⟩
    rw [List.findIdx?_eq_some_iff_getElem] at h
    obtain ⟨hk, hx, hb⟩ := h
    simp at hk
    refine ⟨by omega, by omega, fun j hj => ?_, ?_⟩
    · have := hb j hj
      rw [List.getElem?_eq_getElem (by omega)]
      simpa using this
    · rw [List.getElem?_eq_getElem (by omega)]
      simpa using hx

theorem span_le (l : List Int) : span l ≤ l.length ∧ span l ≤ 10 := by
  rcases span_cases l with ⟨h, _⟩ | ⟨k, h, h1, h2, _⟩ <;> omega

theorem ends_take : ∀ (k : Nat) (l : List Int), Bytes l → k < l.length → (∀ j, j < k → 128 ≤ l[j]?.getD 0) → l[k]?.getD 0 < 128 → Ends (l.take (k + 1))
  | _, [], _, h, _, _ => by simp at h
  | 0, x :: r, hb, _, _, hx => by
    have := hb x (by simp)
    simp at hx
    simp only [Nat.zero_add, List.take_succ_cons, List.take_zero, Ends]
    omega
  | k + 1, x :: r, hb, hk, hj, hx => by
    have h0 := hj 0 (by omega)
    simp at h0
    have hxb := hb x (by simp)
    rw [List.take_succ_cons]
    refine ends_cons h0 hxb.2 (ends_take k r (fun y hy => hb y (by simp [hy])) (by simpa using hk) (fun j hj' => ?_) (by simpa using hx))
    have := hj (j + 1) (by omega)
    simpa using this

theorem ends_span {l : List Int} (hb : Bytes l) (h : span l ≠ 0) : Ends (l.take (span l)) := by
  rcases span_cases l with ⟨h0, _⟩ | ⟨k, h0, h1, h2, h3, h4⟩
  · exact absurd h0 h
  · rw [h0]; exact ends_take k l hb h1 h3 h4

theorem length_span (l : List Int) : (l.take (span l)).length = span l := by
  have := span_le l
  simp; omega

def take (l : List Int) (p : Int) : Nat × Int × Int :=
  if p < 0 ∨ (l.length : Int) < p then (0, 0, 1)
  else if span (l.drop p.toNat) = 0 ∧ (l.drop p.toNat).length < 10 then (0, 0, 7)
  else if span (l.drop p.toNat) = 0 ∨ uniq ((l.drop p.toNat).take (span (l.drop p.toNat))) = false then (0, 0, 4)
  else (val ((l.drop p.toNat).take (span (l.drop p.toNat))), p + span (l.drop p.toNat), 0)

theorem ends_at : ∀ (l r : List Int), Ends l → (∀ j, j < l.length - 1 → 128 ≤ (l ++ r)[j]?.getD 0) ∧ (l ++ r)[l.length - 1]?.getD 0 < 128 ∧ 0 < l.length
  | [], _, h => h.elim
  | [x], r, h => by simp; exact h.2
  | x :: y :: l, r, h => by
    obtain ⟨a, b, _⟩ := ends_at (y :: l) r h.2.2
    refine ⟨fun j hj => ?_, by simpa using b, by simp⟩
    cases j with
    | zero => simpa using h.1
    | succ j => simpa using a j (by simp at hj; simp; omega)

theorem span_ends {l : List Int} (r : List Int) (h : Ends l) (hl : l.length ≤ 10) : span (l ++ r) = l.length := by
  obtain ⟨a, b, c⟩ := ends_at l r h
  rw [span_hit (k := l.length - 1) (by simp; omega) (by omega) a b]
  omega

theorem enc_uniq {n : Nat} (hn : n < 18446744073709551616) : uniq (enc n) = true := by
  rw [← uniq_enc (enc_ends n) (size_le10 hn), val_enc, Nat.mod_eq_of_lt hn]

theorem take_enc (a r : List Int) {n : Nat} (hn : n < 18446744073709551616) : take (a ++ enc n ++ r) a.length = (n, ((a ++ enc n).length : Int), 0) := by
  have hs : span (enc n ++ r) = (enc n).length := span_ends r (enc_ends n) (size_le10 hn)
  have hp : 0 < (enc n).length := size_pos n
  unfold take
  have e1 : (a ++ enc n ++ r).drop ((a.length : Int)).toNat = enc n ++ r := by simp
  rw [e1, hs, if_neg (by simp; omega), if_neg (by omega)]
  have e2 : (enc n ++ r).take (enc n).length = enc n := by simp
  rw [e2, enc_uniq hn, if_neg (fun h => h.elim (fun h => by omega) (fun h => by cases h)), val_enc]
  simp

theorem take_only {l : List Int} (hb : Bytes l) {k : Nat} {q : Int} (h : take l 0 = (k, q, 0)) : 0 ≤ q ∧ q ≤ l.length ∧ enc k = l.take q.toNat ∧ k < 18446744073709551616 := by
  unfold take at h
  rw [if_neg (by omega)] at h
  simp only [Int.toNat_zero, List.drop_zero] at h
  by_cases h1 : span l = 0 ∧ l.length < 10
  · rw [if_pos h1] at h
    simp at h
  rw [if_neg h1] at h
  by_cases h2 : span l = 0 ∨ uniq (l.take (span l)) = false
  · rw [if_pos h2] at h
    simp at h
  rw [if_neg h2] at h
  simp only [not_or, Bool.not_eq_false] at h2
  injection h with ha hq
  injection hq with hq _
  have hE := ends_span hb h2.1
  have hl := span_le l
  have hlen := length_span l
  have hv := val_lt hE (by omega) ((uniq_iff _).1 h2.2).1
  refine ⟨by omega, by omega, ?_, by omega⟩
  rw [← ha, ← hq]
  have := (uniq_enc hE (by omega)).2 h2.2
  rw [Nat.mod_eq_of_lt hv] at this
  rw [this]
  congr 1
  omega

theorem take_lt {l : List Int} (hb : Bytes l) (p : Int) : (take l p).1 < 18446744073709551616 := by
  unfold take
  split
  · simp
  split
  · simp
  split
  · simp
  · rename_i h
    simp only [not_or, Bool.not_eq_false] at h
    have hl := span_le (l.drop p.toNat)
    have hlen := length_span (l.drop p.toNat)
    exact val_lt (ends_span (hb.drop _) h.1) (by omega) ((uniq_iff _).1 h.2).1

end Go.Proofs.Ytodncamohimmmaa.Leb

namespace Go.Proofs.Ytodncamohimmmaa
open Leb

def nums (p : List UInt8) : List Int := p.map fun b => (b.toNat : Int)
def ltrs (q : List Int) : List UInt8 := q.map fun x => UInt8.ofNat x.toNat

theorem nums_len (p : List UInt8) : (nums p).length = p.length := by simp [nums]
theorem ltrs_len (q : List Int) : (ltrs q).length = q.length := by simp [ltrs]
theorem nums_bytes (p : List UInt8) : Bytes (nums p) := fun x hx => by
  obtain ⟨b, _, rfl⟩ := List.mem_map.1 hx
  have := b.toNat_lt
  omega
theorem nums_ltrs {q : List Int} (h : Bytes q) : nums (ltrs q) = q := by
  induction q with
  | nil => rfl
  | cons x q ih =>
    have h1 := h x (by simp)
    have h2 := ih fun y hy => h y (by simp [hy])
    simp only [nums, ltrs, List.map_cons, List.map_map] at h2 ⊢
    rw [h2]
    congr 1
    have h3 : (UInt8.ofNat x.toNat).toNat = x.toNat := by rw [UInt8.toNat_ofNat']; omega
    rw [h3]
    omega
theorem ltrs_nums (p : List UInt8) : ltrs (nums p) = p := by
  induction p with
  | nil => rfl
  | cons b p ih =>
    simp only [nums, ltrs, List.map_cons, List.map_map, Int.toNat_natCast] at ih ⊢
    rw [ih]
    congr 1
    exact UInt8.ofNat_toNat
theorem Bytes.cut {q : List Int} (h : Bytes q) (i k : Nat) : Bytes ((q.drop i).take k) := (h.drop i).take k

def numT : List (List UInt8) → List UInt8 → Nat
  | [], _ => 0
  | x :: l, s => if x = s then 1 else if numT l s = 0 then 0 else numT l s + 1

theorem numT_le : ∀ (l : List (List UInt8)) (s : List UInt8), numT l s ≤ l.length
  | [], _ => Nat.le_refl _
  | x :: l, s => by
    have := numT_le l s
    unfold numT
    split
    · simp
    · split
      · simp
      · simp only [List.length_cons]; omega
theorem numT_mem : ∀ (l : List (List UInt8)) (s : List UInt8), numT l s ≠ 0 ↔ s ∈ l
  | [], s => by simp [numT]
  | x :: l, s => by
    have := numT_mem l s
    unfold numT
    by_cases hx : x = s
    · simp [hx]
    · have hs : ¬ s = x := fun e => hx e.symm
      rw [if_neg hx, List.mem_cons, ← this]
      split
      · rename_i h0; simp [h0, hs]
      · rename_i h0; simp [h0]
theorem numT_at : ∀ (l : List (List UInt8)) (s : List UInt8), numT l s ≠ 0 → l[numT l s - 1]? = some s
  | [], s, h => absurd rfl h
  | x :: l, s, h => by
    unfold numT at h ⊢
    by_cases hx : x = s
    · subst hx; simp
    · rw [if_neg hx] at h ⊢
      by_cases h0 : numT l s = 0
      · rw [if_pos h0] at h; exact absurd rfl h
      · rw [if_neg h0]
        have := numT_at l s h0
        rw [show numT l s + 1 - 1 = (numT l s - 1) + 1 by omega, List.getElem?_cons_succ]
        exact this
theorem numT_first : ∀ (l : List (List UInt8)) (s : List UInt8) (k : Nat), (∀ j, j < k → l[j]? ≠ some s) → l[k]? = some s → numT l s = k + 1
  | [], s, k, _, h => by simp at h
  | x :: l, s, 0, _, h => by
    have : x = s := by simpa using h
    unfold numT
    rw [if_pos this]
  | x :: l, s, k + 1, hb, h => by
    have h0 : x ≠ s := fun e => hb 0 (by omega) (by simp [e])
    have := numT_first l s k (fun j hj => by have := hb (j + 1) (by omega); simpa using this) (by simpa using h)
    unfold numT
    rw [if_neg h0, this, if_neg (by omega)]
theorem numT_none {l : List (List UInt8)} {s : List UInt8} (h : ∀ j, j < l.length → l[j]? ≠ some s) : numT l s = 0 := by
  apply Classical.byContradiction
  intro h0
  have h1 := numT_at l s h0
  have := numT_le l s
  exact h (numT l s - 1) (by omega) h1
theorem numT_snoc_new {l : List (List UInt8)} {s : List UInt8} (h : numT l s = 0) : numT (l ++ [s]) s = l.length + 1 := by
  apply numT_first
  · intro j hj e
    rw [List.getElem?_append_left hj] at e
    exact (numT_mem l s).2 (List.mem_of_getElem? e) h
  · simp
theorem numT_snoc_other : ∀ (l : List (List UInt8)) {s x : List UInt8}, s ≠ x → numT (l ++ [x]) s = numT l s
  | [], s, x, h => by simp [numT, Ne.symm h]
  | y :: l, s, x, h => by
    show numT (y :: (l ++ [x])) s = _
    unfold numT
    rw [numT_snoc_other l h]
theorem numT_one {l : List (List UInt8)} {s : List UInt8} {k : Nat} (hu : l.Nodup) (h : l[k]? = some s) : numT l s = k + 1 := by
  apply numT_first _ _ _ _ h
  intro j hj e
  have hk := (List.getElem?_eq_some_iff.1 h).1
  have := (List.getElem?_inj (by omega) hu).1 (e.trans h.symm)
  omega

def putB (l : List (List UInt8)) (s : List UInt8) : List Int := if numT l s = 0 then 0 :: enc s.length ++ nums s else enc (numT l s)
def putL (l : List (List UInt8)) (s : List UInt8) : List (List UInt8) := if numT l s = 0 then l ++ [s] else l

theorem putB_old {l : List (List UInt8)} {s : List UInt8} (h : numT l s ≠ 0) : putB l s = enc (numT l s) := by rw [putB, if_neg h]
theorem putB_new {l : List (List UInt8)} {s : List UInt8} (h : numT l s = 0) : putB l s = 0 :: enc s.length ++ nums s := by rw [putB, if_pos h]
theorem putL_old {l : List (List UInt8)} {s : List UInt8} (h : numT l s ≠ 0) : putL l s = l := by rw [putL, if_neg h]
theorem putL_new {l : List (List UInt8)} {s : List UInt8} (h : numT l s = 0) : putL l s = l ++ [s] := by rw [putL, if_pos h]
theorem putL_len (l : List (List UInt8)) (s : List UInt8) : (putL l s).length ≤ l.length + 1 := by
  unfold putL; split <;> simp
theorem putL_nodup {l : List (List UInt8)} (s : List UInt8) (h : l.Nodup) : (putL l s).Nodup := by
  by_cases h0 : numT l s = 0
  · rw [putL_new h0]
    have hm : s ∉ l := fun hm => (numT_mem l s).2 hm h0
    refine List.nodup_append.2 ⟨h, by simp, fun a ha b hb e => ?_⟩
    have hb' : b = s := by simpa using hb
    subst hb'
    exact hm (e ▸ ha)
  · rw [putL_old h0]; exact h
theorem putB_len (l : List (List UInt8)) (s : List UInt8) (hl : l.length < 18446744073709551616) (hs : s.length < 18446744073709551616) : (putB l s).length ≤ s.length + 11 := by
  have h1 := size_le10 (n := s.length) hs
  have h2 := size_le10 (n := numT l s) (Nat.lt_of_le_of_lt (numT_le l s) hl)
  unfold putB
  unfold size at h1 h2
  split
  · simp only [List.cons_append, List.length_cons, List.length_append, nums_len]; omega
  · omega

def takeB (l : List (List UInt8)) (b : List Int) (p : Int) : List UInt8 × Int × Int :=
  if (take b p).2.2 ≠ 0 then ([], 0, (take b p).2.2)
  else if l.length < (take b p).1 then ([], 0, 5)
  else if 0 < (take b p).1 then (l[(take b p).1 - 1]?.getD [], (take b p).2.1, 0)
  else if (take b (take b p).2.1).2.2 ≠ 0 then ([], 0, (take b (take b p).2.1).2.2)
  else if 2048 < (take b (take b p).2.1).1 then ([], 0, 2)
  else if (b.length : Int) < (take b (take b p).2.1).2.1 + (take b (take b p).2.1).1 then ([], 0, 7)
  else if numT l (ltrs ((b.drop (take b (take b p).2.1).2.1.toNat).take (take b (take b p).2.1).1)) ≠ 0 then ([], 0, 4)
  else (ltrs ((b.drop (take b (take b p).2.1).2.1.toNat).take (take b (take b p).2.1).1), (take b (take b p).2.1).2.1 + (take b (take b p).2.1).1, 0)

def takeNew (b : List Int) (p : Int) : Bool := decide ((take b p).1 = 0)
def takeL (l : List (List UInt8)) (b : List Int) (p : Int) : List (List UInt8) := if (takeB l b p).2.2 = 0 ∧ (take b p).1 = 0 then l ++ [(takeB l b p).1] else l

theorem take_next {b : List Int} {p : Int} (h : (take b p).2.2 = 0) : 0 ≤ p ∧ p < (take b p).2.1 ∧ (take b p).2.1 ≤ b.length := by
  by_cases hp : p < 0 ∨ (b.length : Int) < p
  · rw [take, if_pos hp] at h
    cases h
  · have hp0 : 0 ≤ p := by omega
    unfold take at h ⊢
    rw [if_neg hp] at h ⊢
    split at h
    · cases h
    · split at h
      · cases h
      · rename_i h1 h2
        rw [if_neg h1, if_neg h2]
        have h3 : span (b.drop p.toNat) ≠ 0 := fun e => h2 (.inl e)
        have h4 := (span_le (b.drop p.toNat)).1
        rw [List.length_drop] at h4
        simp only
        refine ⟨hp0, ?_, ?_⟩ <;> omega

theorem take_zero (a r : List Int) : take (a ++ 0 :: r) a.length = (0, ((a.length + 1 : Nat) : Int), 0) := by
  have := take_enc a r (n := 0) (by omega)
  rw [enc_small (by omega)] at this
  simpa using this

theorem takeB_put (l : List (List UInt8)) (s : List UInt8) (a r : List Int) (hl : l.length < 18446744073709551616) (hs : s.length ≤ 2048) :
    takeB l (a ++ putB l s ++ r) a.length = (s, ((a ++ putB l s).length : Int), 0) ∧ takeL l (a ++ putB l s ++ r) a.length = putL l s := by
  by_cases h : numT l s = 0
  · have e1 : take (a ++ putB l s ++ r) a.length = (0, ((a.length + 1 : Nat) : Int), 0) := by
      rw [putB_new h, List.append_assoc, List.cons_append, List.cons_append]
      exact take_zero _ _
    have e2 : take (a ++ putB l s ++ r) ((a.length + 1 : Nat) : Int) = (s.length, ((a.length + 1 + (enc s.length).length : Nat) : Int), 0) := by
      have h3 := take_enc (a ++ [0]) (nums s ++ r) (n := s.length) (by omega)
      rw [putB_new h]
      simp only [List.append_assoc, List.cons_append, List.nil_append, List.length_append, List.length_cons, List.length_nil] at h3 ⊢
      rw [h3]
      congr 2
      congr 1
      omega
    have e3 : ltrs (((a ++ putB l s ++ r).drop (a.length + 1 + (enc s.length).length)).take s.length) = s := by
      have h3 : (a ++ putB l s ++ r) = (a ++ 0 :: enc s.length) ++ (nums s ++ r) := by rw [putB_new h]; simp
      rw [h3, List.drop_left' (by simp only [List.length_append, List.length_cons]; omega), List.take_left' (nums_len s), ltrs_nums]
    have e4 : (putB l s).length = 1 + (enc s.length).length + s.length := by
      rw [putB_new h]
      simp only [List.cons_append, List.length_cons, List.length_append, nums_len]
      omega
    have e5 : takeB l (a ++ putB l s ++ r) a.length = (s, ((a ++ putB l s).length : Int), 0) := by
      unfold takeB
      simp only [e1]
      rw [if_neg (by simp), if_neg (by omega), if_neg (by omega), e2]
      simp only [Int.toNat_natCast]
      rw [if_neg (by simp), if_neg (by omega), if_neg (by rw [List.length_append, List.length_append, e4]; omega), e3, if_neg (by simp [h])]
      congr 2
      rw [List.length_append, e4]
      omega
    refine ⟨e5, ?_⟩
    unfold takeL
    rw [e5, e1, if_pos ⟨rfl, rfl⟩, putL_new h]
  · have hn := numT_le l s
    have e1 : take (a ++ putB l s ++ r) a.length = (numT l s, ((a ++ putB l s).length : Int), 0) := by
      rw [putB_old h]
      exact take_enc a r (by omega)
    have e5 : takeB l (a ++ putB l s ++ r) a.length = (s, ((a ++ putB l s).length : Int), 0) := by
      unfold takeB
      simp only [e1]
      rw [if_neg (by simp), if_neg (by omega), if_pos (by omega), numT_at l s h]
      rfl
    refine ⟨e5, ?_⟩
    unfold takeL
    rw [e5, e1, if_neg (fun h' => h h'.2), putL_old h]

theorem takeL_len (l : List (List UInt8)) (b : List Int) (p : Int) : (takeL l b p).length ≤ l.length + 1 := by
  unfold takeL
  split <;> simp

def putsL : List (List UInt8) → List (List UInt8) → List (List UInt8)
  | l, [] => l
  | l, s :: ss => putsL (putL l s) ss
def putsB : List (List UInt8) → List (List UInt8) → List Int
  | _, [] => []
  | l, s :: ss => putB l s ++ putsB (putL l s) ss

theorem putsL_snoc (l : List (List UInt8)) : ∀ (ss : List (List UInt8)) (s : List UInt8), putsL l (ss ++ [s]) = putL (putsL l ss) s := by
  intro ss
  induction ss generalizing l with
  | nil => intro s; rfl
  | cons x ss ih => intro s; exact ih (putL l x) s
theorem putsB_snoc (l : List (List UInt8)) : ∀ (ss : List (List UInt8)) (s : List UInt8), putsB l (ss ++ [s]) = putsB l ss ++ putB (putsL l ss) s := by
  intro ss
  induction ss generalizing l with
  | nil => intro s; simp [putsB, putsL]
  | cons x ss ih => intro s; show putB l x ++ putsB (putL l x) (ss ++ [s]) = _; rw [ih (putL l x) s]; simp [putsB, putsL]
theorem putsL_len (l : List (List UInt8)) : ∀ (ss : List (List UInt8)), (putsL l ss).length ≤ l.length + ss.length := by
  intro ss
  induction ss generalizing l with
  | nil => exact Nat.le_refl _
  | cons x ss ih => have h1 := ih (putL l x); have h2 := putL_len l x; show (putsL (putL l x) ss).length ≤ _; simp only [List.length_cons]; omega
theorem putsL_nodup (l : List (List UInt8)) (h : l.Nodup) : ∀ (ss : List (List UInt8)), (putsL l ss).Nodup := by
  intro ss
  induction ss generalizing l with
  | nil => exact h
  | cons x ss ih => exact ih (putL l x) (putL_nodup x h)
/-! The ways of Take, one by one. -/
section
variable {l : List (List UInt8)} {b : List Int} {p : Int} {a a2 : Nat} {q q2 e e2 : Int}
theorem takeB_e1 (h : take b p = (a, q, e)) (he : e ≠ 0) : takeB l b p = ([], 0, e) ∧ takeL l b p = l := by
  have h1 : takeB l b p = ([], 0, e) := by unfold takeB; rw [h]; exact if_pos he
  exact ⟨h1, by unfold takeL; rw [h1]; exact if_neg fun h' => he h'.1⟩
theorem takeB_none (h : take b p = (a, q, 0)) (ha : l.length < a) : takeB l b p = ([], 0, 5) ∧ takeL l b p = l := by
  have h1 : takeB l b p = ([], 0, 5) := by unfold takeB; rw [h]; simp only; rw [if_neg (by simp), if_pos ha]
  exact ⟨h1, by unfold takeL; rw [h1]; exact if_neg fun h' => absurd h'.1 (by simp)⟩
theorem takeB_old (h : take b p = (a, q, 0)) (h0 : 0 < a) (ha : a ≤ l.length) : takeB l b p = (l[a - 1]?.getD [], q, 0) ∧ takeL l b p = l := by
  have h1 : takeB l b p = (l[a - 1]?.getD [], q, 0) := by unfold takeB; rw [h]; simp only; rw [if_neg (by simp), if_neg (by omega), if_pos h0]
  exact ⟨h1, by unfold takeL; rw [h]; exact if_neg fun h' => absurd h'.2 (by simp only; omega)⟩
theorem takeB_e2 (h : take b p = (0, q, 0)) (h2 : take b q = (a2, q2, e2)) (he : e2 ≠ 0) : takeB l b p = ([], 0, e2) ∧ takeL l b p = l := by
  have h1 : takeB l b p = ([], 0, e2) := by unfold takeB; rw [h]; simp only; rw [if_neg (by simp), if_neg (by omega), if_neg (by omega), h2]; exact if_pos he
  exact ⟨h1, by unfold takeL; rw [h1]; exact if_neg fun h' => he h'.1⟩
theorem takeB_over (h : take b p = (0, q, 0)) (h2 : take b q = (a2, q2, 0)) (ho : 2048 < a2) : takeB l b p = ([], 0, 2) ∧ takeL l b p = l := by
  have h1 : takeB l b p = ([], 0, 2) := by unfold takeB; rw [h]; simp only; rw [if_neg (by simp), if_neg (by omega), if_neg (by omega), h2]; simp only; rw [if_neg (by simp), if_pos ho]
  exact ⟨h1, by unfold takeL; rw [h1]; exact if_neg fun h' => absurd h'.1 (by simp)⟩
theorem takeB_short (h : take b p = (0, q, 0)) (h2 : take b q = (a2, q2, 0)) (ho : a2 ≤ 2048) (hs : (b.length : Int) < q2 + a2) : takeB l b p = ([], 0, 7) ∧ takeL l b p = l := by
  have h1 : takeB l b p = ([], 0, 7) := by unfold takeB; rw [h]; simp only; rw [if_neg (by simp), if_neg (by omega), if_neg (by omega), h2]; simp only; rw [if_neg (by simp), if_neg (by omega), if_pos hs]
  exact ⟨h1, by unfold takeL; rw [h1]; exact if_neg fun h' => absurd h'.1 (by simp)⟩
theorem takeB_twice (h : take b p = (0, q, 0)) (h2 : take b q = (a2, q2, 0)) (ho : a2 ≤ 2048) (hs : q2 + a2 ≤ (b.length : Int)) {s : List UInt8} (hx : ltrs ((b.drop q2.toNat).take a2) = s) (ht : numT l s ≠ 0) : takeB l b p = ([], 0, 4) ∧ takeL l b p = l := by
  have h1 : takeB l b p = ([], 0, 4) := by unfold takeB; rw [h]; simp only; rw [if_neg (by simp), if_neg (by omega), if_neg (by omega), h2]; simp only; rw [if_neg (by simp), if_neg (by omega), if_neg (by omega), hx, if_pos ht]
  exact ⟨h1, by unfold takeL; rw [h1]; exact if_neg fun h' => absurd h'.1 (by simp)⟩
theorem takeB_new (h : take b p = (0, q, 0)) (h2 : take b q = (a2, q2, 0)) (ho : a2 ≤ 2048) (hs : q2 + a2 ≤ (b.length : Int)) {s : List UInt8} (hx : ltrs ((b.drop q2.toNat).take a2) = s) (ht : numT l s = 0) : takeB l b p = (s, q2 + a2, 0) ∧ takeL l b p = l ++ [s] := by
  have h1 : takeB l b p = (s, q2 + a2, 0) := by unfold takeB; rw [h]; simp only; rw [if_neg (by simp), if_neg (by omega), if_neg (by omega), h2]; simp only; rw [if_neg (by simp), if_neg (by omega), if_neg (by omega), hx, if_neg (by simp [ht])]
  refine ⟨h1, ?_⟩
  unfold takeL
  rw [h1, h]
  exact if_pos ⟨rfl, rfl⟩
end
theorem take_ok {b : List Int} {p : Int} {a : Nat} {q : Int} (h : take b p = (a, q, 0)) : 0 ≤ p ∧ p < q ∧ q ≤ b.length := by
  have := take_next (b := b) (p := p) (by rw [h])
  rw [h] at this
  exact this
theorem take_err (b : List Int) (p : Int) : (take b p).2.2 = 0 ∨ (take b p).2.2 = 1 ∨ (take b p).2.2 = 4 ∨ (take b p).2.2 = 7 := by
  unfold take
  split
  · simp
  · split
    · simp
    · split <;> simp
end Go.Proofs.Ytodncamohimmmaa

namespace Go.Proofs.Ytodncamohimmmaa
open Go.RowKit Go.Lib Leb

theorem ret_int {k : IntKind} {a b : Int} (h : a = b) : Ending.returned (.int k a) = .returned (.int k b) := by rw [h]
theorem ret_bool {a b : Bool} (h : a = b) : Ending.returned (.bool a) = .returned (.bool b) := by rw [h]

def U64 (n : Nat) : Prop := n < 18446744073709551616
theorem U64.out {n : Nat} (h : U64 n) : n < 18446744073709551616 := h
theorem U64.div {n : Nat} (h : U64 n) (k : Nat) : U64 (n / k) := Nat.lt_of_le_of_lt (Nat.div_le_self _ _) h

theorem wrap_of {n : Nat} (h : U64 n) : IntKind.u64.wrap (n : Int) = n := IntWalk.u64_in _ ⟨by omega, by have := h.out; omega⟩
theorem wrap_div {n : Nat} (h : U64 n) : IntKind.u64.wrap ((n : Int) / 128) = ((n / 128 : Nat) : Int) := by
  have := wrap_of (h.div 128)
  simpa using this

structure Holds (w : World) (A : Option Addr) (n c : Nat) (l : List Int) : Prop where
  len : l.length = n
  byt : Bytes l
  cap : n ≤ c
  room : c ≤ maxLen
  bare : A = Option.none → c = 0
  cell : 0 < n → ∃ b off, A = some ⟨b, off, Option.none⟩ ∧ ∀ j, j < n → w.cell? ⟨b, off + j, Option.none⟩ = some (.int .u8 (l[j]?.getD 0))

theorem addr_add (b o j : Nat) : (⟨b, o, Option.none⟩ : Addr).add j = ⟨b, o + j, Option.none⟩ := by
  unfold Addr.add
  split
  · simp_all
  · rfl

section
variable {w w' : World} {A : Option Addr} {n c : Nat} {l : List Int}

theorem Holds.later (h : Holds w A n c l) (hb : Below w.heap.size w w') : Holds w' A n c l :=
  ⟨h.len, h.byt, h.cap, h.room, h.bare, fun hn => by
    obtain ⟨b, off, e, hc⟩ := h.cell hn
    exact ⟨b, off, e, fun j hj => cell_later hb (hc j hj)⟩⟩

theorem Holds.drew (h : Holds w A n c l) : Holds w.drew A n c l := ⟨h.len, h.byt, h.cap, h.room, h.bare, h.cell⟩
theorem Holds.drewN (h : Holds w A n c l) (k : Nat) : Holds (w.drewN k) A n c l := ⟨h.len, h.byt, h.cap, h.room, h.bare, h.cell⟩
theorem Holds.alloc (h : Holds w A n c l) (o : Obj) : Holds (w.alloc o) A n c l := h.later ((Below.refl _ _).alloc (Nat.le_refl _) o)

theorem holds_nil (w : World) : Holds w Option.none 0 0 [] := ⟨rfl, Bytes.nil, Nat.le_refl _, Nat.zero_le _, fun _ => rfl, fun h => absurd h (by omega)⟩

theorem holds_of_row {zs : List Int} (h : (A = Option.none ∧ n = 0 ∧ c = 0 ∧ zs = []) ∨
    ∃ x, A = some x ∧ n ≤ c ∧ c ≤ maxLen ∧ zs.length = c ∧ (∀ i, i < zs.length → w.cell? (x.add i) = some (.int .u8 (zs.getD i 0))) ∧ ∀ k ∈ zs, (Lit.int .u8 k).wf = true) : Holds w A n c (zs.take n) := by
  rcases h with ⟨rfl, rfl, rfl, rfl⟩ | ⟨x, rfl, hn, hc, hz, hcell, hwf⟩
  · exact holds_nil w
  · refine ⟨by rw [List.length_take]; omega, fun y hy => ?_, hn, hc, (fun e => by cases e), fun hp => ?_⟩
    · have := bounds_u8 (hwf y (List.mem_of_mem_take hy))
      omega
    · obtain ⟨b, off, spot⟩ := x
      have h0 := hcell 0 (by omega)
      have hs : spot = Option.none := by simpa [Addr.add] using World.cell?_spot h0
      subst hs
      refine ⟨b, off, rfl, fun j hj => ?_⟩
      have := hcell j (by omega)
      rw [addr_add] at this
      rw [this, List.getElem?_take, if_pos hj]
      rfl

theorem Holds.front (h : Holds w A n c l) {k : Nat} (hk : k ≤ n) : Holds w A k c (l.take k) :=
  ⟨by rw [List.length_take, h.len]; omega, h.byt.take k, Nat.le_trans hk h.cap, h.room, h.bare, fun hp => by
    obtain ⟨b, off, e, hc⟩ := h.cell (by omega)
    refine ⟨b, off, e, fun j hj => ?_⟩
    rw [hc j (by omega), List.getElem?_take, if_pos hj]⟩

theorem holds_empty (w : World) (A : Option Addr) (c : Nat) (hc : c ≤ maxLen) (hb : A = Option.none → c = 0) : Holds w A 0 c [] :=
  ⟨rfl, Bytes.nil, Nat.zero_le _, hc, hb, fun h => absurd h (by omega)⟩

theorem Holds.back {b off : Nat} (h : Holds w (some ⟨b, off, Option.none⟩) n c l) {k : Nat} (hk : k ≤ n) : Holds w (some ⟨b, off + k, Option.none⟩) (n - k) (c - k) (l.drop k) :=
  ⟨by rw [List.length_drop, h.len], h.byt.drop k, by have := h.cap; omega, by have := h.room; omega, (fun e => by cases e), fun hp => by
    obtain ⟨b', off', e, hc⟩ := h.cell (by omega)
    injection e with e
    injection e with e1 e2
    subst e1
    subst e2
    refine ⟨b, off + k, rfl, fun j hj => ?_⟩
    rw [show off + k + j = off + (k + j) by omega, hc (k + j) (by omega), List.getElem?_drop]⟩

theorem holds_new (w : World) (e : TypeId) (cs : Array Value) (l : List Int) (hcs : cs = (l.map (Value.int .u8)).toArray) (hb : Bytes l) (hm : l.length ≤ maxLen) :
    Holds (w.alloc (.cells cs e)) (some ⟨w.heap.size, 0, Option.none⟩) l.length l.length l :=
  ⟨rfl, hb, Nat.le_refl _, hm, (fun e => by cases e), fun _ => ⟨w.heap.size, 0, rfl, fun j hj => by
    rw [Nat.zero_add]
    have := cell_of_row (w.alloc (.cells cs e)) w.heap.size j cs e (0, 0) (heap_alloc_new w _)
    rw [this, hcs]
    simp [List.getElem?_eq_getElem hj]⟩⟩

def Owns (w : World) (base : Nat) (e : TypeId) (v : Value) (l : List Int) : Prop := Bytes l ∧ w.ownsRow base e 1 v l.length (l.map (Value.int .u8))

theorem Owns.holds {base : Nat} {e : TypeId} {v : Value} (h : Owns w base e v l) : ∃ A c, v = .slice A l.length c ∧ Holds w A l.length c l := by
  rcases h.2.2 with ⟨rfl, h0⟩ | ⟨g, cap, cur, rfl, hb, hg, hn, hm, hs, ht⟩
  · have hl : l = [] := List.eq_nil_of_length_eq_zero h0
    subst hl
    exact ⟨Option.none, 0, rfl, holds_nil w⟩
  · refine ⟨_, cap, rfl, rfl, h.1, hn, hm, (fun e => by cases e), fun hp => ⟨g, 0, rfl, fun j hj => ?_⟩⟩
    have := (h.2.cells (g := g) rfl) j (.int .u8 (l[j]?.getD 0)) (by simp [List.getElem?_eq_getElem hj])
    rwa [addr_add] at this

def Gives (w : World) (e : TypeId) (l : List Int) (en : Ending) (w' : World) : Prop := ∃ v, en = .returned v ∧ Owns w' w.heap.size e v l ∧ Below w.heap.size w w'

theorem Owns.alloc {base : Nat} {e : TypeId} {v : Value} (h : Owns w base e v l) (o : Obj) : Owns (w.alloc o) base e v l := ⟨h.1, h.2.alloc o⟩

theorem Owns.kept {base : Nat} {e : TypeId} {v : Value} {B : Nat} (h : Owns w base e v l) (hb : Below B w w') (hB : w.heap.size ≤ B) : Owns w' base e v l :=
  ⟨h.1, h.2.kept (row := Option.none) ⟨hb.os, hb.tape, hb.output, hb.size, fun k hk _ => hb.block k (by omega)⟩ (by cases hv : v.ownBlock <;> simp)⟩

theorem owns_lit (w : World) (base : Nat) (e : TypeId) (cs : Array Value) (l : List Int) (hcs : cs = (l.map (Value.int .u8)).toArray) (hb : Bytes l) (hm : l.length ≤ maxLen) (hB : base ≤ w.heap.size) :
    Owns (w.alloc (.cells cs e)) base e (.slice (some ⟨w.heap.size, 0, Option.none⟩) l.length l.length) l := by
  refine ⟨hb, ?_⟩
  have := World.ownsRow_lit (size := 1) (e := e) w cs l.length hB hm (by rw [hcs]; simp)
  rw [hcs] at this ⊢
  simpa using this

theorem Owns.low {base base' : Nat} {e : TypeId} {v : Value} (h : Owns w base e v l) (hB : base' ≤ base) : Owns w base' e v l := by
  refine ⟨h.1, h.2.1, ?_⟩
  rcases h.2.2 with h0 | ⟨g, cap, cur, e1, hb, rest⟩
  · exact .inl h0
  · exact .inr ⟨g, cap, cur, e1, Nat.le_trans hB hb, rest⟩
end

section
variable {P : Program} {w : World}

theorem run_text (src dst e : TypeId) (hs : P.underlying src = some (.slice e)) (he : P.underlying e = some (.int .u8)) (hd : P.underlying dst = some .string)
    {A : Option Addr} {n c : Nat} {l : List Int} (h : Holds w A n c l) : (convert src dst (.slice A n c)).run P w = .ok (.string (strOfNums l)) w := by
  by_cases hn : 0 < n
  · obtain ⟨b, off, rfl, hc⟩ := h.cell hn
    exact run_convert_bytes_arg w src e hs he b off n c l h.len hc dst hd
  · have h0 : n = 0 := by omega
    subst h0
    have hl : l = [] := List.eq_nil_of_length_eq_zero h.len
    subst hl
    rw [run_convert_bytes_string w src dst e A 0 c hs he hd]
    have e0 : strOfNums [] = ByteArray.empty := rfl
    rw [e0]
    cases A with
    | none => simp [Conv.bytesToString]
    | some a =>
      have := run_bytesToString (P := P) w a 0 c [] (by simp [loadCells, loadCellsFrom])
      simpa using this

theorem text_new (src dst e : TypeId) (hs : P.underlying src = some (.slice e)) (he : P.underlying e = some (.int .u8)) (hd : P.underlying dst = some .string)
    (w : World) (g : Nat) (hg : g = w.heap.size) (cs : Array Value) (l : List Int) (n c : Nat) (hcs : cs = (l.map (Value.int .u8)).toArray) (hb : Bytes l) (hn : n = l.length) (hc : c = l.length) (hm : c ≤ 1000) :
    (convert src dst (.slice (some ⟨g, 0, Option.none⟩) n c)).run P (w.alloc (.cells cs e)) = .ok (.string (strOfNums l)) (w.alloc (.cells cs e)) := by
  subst hg
  subst hn
  subst hc
  exact run_text src dst e hs he hd (holds_new w e cs l hcs hb (by simp only [maxLen]; omega))

theorem text_inj {a b : List Int} (ha : Bytes a) (hb : Bytes b) : ((strOfNums a).toList == (strOfNums b).toList) = decide (a = b) := by
  have e : ∀ l : List Int, (strOfNums l).toList = l.map (fun n => UInt8.ofNat n.toNat) := fun l => by
    rw [strOfNums_toList]; rfl
  rw [e, e]
  by_cases h : a = b
  · subst h; simp
  · rw [decide_eq_false h]
    rw [beq_eq_false_iff_ne]
    intro hc
    apply h
    clear h e
    induction a generalizing b with
    | nil => cases b with
      | nil => rfl
      | cons y s => simp at hc
    | cons x r ih =>
      cases b with
      | nil => simp at hc
      | cons y s =>
        simp only [List.map_cons, List.cons.injEq] at hc
        have hx := ha x (by simp)
        have hy := hb y (by simp)
        have h1 := congrArg UInt8.toNat hc.1
        simp only [UInt8.toNat_ofNat'] at h1
        rw [ih (fun z hz => ha z (by simp [hz])) (fun z hz => hb z (by simp [hz])) hc.2]
        congr 1
        omega

theorem run_append_bytes (base : Nat) (t ty e : TypeId) (i : TypeInfo) (ht : P.underlying t = some (.slice e)) (hi : P.info? e = some i) (hz : i.zero = some (.int .u8 0)) (hs : i.size = 1) (hb : i.bytes = 1)
    {v : Value} {xs : List Int} (hown : Owns w base e v xs) {A : Option Addr} {m c : Nat} {l : List Int} (h : Holds w A m c l)
    (hlim : xs.length + m ≤ 140737488355328) (hbase : base ≤ w.heap.size) :
    ∃ v' w', (Builtin.append_ #[t, t] ty #[v, .slice A m c]).run P w = .ok v' w' ∧ Owns w' base e v' (xs ++ l) ∧ w.grownBy w' v.ownBlock ∧ (v'.ownBlock = v.ownBlock ∨ v'.ownBlock = some w.heap.size) := by
  have hl := h.len
  subst hl
  cases A with
  | none =>
    have hc := h.bare rfl
    subst hc
    have h0 : l.length = 0 := by have := h.cap; omega
    have hl : l = [] := List.eq_nil_of_length_eq_zero h0
    subst hl
    exact ⟨v, w, run_append_owned_none (P := P) w base t ty e i 1 ht hi v _ _ hown.2, by simpa using hown, World.grownBy.refl w _, .inl rfl⟩
  | some ad =>
    have hcells : ∀ j u, (l.map (Value.int .u8))[j]? = some u → w.cell? (ad.add j) = some u := by
      intro j u hu
      have hj : j < l.length := by
        have := (List.getElem?_eq_some_iff.1 hu).1
        simpa using this
      obtain ⟨b, off, e1, hc⟩ := h.cell (by omega)
      injection e1 with e1
      subst e1
      rw [addr_add, hc j hj]
      simp [List.getElem?_eq_getElem hj] at hu ⊢
      exact hu
    have h63 : xs.length + l.length ≤ maxLen := by simp only [maxLen]; omega
    obtain ⟨v', w', hrun, h2, h3, _, h5⟩ := run_append_own_at (P := P) w base t ty e i _ 1 1 ht hi hz hs hb rfl (by omega) v _ _ hown.2 ad l.length c (l.map (Value.int .u8)) (by simp) hcells (ints_oneCell _ _) h63 (by omega) hbase
    refine ⟨v', w', hrun, ⟨hown.1.append h.byt, ?_⟩, h3, h5⟩
    simpa using h2

theorem wp_append_bytes {o : Oper} {a : Act} {K : Act → World → Prop} {Q : Exit → Act → World → Prop} (s x : Operand) (t : TypeId)
    (ho : o.op = .call { callee := .builtin .append, args := #[s, x], argTypes := #[t, t] })
    (base : Nat) (e : TypeId) (i : TypeInfo) (ht : P.underlying t = some (.slice e)) (hi : P.info? e = some i) (hz : i.zero = some (.int .u8 0)) (hz1 : i.size = 1) (hz2 : i.bytes = 1)
    (v : Value) (xs : List Int) (hs : a.eval s = v) (hown : Owns w base e v xs) (A : Option Addr) (m c : Nat) (l : List Int) (hx : a.eval x = .slice A m c) (h : Holds w A m c l)
    (hlim : xs.length + m ≤ 140737488355328) (hbase : base ≤ w.heap.size)
    (hK : ∀ v' w', Owns w' base e v' (xs ++ l) → w.grownBy w' v.ownBlock → (v'.ownBlock = v.ownBlock ∨ v'.ownBlock = some w.heap.size) → K (a.put o.dst v') w') : o.wp P a w K Q := by
  obtain ⟨v', w', hrun, h2, h3, h4⟩ := run_append_bytes (P := P) base t o.type e i ht hi hz hz1 hz2 hown h hlim hbase
  unfold Oper.wp execOp
  simp only [ho, resolve, invoke, builtin, Sem.run_bind, Sem.run_pure, Result.andThen_ok, List.map_toArray, List.map_cons, List.map_nil, hs, hx, hrun]
  exact hK v' w' h2 h3 h4

theorem wpList_append_bytes {ops : Array Oper} {rest : List Oper} {o : Oper} {a : Act} {Q : Exit → Act → World → Prop} (hgd : o.guard = Option.none) (s x : Operand) (t : TypeId)
    (ho : o.op = .call { callee := .builtin .append, args := #[s, x], argTypes := #[t, t] })
    (base : Nat) (e : TypeId) (i : TypeInfo) (ht : P.underlying t = some (.slice e)) (hi : P.info? e = some i) (hz : i.zero = some (.int .u8 0)) (hz1 : i.size = 1) (hz2 : i.bytes = 1)
    (v : Value) (xs : List Int) (hs : a.eval s = v) (hown : Owns w base e v xs) (A : Option Addr) (m c : Nat) (l : List Int) (hx : a.eval x = .slice A m c) (h : Holds w A m c l)
    (hlim : xs.length + m ≤ 140737488355328) (hbase : base ≤ w.heap.size)
    (hK : ∀ v' w', Owns w' base e v' (xs ++ l) → w.grownBy w' v.ownBlock → (v'.ownBlock = v.ownBlock ∨ v'.ownBlock = some w.heap.size) → wpList P ops Q rest (a.put o.dst v') w') : wpList P ops Q (o :: rest) a w :=
  wpList_plain hgd fun _ hK' => wp_append_bytes s x t ho base e i ht hi hz hz1 hz2 v xs hs hown A m c l hx h hlim hbase fun v' w' h2 h3 h4 => hK' _ _ (hK v' w' h2 h3 h4)

theorem below_make {w' : World} (hg : w.grownBy w' Option.none) : Below w.heap.size w w' := (Below.refl _ _).grown hg (Nat.le_refl _) (fun _ h => by cases h)

theorem below_own {B : Nat} {w0 w' : World} {e : TypeId} {v : Value} {xs : List Int} (hb : Below B w0 w) (hown : Owns w B e v xs) (hg : w.grownBy w' v.ownBlock) (hB : B ≤ w.heap.size) : Below B w0 w' :=
  hb.grown hg hB fun k hk => (hown.2.lt k hk).1
end
end Go.Proofs.Ytodncamohimmmaa

namespace Go.Proofs.Ytodncamohimmmaa
open Go.RowKit

theorem Try.info8 : (Try.prog.info? 5).map (fun i => (i.zero, i.size, i.bytes)) = some (some (.int .u8 0), 1, 1) := by kernel_rfl

def Yes (w : World) (e : Ending) (w' : World) : Prop := e = .returned (.bool true) ∧ Below w.heap.size w w'
end Go.Proofs.Ytodncamohimmmaa

namespace Go.Proofs.Ytodncamohimmmaa
open Go.RowKit Go.Lib

theorem size_len (s : ByteArray) : s.size = s.data.toList.length := (Array.length_toList).symm
theorem wrap_int {x : Int} (h0 : 0 ≤ x) (h1 : x ≤ 9223372036854775807) : wrap64 x = x := IntWalk.wrap64_in x ⟨by omega, by omega⟩
end Go.Proofs.Ytodncamohimmmaa

namespace Go.Proofs.Ytodncamohimmmaa
open Go.RowKit Leb

set_option maxRecDepth 100000 in
set_option maxHeartbeats 400000 in
theorem size_any (n : Nat) (w : World) (hn : U64 n) :
    Calls Try.prog 61 #[.int .u64 n] w fun e w' => e = .returned (.int .i64 (size n)) ∧ w = w' := by
  go_enter Try.func61, Try.ntmps61
  go_wp2
  go_loop [0, 3] (fun x s => ∃ m k : Nat, U64 m ∧ x = .int .u64 m ∧ s = .int .i64 k ∧ 1 ≤ k ∧ k + size m = 1 + size n) (fun x _ => (intOf x).toNat)
  case atStart => exact ⟨n, 1, hn, rfl, rfl, by omega, by omega⟩
  case round =>
    obtain ⟨m, k, hm, rfl, rfl, hk1, hk⟩ := hrel
    have hs10 := size_le10 hn
    have hsm := size_pos m
    by_cases hlt : m < 128
    · have hs := size_small hlt
      have hk2 : k = size n := by omega
      clear hk hs
      have H := Lib.hid hk2
      clear hk2
      go_wp2
      go_ret
      exact ⟨ret_int (by rw [H.out]), rfl⟩
    · have hs := size_big (n := m) (by omega)
      have H := Lib.hid hs
      have H2 := Lib.hid hk
      have hk9 : k ≤ 10 := by omega
      clear hs hk
      go_wp2
      go_round
      case rel => exact ⟨m / 128, k + 1, hm.div _, by go_num, by go_num, by omega, by have := H.out; have := H2.out; omega⟩
      case measure => simp [intOf]; omega
end Go.Proofs.Ytodncamohimmmaa

namespace Go.Proofs.Ytodncamohimmmaa
open Go.RowKit Leb

def PutRel (w : World) (l : List Int) (x v : Value) (wr : World) : Prop := ∃ (m : Nat) (ys : List Int), U64 m ∧ x = .int .u64 m ∧ Owns wr w.heap.size 5 v ys ∧ ys ++ enc m = l ∧ Below w.heap.size w wr

set_option maxRecDepth 100000 in
set_option maxHeartbeats 400000 in
theorem bytes_any (n : Nat) (w : World) (hn : U64 n) :
    Calls Try.prog 37 #[.int .u64 n] w (Gives w 5 (enc n)) := by
  obtain ⟨i0, hi, hz0, hz1, hz2⟩ := info_parts Try.info8
  have hsz := Lib.hid (show (enc n).length ≤ 10 from size_le10 hn)
  have h0 := Lib.hid (owns_lit w w.heap.size 5 #[] [] rfl Bytes.nil (by simp) (Nat.le_refl _))
  go_enter Try.func37, Try.ntmps37
  go_wp2
  go_loopw [0, 3] (fun x v wr => PutRel w (enc n) x v wr) (fun x _ _ => (intOf x).toNat)
  case atStart => exact ⟨n, [], hn, rfl, h0.out, rfl, (Below.refl _ _).alloc (Nat.le_refl _) _⟩
  case round =>
    obtain ⟨m, ys, hm, rfl, hown, hl, hb⟩ := hrel
    have HL := Lib.hid hl
    clear hl
    have hyl : ys.length ≤ 10 := by have h1 := congrArg List.length HL.out; have h2 := hsz.out; rw [List.length_append] at h1; omega
    have hB := hb.size
    by_cases hlt : m < 128
    · have H2 := Lib.hid (holds_new wr 5 #[.int .u8 (m : Int)] [(m : Int)] rfl (by intro x hx; simp at hx; omega) (by simp [maxLen]))
      go_wp2_with (at_builtin; refine wpList_append_bytes rfl (.tmp 16) (.tmp 19) 43 rfl w.heap.size 5 i0 Try.underlying43 hi hz0 hz1 hz2 _ ys rfl (hown.alloc _) _ 1 1 [(m : Int)] rfl H2.out (by omega) (by simp; omega) ?_; intro v1 w1 hown1 hg1 hat1)
      go_ret
      refine ⟨_, rfl, ?_, below_own (hb.alloc hB _) (hown.alloc _) hg1 (by simp; omega)⟩
      have e := HL.out
      rw [enc_small hlt] at e
      rw [← e]
      exact hown1
    · have H2 := Lib.hid (holds_new wr 5 #[.int .u8 ((m : Int) % 128 + 128)] [(m : Int) % 128 + 128] rfl (by intro x hx; simp at hx; omega) (by simp [maxLen]))
      go_wp2_with (at_builtin; refine wpList_append_bytes rfl (.tmp 7) (.tmp 12) 43 rfl w.heap.size 5 i0 Try.underlying43 hi hz0 hz1 hz2 _ ys rfl (hown.alloc _) _ 1 1 [(m : Int) % 128 + 128] rfl H2.out (by omega) (by simp; omega) ?_; intro v1 w1 hown1 hg1 hat1)
      go_roundw
      case rel =>
        refine ⟨m / 128, _, hm.div _, by rw [wrap_div hm], hown1, ?_, below_own (hb.alloc hB _) (hown.alloc _) hg1 (by simp; omega)⟩
        have e := HL.out
        rw [enc_big (by omega)] at e
        rw [← e]
        simp
      case measure => simp only [intOf, wrap_div hm]; simp; omega

set_option maxRecDepth 100000 in
set_option maxHeartbeats 400000 in
theorem put_any (A : Option Addr) (k c : Nat) (l : List Int) (n : Nat) (w : World) (hn : U64 n) (hA : Holds w A k c l) (hk : k + 10 ≤ 140737488355328) :
    Calls Try.prog 57 #[.slice A k c, .int .u64 n] w (Gives w 5 (l ++ enc n)) := by
  obtain ⟨i0, hi, hz0, hz1, hz2⟩ := info_parts Try.info8
  have hsz : size n ≤ 10 := size_le10 hn
  have hsp := size_pos n
  go_enter Try.func57, Try.ntmps57
  go_wp2_with (first
    | (go_at_call 61; refine (size_any n _ hn).mono ?_; rintro e w' ⟨rfl, rfl⟩)
    | (at_make; refine wpList_make_own _ rfl _ _ 43 rfl w.heap.size 5 i0 _ 1 Try.underlying43 hi hz0 hz1 .i64 .i64 _ (k + size n) rfl rfl (by omega) (by rw [hz2]; omega) (by simp only [maxLen]; omega) (Nat.le_refl _) ?_; intro w1 hown1 hg1)
    | (at_builtin; refine wpList_append_bytes rfl (.tmp 12) (.tmp 13) 43 rfl w.heap.size 5 i0 Try.underlying43 hi hz0 hz1 hz2 _ [] rfl ⟨Bytes.nil, hown1⟩ A k c l rfl (hA.later (below_make hg1)) (by simp; omega) (below_make hg1).size ?_; intro v2 w2 hown2 hg2 hat2))
  have hlen : (l ++ enc n).length = k + size n := by rw [List.length_append, hA.len]; rfl
  have Hlen := Lib.hid hlen
  have hb2 : Below w.heap.size w w2 := below_own (below_make hg1) ⟨Bytes.nil, hown1⟩ hg2 (below_make hg1).size
  clear hlen hown1 hg1 hg2 hat2
  go_loopw [1, 5] (fun x v wr => PutRel w (l ++ enc n) x v wr) (fun x _ _ => (intOf x).toNat)
  case atStart => exact ⟨n, _, hn, rfl, hown2, rfl, hb2⟩
  case round =>
    obtain ⟨m, ys, hm, rfl, hown, hl, hb⟩ := hrel
    have HL := Lib.hid hl
    clear hl hown2 hb2
    have hyl : ys.length + 1 ≤ k + 10 := by have h1 := congrArg List.length HL.out; have h2 := Hlen.out; have h3 : 1 ≤ (enc m).length := size_pos m; rw [List.length_append] at h1; omega
    have hB := hb.size
    by_cases hlt : m < 128
    · have H2 := Lib.hid (holds_new wr 5 #[.int .u8 (m : Int)] [(m : Int)] rfl (by intro x hx; simp at hx; omega) (by simp [maxLen]))
      go_wp2_with (at_builtin; refine wpList_append_bytes rfl (.tmp 25) (.tmp 28) 43 rfl w.heap.size 5 i0 Try.underlying43 hi hz0 hz1 hz2 _ ys rfl (hown.alloc _) _ 1 1 [(m : Int)] rfl H2.out (by omega) (by simp; omega) ?_; intro v1 w1 hown1 hg1 hat1)
      go_ret
      refine ⟨_, rfl, ?_, below_own (hb.alloc hB _) (hown.alloc _) hg1 (by simp; omega)⟩
      have e := HL.out
      rw [enc_small hlt] at e
      rw [← e]
      exact hown1
    · have H2 := Lib.hid (holds_new wr 5 #[.int .u8 ((m : Int) % 128 + 128)] [(m : Int) % 128 + 128] rfl (by intro x hx; simp at hx; omega) (by simp [maxLen]))
      have hor : bits .or .u8 ((m : Int) % 256) 128 = (m : Int) % 128 + 128 := by rw [Go.Lib.u8_or128_any _ (by omega) (by omega)]; omega
      go_wp2_with (at_builtin; refine wpList_append_bytes rfl (.tmp 17) (.tmp 21) 43 rfl w.heap.size 5 i0 Try.underlying43 hi hz0 hz1 hz2 _ ys rfl (hown.alloc _) _ 1 1 [(m : Int) % 128 + 128] rfl H2.out (by omega) (by simp; omega) ?_; intro v1 w1 hown1 hg1 hat1)
      go_roundw
      case rel =>
        refine ⟨m / 128, _, hm.div _, by go_num, hown1, ?_, below_own (hb.alloc hB _) (hown.alloc _) hg1 (by simp; omega)⟩
        have e := HL.out
        rw [enc_big (by omega)] at e
        rw [← e]
        simp
      case measure => simp [intOf]; omega
end Go.Proofs.Ytodncamohimmmaa
