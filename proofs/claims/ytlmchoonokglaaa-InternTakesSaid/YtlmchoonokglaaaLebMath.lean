/-
  Plain facts on the unique encoding of numbers in groups of seven bits: its length, its order, and that decoding gives back the number, and no other bytes do. No program is spoken of here; no condition beyond those that each theorem states.
-/
namespace Go.Proofs.Ytlmchoonokglaaa.Leb

/-- The encoding of n: groups of seven bits, lowest first, 128 added to all but the last. -/
def enc (n : Nat) : List Int := if _h : n < 128 then [(n : Int)] else ((n % 128 + 128 : Nat) : Int) :: enc (n / 128)
termination_by n
decreasing_by omega

theorem enc_small {n : Nat} (h : n < 128) : enc n = [(n : Int)] := by rw [enc, dif_pos h]
theorem enc_big {n : Nat} (h : 128 ≤ n) : enc n = ((n % 128 + 128 : Nat) : Int) :: enc (n / 128) := by rw [enc, dif_neg (by omega)]

/-- The length of the encoding. -/
def size (n : Nat) : Nat := (enc n).length

theorem size_small {n : Nat} (h : n < 128) : size n = 1 := by simp [size, enc_small h]
theorem size_big {n : Nat} (h : 128 ≤ n) : size n = size (n / 128) + 1 := by simp [size, enc_big h]
theorem size_pos (n : Nat) : 1 ≤ size n := by
  by_cases h : n < 128
  · rw [size_small h]; omega
  · rw [size_big (by omega)]; omega

theorem size_le : ∀ (k n : Nat), n < 128 ^ (k + 1) → size n ≤ k + 1
  | 0, n, h => by rw [size_small (by simpa using h)]; omega
  | k + 1, n, h => by
    by_cases hn : n < 128
    · rw [size_small hn]; omega
    · rw [size_big (by omega)]
      have := size_le k (n / 128) (by rw [Nat.div_lt_iff_lt_mul (by omega)]; rw [Nat.pow_succ] at h; exact h)
      omega

theorem size_le10 {n : Nat} (h : n < 18446744073709551616) : size n ≤ 10 :=
  size_le 9 n (Nat.lt_of_lt_of_le h (by decide))

theorem size_mono : ∀ (m n : Nat), m ≤ n → size m ≤ size n := by
  intro m
  induction m using Nat.strongRecOn with
  | ind m ih =>
    intro n h
    by_cases hm : m < 128
    · rw [size_small hm]; exact size_pos n
    · rw [size_big (by omega), size_big (show 128 ≤ n by omega)]
      have := ih (m / 128) (by omega) (n / 128) (Nat.div_le_div_right h)
      omega

/-- All of a list are bytes. -/
def Bytes (l : List Int) : Prop := ∀ x ∈ l, 0 ≤ x ∧ x < 256

theorem Bytes.nil : Bytes [] := fun _ h => by cases h
theorem Bytes.append {a b : List Int} (ha : Bytes a) (hb : Bytes b) : Bytes (a ++ b) := fun x hx => by
  rcases List.mem_append.1 hx with h | h
  · exact ha x h
  · exact hb x h
theorem Bytes.take {a : List Int} (ha : Bytes a) (k : Nat) : Bytes (a.take k) := fun x hx => ha x (List.mem_of_mem_take hx)
theorem Bytes.drop {a : List Int} (ha : Bytes a) (k : Nat) : Bytes (a.drop k) := fun x hx => ha x (List.mem_of_mem_drop hx)
theorem Bytes.getD {a : List Int} (ha : Bytes a) (k : Nat) : 0 ≤ a[k]?.getD 0 ∧ a[k]?.getD 0 ≤ 255 := by
  by_cases h : k < a.length
  · have := ha a[k] (List.getElem_mem h)
    rw [List.getElem?_eq_getElem h]
    simp only [Option.getD_some]
    omega
  · rw [List.getElem?_eq_none (by omega)]
    simp

theorem enc_bytes (n : Nat) : Bytes (enc n) := by
  induction n using Nat.strongRecOn with
  | ind n ih =>
    by_cases h : n < 128
    · rw [enc_small h]; intro x hx; simp at hx; omega
    · rw [enc_big (by omega)]
      intro x hx
      rcases List.mem_cons.1 hx with h | h
      · omega
      · exact ih _ (by omega) x h

/-- The number of groups: the lowest first. -/
def val : List Int → Nat
  | [] => 0
  | x :: r => (x % 128).toNat + 128 * val r

theorem val_enc (n : Nat) : val (enc n) = n := by
  induction n using Nat.strongRecOn with
  | ind n ih =>
    by_cases h : n < 128
    · rw [enc_small h]; simp only [val]; omega
    · rw [enc_big (by omega)]
      simp only [val, ih (n / 128) (by omega)]
      omega

theorem val_snoc : ∀ (l : List Int) (k : Nat), k < l.length → val (l.take (k + 1)) = val (l.take k) + (l[k]?.getD 0 % 128).toNat * 128 ^ k
  | [], _, h => by simp at h
  | x :: r, 0, _ => by simp [val]
  | x :: r, k + 1, h => by
    have ih := val_snoc r k (by simpa using h)
    rw [List.take_succ_cons, List.take_succ_cons]
    simp only [val, ih, List.getElem?_cons_succ]
    generalize (r[k]?.getD 0 % 128).toNat = t
    have e : t * 128 ^ (k + 1) = 128 * (t * 128 ^ k) := by rw [Nat.pow_succ, ← Nat.mul_assoc, Nat.mul_comm]
    rw [e]
    omega

theorem val_take_lt : ∀ (k : Nat) (l : List Int), val (l.take k) < 128 ^ k
  | 0, l => by simp [val]
  | k + 1, [] => by simp only [List.take_nil, val]; exact Nat.pow_pos (by omega)
  | k + 1, x :: r => by
    have ih := val_take_lt k r
    rw [List.take_succ_cons]
    simp only [val]
    rw [Nat.pow_succ]
    omega

theorem val_take_le : ∀ (k : Nat) (l : List Int), val (l.take k) ≤ val l
  | 0, l => by simp [val]
  | k + 1, [] => by simp
  | k + 1, x :: r => by
    have ih := val_take_le k r
    rw [List.take_succ_cons]
    simp only [val]
    omega

theorem enc_inj {m n : Nat} (h : enc m = enc n) : m = n := by rw [← val_enc m, h, val_enc]

/-- Groups that end: all but the last are 128 and above, the last one is below. -/
def Ends : List Int → Prop
  | [] => False
  | [x] => 0 ≤ x ∧ x < 128
  | x :: y :: r => 128 ≤ x ∧ x < 256 ∧ Ends (y :: r)

theorem enc_ne (n : Nat) : enc n ≠ [] := by
  have := size_pos n
  intro h
  simp [size, h] at this

theorem ends_cons {x : Int} {l : List Int} (hx : 128 ≤ x) (hx' : x < 256) (h : Ends l) : Ends (x :: l) := by
  cases l with
  | nil => exact h.elim
  | cons y r => exact ⟨hx, hx', h⟩

theorem enc_ends (n : Nat) : Ends (enc n) := by
  induction n using Nat.strongRecOn with
  | ind n ih =>
    by_cases h : n < 128
    · rw [enc_small h]; exact ⟨by omega, by omega⟩
    · rw [enc_big (by omega)]
      exact ends_cons (by omega) (by omega) (ih _ (by omega))

def last (l : List Int) : Int := l.getLast?.getD 0

theorem last_one (x : Int) : last [x] = x := rfl
theorem last_cons (x y : Int) (l : List Int) : last (x :: y :: l) = last (y :: l) := by simp [last, List.getLast?_cons]

theorem ends_last : ∀ {l : List Int}, Ends l → 0 ≤ last l ∧ last l < 128
  | [], h => h.elim
  | [x], h => h
  | x :: y :: r, h => by rw [last_cons]; exact ends_last h.2.2

/-- The last group, and where the number then lies. -/
theorem val_last : ∀ (k : Nat) (l : List Int), Ends l → l.length = k + 1 → (last l).toNat * 128 ^ k ≤ val l ∧ val l < ((last l).toNat + 1) * 128 ^ k
  | 0, [x], h, _ => by
    have h0 := h.1
    have h1 := h.2
    rw [last_one]
    simp only [val, Nat.pow_zero]
    omega
  | k + 1, x :: y :: r, h, hl => by
    have ih := val_last k (y :: r) h.2.2 (by simpa using hl)
    rw [last_cons, Nat.pow_succ]
    have e : val (x :: y :: r) = (x % 128).toNat + 128 * val (y :: r) := rfl
    rw [e]
    generalize val (y :: r) = v at ih ⊢
    generalize (last (y :: r)).toNat = t at ih ⊢
    have a1 : t * (128 ^ k * 128) = 128 * (t * 128 ^ k) := by rw [← Nat.mul_assoc, Nat.mul_comm]
    have a2 : (t + 1) * (128 ^ k * 128) = 128 * ((t + 1) * 128 ^ k) := by rw [← Nat.mul_assoc, Nat.mul_comm]
    rw [a1, a2]
    omega
  | 0, [], h, _ => h.elim
  | 0, x :: y :: r, _, hl => by simp at hl
  | k + 1, [], h, _ => h.elim
  | k + 1, [x], _, hl => by simp at hl

/-- Groups that end are the encoding of their number exactly if the last one is not an idle zero. -/
theorem enc_val : ∀ (l : List Int), Ends l → (enc (val l) = l ↔ (last l ≠ 0 ∨ l.length = 1))
  | [], h => h.elim
  | [x], h => by
    have h0 := h.1
    have h1 := h.2
    have e : val [x] = x.toNat := by simp only [val]; omega
    rw [e, enc_small (by omega)]
    simp
    omega
  | x :: y :: r, h => by
    have ih := enc_val (y :: r) h.2.2
    have hx := h.1
    have hx' := h.2.1
    have e : val (x :: y :: r) = (x % 128).toNat + 128 * val (y :: r) := rfl
    rw [last_cons, e]
    generalize hv : val (y :: r) = v at ih ⊢
    by_cases hz : v = 0
    · subst hz
      have hlt : (x % 128).toNat + 128 * 0 < 128 := by omega
      rw [enc_small hlt]
      have hy := val_last r.length (y :: r) h.2.2 (by simp)
      rw [hv] at hy
      have hl := ends_last h.2.2
      have hp : 0 < 128 ^ r.length := Nat.pow_pos (by omega)
      have h0 : (last (y :: r)).toNat = 0 := by
        rcases Nat.eq_zero_or_pos (last (y :: r)).toNat with h | h
        · exact h
        · have := Nat.mul_pos h hp
          omega
      constructor
      · intro hc
        simp at hc
      · intro hc
        simp at hc
        omega
    · rw [enc_big (by omega)]
      have e1 : ((x % 128).toNat + 128 * v) % 128 + 128 = x.toNat := by omega
      have e2 : ((x % 128).toNat + 128 * v) / 128 = v := by omega
      rw [e1, e2]
      have e3 : ((x.toNat : Nat) : Int) = x := by omega
      rw [e3]
      constructor
      · intro hc
        have hc' : enc v = y :: r := by injection hc
        rcases ih.1 hc' with h | h
        · exact .inl h
        · have hr : r = [] := List.eq_nil_of_length_eq_zero (by simpa using h)
          subst hr
          left
          rw [last_one]
          intro hy0
          subst hy0
          simp [val] at hv
          omega
      · intro hc
        have : last (y :: r) ≠ 0 := by
          rcases hc with h | h
          · exact h
          · simp at h
        rw [ih.2 (.inl this)]

/-- What leb's 'unique' asks of groups that end. -/
def uniq (l : List Int) : Bool := if (decide (l.length = 10) && decide (1 < last l)) = true then false else (last l != 0 || decide (l.length = 1))

theorem uniq_iff (l : List Int) : uniq l = true ↔ (l.length = 10 → last l ≤ 1) ∧ (last l ≠ 0 ∨ l.length = 1) := by
  unfold uniq
  by_cases h : (decide (l.length = 10) && decide (1 < last l)) = true
  · rw [if_pos h]
    simp at h
    simp
    intro h'
    have := h' h.1
    omega
  · rw [if_neg h]
    simp at h
    simp
    intro _ h'
    have := h h'
    omega

theorem val_lt {l : List Int} (h : Ends l) (hl : l.length ≤ 10) (hu : l.length = 10 → last l ≤ 1) : val l < 18446744073709551616 := by
  obtain ⟨k, hk⟩ : ∃ k, l.length = k + 1 := by
    cases l with
    | nil => exact h.elim
    | cons x r => exact ⟨r.length, rfl⟩
  have hv := val_last k l h hk
  have hb := ends_last h
  rcases Nat.lt_or_ge k 9 with h9 | h9
  · have hle : ((last l).toNat + 1) * 128 ^ k ≤ 128 * 128 ^ 8 := Nat.mul_le_mul (by omega) (Nat.pow_le_pow_right (by omega) (by omega))
    have : (128 : Nat) * 128 ^ 8 < 18446744073709551616 := by decide
    omega
  · have hk9 : k = 9 := by omega
    subst hk9
    have hle : ((last l).toNat + 1) * 128 ^ 9 ≤ 2 * 128 ^ 9 := Nat.mul_le_mul_right _ (by have := hu hk; omega)
    have : (2 : Nat) * 128 ^ 9 = 18446744073709551616 := by decide
    omega

/-- Decoding with wrapping, and comparing with the encoding of the result, accepts exactly what 'unique' accepts. -/
theorem uniq_enc {l : List Int} (h : Ends l) (hl : l.length ≤ 10) : (enc (val l % 18446744073709551616) = l ↔ uniq l = true) := by
  rw [uniq_iff]
  constructor
  · intro he
    have hv : val l % 18446744073709551616 = val l := by
      have := congrArg val he
      rwa [val_enc] at this
    rw [hv] at he
    refine ⟨fun h10 => ?_, (enc_val l h).1 he⟩
    have hlow := (val_last 9 l h h10).1
    have hb := ends_last h
    have hlt : val l < 18446744073709551616 := by omega
    have e : (128 : Nat) ^ 9 = 9223372036854775808 := by decide
    rw [e] at hlow
    omega
  · intro hu
    rw [Nat.mod_eq_of_lt (val_lt h hl hu.1)]
    exact (enc_val l h).2 hu.2

/-- How many bytes the number at the front of l has; 0 if none of the first ten ends it. -/
def span (l : List Int) : Nat := match (l.take 10).findIdx? (fun x => decide (x < 128)) with | some k => k + 1 | none => 0

theorem span_hit {l : List Int} {k : Nat} (hk : k < l.length) (h10 : k < 10) (hb : ∀ j, j < k → 128 ≤ l[j]?.getD 0) (hx : l[k]?.getD 0 < 128) : span l = k + 1 := by
  have e : (l.take 10).findIdx? (fun x => decide (x < 128)) = some k := by
    rw [List.findIdx?_eq_some_iff_getElem]
    refine ⟨by simp; omega, ?_, fun j hj => ?_⟩
    · rw [List.getElem?_eq_getElem hk] at hx
      simpa using hx
    · have := hb j hj
      rw [List.getElem?_eq_getElem (by omega)] at this
      simpa using this
  simp [span, e]

theorem span_none {l : List Int} (hb : ∀ j, j < l.length → j < 10 → 128 ≤ l[j]?.getD 0) : span l = 0 := by
  have e : (l.take 10).findIdx? (fun x => decide (x < 128)) = none := by
    rw [List.findIdx?_eq_none_iff]
    intro x hx
    obtain ⟨j, hj, rfl⟩ := List.mem_iff_getElem.1 hx
    simp at hj
    have := hb j (by omega) (by omega)
    rw [List.getElem?_eq_getElem (by omega)] at this
    simpa using this
  simp [span, e]

/-- Either nothing ends within the first ten, or the first that ends stands at 'span'. -/
theorem span_cases (l : List Int) : (span l = 0 ∧ ∀ j, j < l.length → j < 10 → 128 ≤ l[j]?.getD 0) ∨
    ∃ k, span l = k + 1 ∧ k < l.length ∧ k < 10 ∧ (∀ j, j < k → 128 ≤ l[j]?.getD 0) ∧ l[k]?.getD 0 < 128 := by
  rcases h : (l.take 10).findIdx? (fun x => decide (x < 128)) with _ | k
  · left
    refine ⟨by simp [span, h], fun j hj h10 => ?_⟩
    rw [List.findIdx?_eq_none_iff] at h
    have := h l[j] (by rw [List.mem_take_iff_getElem]; exact ⟨j, by omega, rfl⟩)
    rw [List.getElem?_eq_getElem hj]
    simpa using this
  · right
    refine ⟨k, by simp [span, h], ?_⟩
    rw [List.findIdx?_eq_some_iff_getElem] at h
    obtain ⟨hk, hx, hb⟩ := h
    simp at hk
    refine ⟨by omega, by omega, fun j hj => ?_, ?_⟩
    · have := hb j hj
      rw [List.getElem?_eq_getElem (by omega)]
      simpa using this
    · rw [List.getElem?_eq_getElem (by omega)]
      simpa using hx

theorem span_le (l : List Int) : span l ≤ l.length ∧ span l ≤ 10 := by
  rcases span_cases l with ⟨h, _⟩ | ⟨k, h, h1, h2, _⟩ <;> omega

theorem ends_take : ∀ (k : Nat) (l : List Int), Bytes l → k < l.length → (∀ j, j < k → 128 ≤ l[j]?.getD 0) → l[k]?.getD 0 < 128 → Ends (l.take (k + 1))
  | _, [], _, h, _, _ => by simp at h
  | 0, x :: r, hb, _, _, hx => by
    have := hb x (by simp)
    simp at hx
    simp only [Nat.zero_add, List.take_succ_cons, List.take_zero, Ends]
    omega
  | k + 1, x :: r, hb, hk, hj, hx => by
    have h0 := hj 0 (by omega)
    simp at h0
    have hxb := hb x (by simp)
    rw [List.take_succ_cons]
    refine ends_cons h0 hxb.2 (ends_take k r (fun y hy => hb y (by simp [hy])) (by simpa using hk) (fun j hj' => ?_) (by simpa using hx))
    have := hj (j + 1) (by omega)
    simpa using this

theorem ends_span {l : List Int} (hb : Bytes l) (h : span l ≠ 0) : Ends (l.take (span l)) := by
  rcases span_cases l with ⟨h0, _⟩ | ⟨k, h0, h1, h2, h3, h4⟩
  · exact absurd h0 h
  · rw [h0]; exact ends_take k l hb h1 h3 h4

theorem length_span (l : List Int) : (l.take (span l)).length = span l := by
  have := span_le l
  simp; omega

/-- What Take gives for the bytes l from the offset 'at': the number, the offset after it, the error's number. -/
def take (l : List Int) (p : Int) : Nat × Int × Int :=
  if p < 0 ∨ (l.length : Int) < p then (0, 0, 1)
  else if span (l.drop p.toNat) = 0 ∧ (l.drop p.toNat).length < 10 then (0, 0, 7)
  else if span (l.drop p.toNat) = 0 ∨ uniq ((l.drop p.toNat).take (span (l.drop p.toNat))) = false then (0, 0, 4)
  else (val ((l.drop p.toNat).take (span (l.drop p.toNat))), p + span (l.drop p.toNat), 0)

theorem ends_at : ∀ (l r : List Int), Ends l → (∀ j, j < l.length - 1 → 128 ≤ (l ++ r)[j]?.getD 0) ∧ (l ++ r)[l.length - 1]?.getD 0 < 128 ∧ 0 < l.length
  | [], _, h => h.elim
  | [x], r, h => by simp; exact h.2
  | x :: y :: l, r, h => by
    obtain ⟨a, b, _⟩ := ends_at (y :: l) r h.2.2
    refine ⟨fun j hj => ?_, by simpa using b, by simp⟩
    cases j with
    | zero => simpa using h.1
    | succ j => simpa using a j (by simp at hj; simp; omega)

theorem span_ends {l : List Int} (r : List Int) (h : Ends l) (hl : l.length ≤ 10) : span (l ++ r) = l.length := by
  obtain ⟨a, b, c⟩ := ends_at l r h
  rw [span_hit (k := l.length - 1) (by simp; omega) (by omega) a b]
  omega

theorem enc_uniq {n : Nat} (hn : n < 18446744073709551616) : uniq (enc n) = true := by
  rw [← uniq_enc (enc_ends n) (size_le10 hn), val_enc, Nat.mod_eq_of_lt hn]

/-- A number comes back of its bytes, wherever they stand. -/
theorem take_enc (a r : List Int) {n : Nat} (hn : n < 18446744073709551616) : take (a ++ enc n ++ r) a.length = (n, ((a ++ enc n).length : Int), 0) := by
  have hs : span (enc n ++ r) = (enc n).length := span_ends r (enc_ends n) (size_le10 hn)
  have hp : 0 < (enc n).length := size_pos n
  unfold take
  have e1 : (a ++ enc n ++ r).drop ((a.length : Int)).toNat = enc n ++ r := by simp
  rw [e1, hs, if_neg (by simp; omega), if_neg (by omega)]
  have e2 : (enc n ++ r).take (enc n).length = enc n := by simp
  rw [e2, enc_uniq hn, if_neg (fun h => h.elim (fun h => by omega) (fun h => by cases h)), val_enc]
  simp

/-- A byte fewer, and they are too short. -/
theorem take_short (a : List Int) {n : Nat} (hn : n < 18446744073709551616) : take ((a ++ enc n).take ((a ++ enc n).length - 1)) a.length = (0, 0, 7) := by
  have hp : 0 < (enc n).length := size_pos n
  have h10 : (enc n).length ≤ 10 := size_le10 hn
  obtain ⟨h1, _, _⟩ := ends_at (enc n) [] (enc_ends n)
  have e0 : (a ++ enc n).take ((a ++ enc n).length - 1) = a ++ (enc n).take ((enc n).length - 1) := by
    rw [List.take_append]
    simp
    congr 1
    · rw [List.take_of_length_le (by omega)]
    · congr 1; omega
  rw [e0]
  unfold take
  have e1 : (a ++ (enc n).take ((enc n).length - 1)).drop ((a.length : Int)).toNat = (enc n).take ((enc n).length - 1) := by simp
  have hs : span ((enc n).take ((enc n).length - 1)) = 0 := by
    refine span_none fun j hj _ => ?_
    simp at hj
    have := h1 j (by omega)
    rw [List.getElem?_take, if_pos (by omega)]
    simpa using this
  rw [e1, hs, if_neg (by simp; omega), if_pos ⟨rfl, by simp; omega⟩]

/-- What is accepted at the front of l is the encoding of the number alone. -/
theorem take_only {l : List Int} (hb : Bytes l) {k : Nat} {q : Int} (h : take l 0 = (k, q, 0)) : 0 ≤ q ∧ q ≤ l.length ∧ enc k = l.take q.toNat ∧ k < 18446744073709551616 := by
  unfold take at h
  rw [if_neg (by omega)] at h
  simp only [Int.toNat_zero, List.drop_zero] at h
  by_cases h1 : span l = 0 ∧ l.length < 10
  · rw [if_pos h1] at h
    simp at h
  rw [if_neg h1] at h
  by_cases h2 : span l = 0 ∨ uniq (l.take (span l)) = false
  · rw [if_pos h2] at h
    simp at h
  rw [if_neg h2] at h
  simp only [not_or, Bool.not_eq_false] at h2
  injection h with ha hq
  injection hq with hq _
  have hE := ends_span hb h2.1
  have hl := span_le l
  have hlen := length_span l
  have hv := val_lt hE (by omega) ((uniq_iff _).1 h2.2).1
  refine ⟨by omega, by omega, ?_, by omega⟩
  rw [← ha, ← hq]
  have := (uniq_enc hE (by omega)).2 h2.2
  rw [Nat.mod_eq_of_lt hv] at this
  rw [this]
  congr 1
  omega

theorem take_lt {l : List Int} (hb : Bytes l) (p : Int) : (take l p).1 < 18446744073709551616 := by
  unfold take
  split
  · simp
  split
  · simp
  split
  · simp
  · rename_i h
    simp only [not_or, Bool.not_eq_false] at h
    have hl := span_le (l.drop p.toNat)
    have hlen := length_span (l.drop p.toNat)
    exact val_lt (ends_span (hb.drop _) h.1) (by omega) ((uniq_iff _).1 h.2).1

end Go.Proofs.Ytlmchoonokglaaa.Leb
