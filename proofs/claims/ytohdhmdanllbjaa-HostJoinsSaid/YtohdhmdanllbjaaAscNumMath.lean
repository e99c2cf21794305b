/-
  Plain facts on texts of digits: their value, how many digits it has, the least of it and a limit. No program is spoken of; no condition beyond those that each theorem states.
-/
import Derived.Test.YtohdhmdanllbjaaAscBase
namespace Go.Proofs.Ytohdhmdanllbjaa

def digit (b : UInt8) : Bool := 48 ≤ b.toNat && b.toNat ≤ 57
def next (v : Nat) (b : UInt8) : Nat := 10 * v + (b.toNat - 48)
/-- The decimal value of a text of digits. -/
def val (l : List UInt8) : Nat := l.foldl next 0
/-- What a text is in digits, up to a limit. -/
def number (l : List UInt8) (M : Nat) : Nat := if l.all digit then min (val l) M else 0
def isNumber (l : List UInt8) : Bool := l.all digit && !l.isEmpty

theorem digit_bounds {b : UInt8} (h : digit b = true) : 48 ≤ b.toNat ∧ b.toNat ≤ 57 := by simpa [digit] using h
theorem val_step {l : List UInt8} {k : Nat} (hk : k < l.length) : val (l.take (k + 1)) = 10 * val (l.take k) + (l[k].toNat - 48) := by
  unfold val
  rw [List.take_add_one, List.getElem?_eq_getElem hk, List.foldl_append]
  rfl

/-- How many digits a text has, without the noughts ahead. -/
def many (l : List UInt8) : Nat := l.foldl (fun m b => if 0 < m ∨ 48 < b.toNat then m + 1 else m) 0
theorem many_step {l : List UInt8} {k : Nat} (hk : k < l.length) : many (l.take (k + 1)) = if 0 < many (l.take k) ∨ 48 < l[k].toNat then many (l.take k) + 1 else many (l.take k) := by
  unfold many
  rw [List.take_add_one, List.getElem?_eq_getElem hk, List.foldl_append]
  rfl

theorem digits_of {l : List UInt8} {k : Nat} (hk : k < l.length) (h : (l.take (k + 1)).all digit = true) : (l.take k).all digit = true ∧ digit l[k] = true := by
  rw [List.take_add_one, List.getElem?_eq_getElem hk, List.all_append] at h
  simpa using h

/-- The value of a text of digits lies between two powers of ten. -/
theorem val_many {l : List UInt8} : ∀ k, k ≤ l.length → (l.take k).all digit = true →
    val (l.take k) < 10 ^ many (l.take k) ∧ (0 < many (l.take k) → 10 ^ (many (l.take k) - 1) ≤ val (l.take k)) ∧ many (l.take k) ≤ k
  | 0, _, _ => by simp [val, many]
  | k + 1, hk, h => by
    have hk' : k < l.length := by omega
    obtain ⟨h1, h2⟩ := digits_of hk' h
    obtain ⟨i1, i2, i3⟩ := val_many k (by omega) h1
    have hd := digit_bounds h2
    rw [val_step hk', many_step hk']
    by_cases hc : 0 < many (l.take k) ∨ 48 < l[k].toNat
    · rw [if_pos hc, Nat.pow_succ]
      refine ⟨by omega, fun _ => ?_, by omega⟩
      rw [Nat.add_sub_cancel]
      by_cases hm : 0 < many (l.take k)
      · have := i2 hm
        have e : many (l.take k) = many (l.take k) - 1 + 1 := by omega
        rw [e, Nat.pow_succ]
        omega
      · have e : many (l.take k) = 0 := by omega
        rw [e]
        omega
    · rw [if_neg hc]
      have e : many (l.take k) = 0 := by omega
      rw [e] at i1 ⊢
      refine ⟨by omega, fun h => absurd h (by omega), by omega⟩

/-- The value is that of the last 'many' digits. -/
theorem val_tail {l : List UInt8} : ∀ k, k ≤ l.length → (l.take k).all digit = true → val (l.take k) = val ((l.take k).drop (k - many (l.take k)))
  | 0, _, _ => by simp
  | k + 1, hk, h => by
    have hk' : k < l.length := by omega
    obtain ⟨h1, h2⟩ := digits_of hk' h
    have ih := val_tail k (by omega) h1
    obtain ⟨i1, _, i3⟩ := val_many k (by omega) h1
    have hd := digit_bounds h2
    have e1 : l.take (k + 1) = l.take k ++ [l[k]] := by
      rw [List.take_add_one, List.getElem?_eq_getElem hk']
      rfl
    have hl : (l.take k).length = k := by rw [List.length_take]; omega
    rw [val_step hk', many_step hk']
    by_cases hc : 0 < many (l.take k) ∨ 48 < l[k].toNat
    · rw [if_pos hc, show k + 1 - (many (l.take k) + 1) = k - many (l.take k) by omega, e1, List.drop_append_of_le_length (by omega)]
      conv => lhs; rw [ih]
      unfold val
      rw [List.foldl_append]
      rfl
    · rw [if_neg hc]
      have e : many (l.take k) = 0 := by omega
      rw [e] at i1 ⊢
      rw [List.drop_of_length_le (by rw [List.length_take]; omega)]
      have : val ([] : List UInt8) = 0 := rfl
      omega

/-- One digit more, up to a limit. -/
def grow (n d M : Nat) : Nat := if M < d ∨ (M - d) / 10 < n then M else 10 * n + d
theorem grow_min (V d M : Nat) : grow (min V M) d M = min (10 * V + d) M := by
  unfold grow
  split <;> omega
theorem grow_le (n d M : Nat) : grow n d M ≤ M := by
  unfold grow
  split <;> omega
theorem val_digits {l : List UInt8} {k n : Nat} (hk : k ≤ l.length) (hn : n = k) (h : (l.take k).all digit = true) : val (l.take k) < 10 ^ n := by
  obtain ⟨h1, _, h3⟩ := val_many k hk h
  subst hn
  exact Nat.lt_of_lt_of_le h1 (Nat.pow_le_pow_right (by omega) h3)
end Go.Proofs.Ytohdhmdanllbjaa
