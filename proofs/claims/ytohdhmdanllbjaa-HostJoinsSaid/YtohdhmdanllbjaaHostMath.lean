/-
  Plain facts on hosts: what stands between the dots of a text, which parts and which hosts are valid, which host is under another. No program is spoken of; no condition beyond those that each theorem states.
-/
import Derived.Test.YtohdhmdanllbjaaAscBase
import Derived.Lib.Bytealg
import Derived.Lib.Strings
namespace Go.Proofs.Ytohdhmdanllbjaa
open Go.Lib

/-- May a byte stand in a part of a host? -/
def hletter (c : Nat) : Bool := (97 ≤ c && c ≤ 122) || (48 ≤ c && c ≤ 57) || c == 45
def hbyte (b : UInt8) : Bool := hletter b.toNat
/-- Is a part valid? -/
def hpart (p : List UInt8) : Bool := !p.isEmpty && decide (p.length ≤ 63) && p.all hbyte && p[0]? != some 45 && p[p.length - 1]? != some 45

/-- b ahead of the first part. -/
def hahead (b : UInt8) : List (List UInt8) → List (List UInt8)
  | [] => [[b]]
  | p :: q => (b :: p) :: q
/-- What stands between the dots. -/
def hdots : List UInt8 → List (List UInt8)
  | [] => [[]]
  | b :: r => if b = 46 then [] :: hdots r else hahead b (hdots r)
/-- Is a host valid? -/
def hgood (l : List UInt8) : Bool := decide (l.length ≤ 253) && (hdots l).all hpart
/-- Is a host under another one? -/
def hunder (l t : List UInt8) : Bool := hgood l && hgood t && Lib.hasSuffix l (46 :: t)

theorem hdots_ne (l : List UInt8) : hdots l ≠ [] := by
  cases l with
  | nil => simp [hdots]
  | cons b r =>
    rw [hdots]
    split
    · simp
    · cases hdots r <;> simp [hahead]

theorem hdots_none {l : List UInt8} (h : ∀ b ∈ l, b ≠ 46) : hdots l = [l] := by
  induction l with
  | nil => rfl
  | cons b r ih =>
    rw [hdots, if_neg (h b (by simp)), ih fun x hx => h x (by simp [hx])]
    rfl

theorem hdots_join (a b : List UInt8) : hdots (a ++ 46 :: b) = hdots a ++ hdots b := by
  induction a with
  | nil => simp [hdots]
  | cons x a ih =>
    rw [List.cons_append, hdots, ih]
    by_cases h : x = 46
    · rw [if_pos h, hdots, if_pos h]
      rfl
    · rw [if_neg h, hdots, if_neg h]
      have hne := hdots_ne a
      revert hne
      cases hdots a with
      | nil => intro h; exact absurd rfl h
      | cons p q => intro _; rfl

theorem hdots_dot {p r : List UInt8} (h : ∀ b ∈ p, b ≠ 46) : hdots (p ++ 46 :: r) = p :: hdots r := by
  rw [hdots_join, hdots_none h]
  rfl

theorem hdots_mem {l : List UInt8} {b : UInt8} (hb : b ∈ l) (hne : b ≠ 46) : ∃ p ∈ hdots l, b ∈ p := by
  induction l with
  | nil => cases hb
  | cons x r ih =>
    rw [hdots]
    by_cases hx : x = 46
    · rw [if_pos hx]
      rcases List.mem_cons.1 hb with rfl | hb
      · exact absurd hx hne
      · obtain ⟨p, h1, h2⟩ := ih hb
        exact ⟨p, by simp [h1], h2⟩
    · rw [if_neg hx]
      rcases List.mem_cons.1 hb with rfl | hb
      · cases hd : hdots r with
        | nil => exact ⟨[b], by simp [hahead], by simp⟩
        | cons p q => exact ⟨b :: p, by simp [hahead], by simp⟩
      · obtain ⟨p, h1, h2⟩ := ih hb
        cases hd : hdots r with
        | nil => rw [hd] at h1; cases h1
        | cons q t =>
          rw [hd] at h1
          rcases List.mem_cons.1 h1 with rfl | h1
          · exact ⟨x :: p, by simp [hahead], by simp [h2]⟩
          · exact ⟨p, by simp [hahead, h1], h2⟩

theorem hdots_len (l : List UInt8) : (hdots l).length ≤ l.length + 1 := by
  induction l with
  | nil => simp [hdots]
  | cons b r ih =>
    rw [hdots]
    split
    · simpa using ih
    · cases h : hdots r with
      | nil => simp [hahead]
      | cons p q => rw [h] at ih; simp [hahead] at ih ⊢; omega

/-- The first dot. -/
theorem index_dot (l : List UInt8) : (Lib.indexByte l 46 = -1 ∧ ∀ b ∈ l, b ≠ 46) ∨
    ∃ i : Nat, Lib.indexByte l 46 = i ∧ i < l.length ∧ l = l.take i ++ 46 :: l.drop (i + 1) ∧ ∀ b ∈ l.take i, b ≠ 46 := by
  induction l with
  | nil => exact .inl ⟨rfl, fun _ h => by cases h⟩
  | cons x r ih =>
    by_cases hx : x = 46
    · subst hx
      exact .inr ⟨0, by simp [Lib.indexByte], by simp, by simp, fun _ h => by simp at h⟩
    · have hx' : (x == 46) = false := by simpa using hx
      rcases ih with ⟨h1, h2⟩ | ⟨i, h1, h2, h3, h4⟩
      · refine .inl ⟨by simp [Lib.indexByte, hx', h1], fun b hb => ?_⟩
        rcases List.mem_cons.1 hb with rfl | hb
        · exact hx
        · exact h2 b hb
      · refine .inr ⟨i + 1, ?_, by simpa using h2, ?_, fun b hb => ?_⟩
        · have : ((i : Int) == -1) = false := by rw [beq_eq_false_iff_ne]; omega
          simp [Lib.indexByte, hx', h1, this]
        · rw [List.take_succ_cons, List.drop_succ_cons, List.cons_append, ← h3]
        · rw [List.take_succ_cons] at hb
          rcases List.mem_cons.1 hb with rfl | hb
          · exact hx
          · exact h4 b hb

theorem hletter_dot : hletter 46 = false := by decide

theorem hbad {l : List UInt8} {b : UInt8} (hb : b ∈ l) (hne : b ≠ 46) (hf : hbyte b = false) : (hdots l).all hpart = false := by
  obtain ⟨p, h1, h2⟩ := hdots_mem hb hne
  rw [List.all_eq_false]
  refine ⟨p, h1, ?_⟩
  have : p.all hbyte = false := by
    rw [List.all_eq_false]
    exact ⟨b, h2, by simp [hf]⟩
  simp [hpart, this]

theorem hgood_len {l : List UInt8} (h : 253 < l.length) : hgood l = false := by
  have : decide (l.length ≤ 253) = false := by simpa using h
  rw [hgood, this]
  rfl
theorem hgood_of {l : List UInt8} (h : l.length ≤ 253) : hgood l = (hdots l).all hpart := by simp [hgood, h]
theorem hgood_le {l : List UInt8} (h : hgood l = true) : l.length ≤ 253 := by
  by_cases h' : 253 < l.length
  · rw [hgood_len h'] at h
    cases h
  · omega

theorem hgood_join {a b : List UInt8} (ha : hgood a = true) (hb : hgood b = true) : hgood (a ++ 46 :: b) = decide ((a ++ 46 :: b).length ≤ 253) := by
  have h1 := hgood_le ha
  have h2 := hgood_le hb
  rw [hgood_of h1] at ha
  rw [hgood_of h2] at hb
  rw [hgood, hdots_join, List.all_append, ha, hb]
  simp

theorem suffix_iff (l t : List UInt8) : Lib.hasSuffix l t = true ↔ t <:+ l := by simp [Lib.hasSuffix]
theorem hunder_iff (l t : List UInt8) : hunder l t = true ↔ hgood l = true ∧ hgood t = true ∧ (46 :: t) <:+ l := by
  rw [hunder, Bool.and_eq_true, Bool.and_eq_true, suffix_iff, and_assoc]
theorem hunder_lt {l t : List UInt8} (h : hunder l t = true) : t.length < l.length := by
  have := ((hunder_iff l t).1 h).2.2.length_le
  rw [List.length_cons] at this
  omega
theorem hunder_not {l t : List UInt8} (h : l.length ≤ t.length) : hunder l t = false := by
  rw [Bool.eq_false_iff]
  intro c
  have := hunder_lt c
  omega
theorem hunder_bad {l t : List UInt8} (h : hgood l = false ∨ hgood t = false) : hunder l t = false := by
  unfold hunder
  rcases h with h | h
  all_goals simp [h]
theorem hunder_join {a b : List UInt8} (hx : hgood (a ++ 46 :: b) = true) (hb : hgood b = true) : hunder (a ++ 46 :: b) b = true :=
  (hunder_iff _ _).2 ⟨hx, hb, ⟨a, rfl⟩⟩
theorem hunder_trans {a b u : List UInt8} (hx : hgood (a ++ 46 :: b) = true) (h : hunder b u = true) : hunder (a ++ 46 :: b) u = true := by
  obtain ⟨h1, h2, h3⟩ := (hunder_iff _ _).1 h
  refine (hunder_iff _ _).2 ⟨hx, h2, h3.trans ?_⟩
  exact ⟨a ++ [46], by simp⟩
end Go.Proofs.Ytohdhmdanllbjaa
