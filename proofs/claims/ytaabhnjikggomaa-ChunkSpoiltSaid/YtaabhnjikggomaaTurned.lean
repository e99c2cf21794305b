/-
  Bits within 32 in a row of a text are turned: what that makes of the text and of its checksum; bytes that are stored into a slice of the call's own. Conditions: those that each theorem states.
-/
import Derived.Test.YtaabhnjikggomaaCycWords
namespace Go.Proofs.Ytaabhnjikggomaa
open Go.RowKit

theorem pow_mul_xor (p a b : Nat) : 2 ^ p * (a ^^^ b) = (2 ^ p * a) ^^^ (2 ^ p * b) := by
  apply Nat.eq_of_testBit_eq
  intro i
  simp only [Nat.testBit_two_pow_mul, Nat.testBit_xor]
  by_cases h : i ≥ p <;> simp [h]

/-- What the loop has made of the text: bits within 32 from p on are turned, those of e. -/
def Turned (l : List Int) (p i : Nat) (l' : List Int) (same : Bool) : Prop :=
  ∃ e : Nat, e < 2 ^ i ∧ l'.length = l.length ∧ Leb.Bytes l' ∧ Cyc.whole l' = Cyc.whole l ^^^ 2 ^ p * e ∧ same = decide (e = 0)

theorem turned_start {l : List Int} (h : Leb.Bytes l) (p : Nat) : Turned l p 0 l true := ⟨0, by omega, rfl, h, by simp, rfl⟩
theorem turned_keep {l l' : List Int} {p i : Nat} {same : Bool} (h : Turned l p i l' same) : Turned l p (i + 1) l' same := by
  obtain ⟨e, h1, h2⟩ := h
  exact ⟨e, by rw [Nat.pow_succ]; omega, h2⟩
theorem turned_flip {l l' : List Int} {p i : Nat} {same : Bool} (h : Turned l p i l' same) (hk : p + i < 8 * l.length) :
    Turned l p (i + 1) (l'.set ((p + i) / 8) (((l'[(p + i) / 8]?.getD 0).toNat ^^^ 2 ^ ((p + i) % 8) : Nat) : Int)) false := by
  obtain ⟨e, h1, h2, h3, h4, h5⟩ := h
  have hj : (p + i) / 8 < l'.length := by omega
  have hw := Cyc.whole_flip l' ((p + i) / 8) ((p + i) % 8) h3 hj (by omega)
  refine ⟨2 ^ i * 1 + e, by rw [Nat.pow_succ]; omega, by simp [h2], ?_, ?_, ?_⟩
  · intro x hx
    rcases List.mem_or_eq_of_mem_set hx with hm | rfl
    · exact h3 x hm
    · have hb := h3.getD ((p + i) / 8)
      have : (l'[(p + i) / 8]?.getD 0).toNat ^^^ 2 ^ ((p + i) % 8) < 2 ^ 8 := Nat.xor_lt_two_pow (by omega) (Nat.pow_lt_pow_right (by omega) (by omega))
      omega
  · rw [hw, h4, show 8 * ((p + i) / 8) + (p + i) % 8 = p + i by omega, Cyc.add_xor 1 h1, pow_mul_xor, Nat.xor_comm (2 ^ p * (2 ^ i * 1)), ← Nat.xor_assoc]
    congr 1
    rw [Nat.mul_one, ← Nat.pow_add]
  · have : 2 ^ i * 1 + e ≠ 0 := by have := Nat.pow_pos (n := i) (show 0 < 2 by omega); omega
    rw [decide_eq_false this]
theorem turned_sum {l l' : List Int} {p : Nat} {same : Bool} (hl : Leb.Bytes l) (h : Turned l p 32 l' same) (hp : p ≤ 8 * l.length) :
    (4294967295 - regs tab0 [l'] == 4294967295 - regs tab0 [l]) = same := by
  obtain ⟨e, h1, h2, h3, h4, h5⟩ := h
  have ha := Cyc.reg_apart (x := l) (y := l') hl h3 h2 (e := e) (by simpa using h1) hp h4 4294967295
  have e1 : ∀ z : List Int, Leb.Bytes z → regs tab0 [z] = Cyc.reg 4294967295 z ∧ regs tab0 [z] < 4294967296 := fun z hz => by
    have : regs tab0 [z] = Cyc.reg 4294967295 z := by
      unfold regs
      rw [show [z].flatten = z by simp, byTab_tab0 z _ hz, Cyc.byTab_tab z _ hz]
    exact ⟨this, regs_lt tab0 tab0_lt _⟩
  obtain ⟨a1, a2⟩ := e1 l hl
  obtain ⟨b1, b2⟩ := e1 l' h3
  rw [h5, Bool.eq_iff_iff, beq_iff_eq, decide_eq_true_iff, ← ha, ← a1, ← b1]
  omega

theorem owns_cells {w : World} {base : Nat} {e : TypeId} {X : Option Addr} {n c : Nat} {l : List Int} (h : Owns w base e (.slice X n c) l) (hn : 0 < n) :
    ∃ g, X = some ⟨g, 0, Option.none⟩ ∧ (∀ j, j < l.length → w.cell? ⟨g, j, Option.none⟩ = some (.int .u8 (l[j]?.getD 0))) ∧ ∀ j, w.frozen? ⟨g, j, Option.none⟩ = false := by
  have hr := h.2
  rcases hr.2 with ⟨h1, h2⟩ | ⟨g, cap, cur, h1, rest⟩
  · injection h1 with _ h3 _
    omega
  · injection h1 with h3 h4 h5
    subst h3
    subst h4
    subst h5
    refine ⟨g, rfl, fun j hj => ?_, fun j => hr.frozenAt j⟩
    rw [hr.cellAt j (by omega)]
    simp [List.getElem?_eq_getElem hj]
theorem owns_stored {w : World} {base : Nat} {e : TypeId} {g n c : Nat} {l : List Int} (h : Owns w base e (.slice (some ⟨g, 0, Option.none⟩) n c) l) (j y : Nat) (hy : y < 256) :
    Owns (w.setCell ⟨g, j, Option.none⟩ (.int .u8 (y : Int))) base e (.slice (some ⟨g, 0, Option.none⟩) n c) (l.set j (y : Int)) ∧ base ≤ g := by
  have hr := h.2
  have hn : n = l.length := by
    rcases hr.2 with ⟨h1, h2⟩ | ⟨g', cap, cur, h1, rest⟩
    · injection h1 with h3
      cases h3
    · injection h1
  subst hn
  have hs := (hr.stored j (.int .u8 (y : Int))).1
  refine ⟨⟨fun x hx => ?_, ?_⟩, (hr.lt g rfl).1⟩
  · rcases List.mem_or_eq_of_mem_set hx with hm | rfl
    · exact h.1 x hm
    · omega
  · rw [List.length_set, List.map_set]
    exact hs

theorem xor_bit (y m : Nat) (hy : y < 256) (hm : m < 8) : bits .xor .u8 (y : Int) ((2 : Int) ^ m % 256) = ((y ^^^ 2 ^ m : Nat) : Int) := by
  have hp : 2 ^ m < 256 := Nat.lt_of_lt_of_le (Nat.pow_lt_pow_right (by omega) hm) (by decide)
  have e : (2 : Int) ^ m % 256 = ((2 ^ m : Nat) : Int) := by
    rw [show (2 : Int) ^ m = ((2 ^ m : Nat) : Int) by simp]
    generalize 2 ^ m = z at hp
    omega
  rw [e]
  exact bits_xor8 y (2 ^ m) hy hp

end Go.Proofs.Ytaabhnjikggomaa
