/-
  Plain facts on the CORS check. No program is spoken of; no condition beyond those that each theorem states.
-/
import Derived.Test.YtdmmkjioaiefdaaHeadMem
namespace Go.Proofs.Ytdmmkjioaiefdaa
open Go.Lib

/-- The names that the check asks for. -/
abbrev nameO : ByteArray := ⟨#[97, 99, 99, 101, 115, 115, 45, 99, 111, 110, 116, 114, 111, 108, 45, 97, 108, 108, 111, 119, 45, 111, 114, 105, 103, 105, 110]⟩
abbrev nameC : ByteArray := ⟨#[97, 99, 99, 101, 115, 115, 45, 99, 111, 110, 116, 114, 111, 108, 45, 97, 108, 108, 111, 119, 45, 99, 114, 101, 100, 101, 110, 116, 105, 97, 108, 115]⟩

/-- May it be seen? a: what the header of the origin says; b: is there one; t: what the header of the credentials says; s: the origin; k: the mode of credentials. -/
def seenOf (a : ByteArray) (b : Bool) (t s : ByteArray) (k : Int) : Bool :=
  b && ((!decide (k = 3) && (a.toList == [42])) || ((a.toList == s.toList) && (!decide (k = 3) || (t.toList == [116, 114, 117, 101]))))
def seen (l : List Hd) (s : ByteArray) (k : Int) : Bool := seenOf (mk (joined (vals nameO l))) (decide (0 < (vals nameO l).length)) (mk (joined (vals nameC l))) s k

/-- What is seen with credentials is seen without. -/
theorem seen_less {l : List Hd} {s : ByteArray} (h : seen l s 3 = true) (k : Int) : seen l s k = true := by
  unfold seen seenOf at h ⊢
  revert h
  generalize ((mk (joined (vals nameO l))).toList == [42]) = p
  generalize ((mk (joined (vals nameO l))).toList == s.toList) = q
  generalize ((mk (joined (vals nameC l))).toList == [116, 114, 117, 101]) = r
  generalize decide (0 < (vals nameO l).length) = b
  generalize decide (k = 3) = d
  simp only [decide_true]
  revert p q r b d
  decide

/-- Two values more: their text is neither one of them nor a star. -/
theorem joined_more (xs : List ByteArray) (s : ByteArray) : s.size + 2 ≤ (joined (xs ++ [s] ++ [s])).length := by
  rw [joined_snoc s (by simp)]
  simp only [List.length_append, ← size_len, sep2, List.length_cons, List.length_nil]
  omega
theorem seen_twice (l : List Hd) (x y s : ByteArray) (k : Int) (hx : alike x nameO = true) (hy : alike y nameO = true) : seen (l ++ [(x, s), (y, s)]) s k = false := by
  have hv : vals nameO (l ++ [(x, s), (y, s)]) = vals nameO l ++ [s] ++ [s] := by
    rw [vals_append, vals_cons, vals_cons, hx, hy]
    simp [vals]
  have hl := joined_more (vals nameO l) s
  unfold seen seenOf
  rw [hv]
  generalize joined (vals nameO l ++ [s] ++ [s]) = z at hl
  have h1 : ((mk z).toList == [42]) = false := by
    rw [beq_eq_false_iff_ne, ByteArray.toList_eq, mk_list]
    rintro rfl
    simp at hl
  have h2 : ((mk z).toList == s.toList) = false := by
    rw [beq_eq_false_iff_ne, ByteArray.toList_eq, ByteArray.toList_eq, mk_list]
    rintro rfl
    rw [size_len] at hl
    omega
  rw [h1, h2]
  simp
end Go.Proofs.Ytdmmkjioaiefdaa
