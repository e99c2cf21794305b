/-
  Plain facts on a text cut at its commas, and on the parts without white at their ends and without the empty ones. No program is spoken of; no condition beyond those that each theorem states.
-/
import Derived.Test.YtlmchoonokglaaaAscTrimMath
import Derived.Lib.SplitLaws
namespace Go.Proofs.Ytlmchoonokglaaa
open Go.Lib

/-- b ahead of the first part. -/
def ahead (b : UInt8) : List (List UInt8) → List (List UInt8)
  | [] => [[b]]
  | p :: q => (b :: p) :: q

/-- What stands between the commas. -/
def cutAt : List UInt8 → List (List UInt8)
  | [] => [[]]
  | b :: r => if b = 44 then [] :: cutAt r else ahead b (cutAt r)

theorem cut_none {l : List UInt8} (h : ∀ b ∈ l, b ≠ 44) : cutAt l = [l] := by
  induction l with
  | nil => rfl
  | cons b r ih =>
    rw [cutAt, if_neg (h b (by simp)), ih fun x hx => h x (by simp [hx])]
    rfl
theorem cut_comma {p r : List UInt8} (h : ∀ b ∈ p, b ≠ 44) : cutAt (p ++ 44 :: r) = p :: cutAt r := by
  induction p with
  | nil => rw [List.nil_append, cutAt, if_pos rfl]
  | cons b q ih =>
    rw [List.cons_append, cutAt, if_neg (h b (by simp)), ih fun x hx => h x (by simp [hx])]
    rfl

theorem index_44 (r : List UInt8) : Lib.index (44 :: r) [44] = 0 := by simp [Lib.index]
theorem index_ne {b : UInt8} (r : List UInt8) (h : b ≠ 44) : Lib.index (b :: r) [44] = if Lib.index r [44] == -1 then -1 else Lib.index r [44] + 1 := by
  have hp : ([44] : List UInt8).isPrefixOf (b :: r) = false := by simp [List.isPrefixOf, Ne.symm h]
  rw [Lib.index, hp]
  simp

theorem split_cut : ∀ l : List UInt8, Lib.splitK [44] 0 (Lib.count l [44]) l = cutAt l
  | [] => by
    have : Lib.count [] [44] = 0 := by decide
    rw [this]
    rfl
  | b :: r => by
    have ih := split_cut r
    by_cases h : b = 44
    · subst h
      rw [Lib.count_cons_eq, Nat.add_comm 1, Lib.splitK, index_44]
      rw [if_neg (by decide), cutAt, if_pos rfl]
      simpa using ih
    · rw [Lib.count_cons_ne b 44 r h, cutAt, if_neg h, ← ih]
      generalize Lib.count r [44] = k
      cases k with
      | zero => rfl
      | succ k =>
        rw [Lib.splitK, Lib.splitK, index_ne r h]
        by_cases hi : Lib.index r [44] = -1
        · rw [hi]
          rfl
        · have hge := Lib.index_ge r [44]
          have e1 : (Lib.index r [44] == -1) = false := by simpa using hi
          rw [e1]
          simp only [Bool.false_eq_true, if_false]
          have e2 : (Lib.index r [44] + 1 == -1) = false := by
            rw [beq_eq_false_iff_ne]
            omega
          rw [e2]
          simp only [Bool.false_eq_true, if_false]
          obtain ⟨j, hj⟩ : ∃ j : Nat, Lib.index r [44] = j := ⟨(Lib.index r [44]).toNat, by omega⟩
          rw [hj]
          have e3 : ((j : Int) + 1).toNat = j + 1 := by omega
          have e4 : (j : Int).toNat = j := by omega
          rw [e3, e4]
          simp [ahead]

/-- The parts without white at their ends, without the empty ones. -/
def clean (ps : List (List UInt8)) : List (List UInt8) := (ps.map trim).filter fun p => !p.isEmpty
def listOf (l : List UInt8) : List (List UInt8) := clean (cutAt l)

theorem clean_append (a b : List (List UInt8)) : clean (a ++ b) = clean a ++ clean b := by simp [clean]
theorem clean_one (p : List UInt8) : clean [p] = if (trim p).isEmpty then [] else [trim p] := by
  unfold clean
  by_cases h : (trim p).isEmpty = true
  · simp [h]
  · simp [h]
theorem clean_cons (p : List UInt8) (q : List (List UInt8)) : clean (p :: q) = clean [p] ++ clean q := clean_append [p] q

/-- Texts of lists of bytes. -/
def mk (l : List UInt8) : ByteArray := ⟨l.toArray⟩
theorem mk_inj {a b : List UInt8} (h : mk a = mk b) : a = b := by
  have := congrArg (fun t : ByteArray => t.data.toList) h
  simpa [mk] using this
theorem mk_list (l : List UInt8) : (mk l).data.toList = l := by simp [mk]
theorem mk_of (s : ByteArray) : mk s.data.toList = s := Lib.mk_data s
theorem mk_size (l : List UInt8) : (mk l).size = l.length := by rw [size_len, mk_list]

theorem split_parts (s : ByteArray) : Lib.splitB ⟨#[44]⟩ 0 (Lib.countB s ⟨#[44]⟩) s = (cutAt s.data.toList).map mk := by
  have h := Lib.splitB_data ⟨#[44]⟩ 0 (Lib.countB s ⟨#[44]⟩) s
  have h2 : Lib.splitK [44] 0 (Lib.count s.data.toList [44]) s.data.toList = cutAt s.data.toList := split_cut _
  have h3 : (Lib.splitB ⟨#[44]⟩ 0 (Lib.countB s ⟨#[44]⟩) s).map (·.data.toList) = cutAt s.data.toList := h.trans h2
  rw [← h3, List.map_map]
  conv => lhs; rw [← List.map_id (Lib.splitB ⟨#[44]⟩ 0 (Lib.countB s ⟨#[44]⟩) s)]
  apply List.map_congr_left
  intro t _
  exact (mk_of t).symm
theorem split_many (s : ByteArray) : Lib.countB s ⟨#[44]⟩ + 1 = (cutAt s.data.toList).length := by
  have := Lib.splitB_all ⟨#[44]⟩ (by decide) 0 _ s rfl
  rw [split_parts, List.length_map] at this
  exact this.symm

theorem cut_pos (l : List UInt8) : 0 < (cutAt l).length := by
  cases l with
  | nil => simp [cutAt]
  | cons b r =>
    rw [cutAt]
    split
    · simp
    · cases cutAt r <;> simp [ahead]
theorem cut_len (l : List UInt8) : (cutAt l).length ≤ l.length + 1 := by
  induction l with
  | nil => simp [cutAt]
  | cons b r ih =>
    rw [cutAt]
    split
    · simpa using ih
    · cases h : cutAt r with
      | nil => simp [ahead]
      | cons p q => rw [h] at ih; simp [ahead] at ih ⊢; omega
theorem clean_len (ps : List (List UInt8)) : (clean ps).length ≤ ps.length := by
  unfold clean
  exact Nat.le_trans (List.length_filter_le _ _) (by simp)
theorem cut_part_le {l : List UInt8} : ∀ p ∈ cutAt l, p.length ≤ l.length := by
  induction l with
  | nil => intro p hp; simp [cutAt] at hp; simp [hp]
  | cons b r ih =>
    intro p hp
    rw [cutAt] at hp
    split at hp
    · rcases List.mem_cons.1 hp with rfl | hp
      · simp
      · have := ih p hp; simp; omega
    · cases h : cutAt r with
      | nil => rw [h] at hp; simp [ahead] at hp; simp [hp]
      | cons q t =>
        rw [h] at hp ih
        simp only [ahead, List.mem_cons] at hp
        rcases hp with rfl | hp
        · have := ih q (by simp); simp; exact this
        · have := ih p (by simp [hp]); simp; omega
end Go.Proofs.Ytlmchoonokglaaa
