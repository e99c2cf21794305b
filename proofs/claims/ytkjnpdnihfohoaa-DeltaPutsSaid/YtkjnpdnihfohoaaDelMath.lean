/-
  Plain facts on the difference between two lists of headers, and on the bytes by which it is told. No program is spoken of; no condition beyond those that each theorem states.
-/
import Derived.Test.YtkjnpdnihfohoaaHeadHd
import Derived.Test.YtkjnpdnihfohoaaTabMath
namespace Go.Proofs.Ytkjnpdnihfohoaa
open Go.Lib Leb

/-- How many headers are alike from the front on. -/
def common : List Hd → List Hd → Nat
  | x :: xs, y :: ys => if x = y then common xs ys + 1 else 0
  | _, _ => 0
theorem common_le : ∀ (w l : List Hd), common w l ≤ w.length ∧ common w l ≤ l.length := by
  intro w
  induction w with
  | nil => intro l; simp [common]
  | cons x xs ih =>
    intro l
    cases l with
    | nil => simp [common]
    | cons y ys =>
      have h := ih ys
      unfold common
      simp only [List.length_cons]
      split <;> omega
theorem common_is : ∀ (w l : List Hd) (k : Nat), k ≤ w.length → k ≤ l.length → (∀ j, j < k → w[j]? = l[j]?) → (k = w.length ∨ k = l.length ∨ w[k]? ≠ l[k]?) → common w l = k := by
  intro w
  induction w with
  | nil => intro l k h _ _ _; simp at h; subst h; simp [common]
  | cons x xs ih =>
    intro l k h1 h2 h3 h4
    cases l with
    | nil => simp at h2; subst h2; simp [common]
    | cons y ys =>
      cases k with
      | zero =>
        unfold common
        rw [if_neg]
        intro e
        subst e
        simp at h4
      | succ k =>
        have h0 := h3 0 (by omega)
        simp at h0
        subst h0
        unfold common
        rw [if_pos rfl]
        congr 1
        refine ih ys k (by simpa using h1) (by simpa using h2) (fun j hj => by have := h3 (j + 1) (by omega); simpa using this) ?_
        simpa using h4

/-- A and B of the difference. -/
def endA (w l : List Hd) : Nat := common w l
def endB (w l : List Hd) : Nat := common (w.drop (endA w l)).reverse (l.drop (endA w l)).reverse
theorem ends_le (w l : List Hd) : endA w l + endB w l ≤ w.length ∧ endA w l + endB w l ≤ l.length := by
  have h1 := common_le w l
  have h2 := common_le (w.drop (endA w l)).reverse (l.drop (endA w l)).reverse
  rw [List.length_reverse, List.length_reverse, List.length_drop, List.length_drop] at h2
  unfold endB
  unfold endA at h2 ⊢
  omega
theorem rev_at {l : List Hd} {a j : Nat} (h : a + j < l.length) : (l.drop a).reverse[j]? = l[l.length - 1 - j]? := by
  rw [List.getElem?_reverse (by rw [List.length_drop]; omega), List.length_drop, List.getElem?_drop]
  congr 1
  omega
theorem endB_is (w l : List Hd) (a k : Nat) (ha : endA w l = a) (h1 : a + k ≤ w.length) (h2 : a + k ≤ l.length) (h3 : ∀ j, j < k → w[w.length - 1 - j]? = l[l.length - 1 - j]?) (h4 : a + k = w.length ∨ a + k = l.length ∨ w[w.length - 1 - k]? ≠ l[l.length - 1 - k]?) : endB w l = k := by
  unfold endB
  rw [ha]
  refine common_is _ _ k (by rw [List.length_reverse, List.length_drop]; omega) (by rw [List.length_reverse, List.length_drop]; omega) (fun j hj => ?_) ?_
  · rw [rev_at (by omega), rev_at (by omega)]
    exact h3 j hj
  · rw [List.length_reverse, List.length_drop, List.length_reverse, List.length_drop]
    by_cases e1 : a + k = w.length
    · exact .inl (by omega)
    · by_cases e2 : a + k = l.length
      · exact .inr (.inl (by omega))
      · refine .inr (.inr ?_)
        rw [rev_at (by omega), rev_at (by omega)]
        rcases h4 with h | h | h
        · exact absurd h e1
        · exact absurd h e2
        · exact h

/-- The texts of headers, names and values in turn. -/
def txs : List Hd → List (List UInt8)
  | [] => []
  | h :: r => h.1.data.toList :: h.2.data.toList :: txs r
theorem txs_append (a b : List Hd) : txs (a ++ b) = txs a ++ txs b := by
  induction a with
  | nil => rfl
  | cons h r ih => simp [txs, ih]
theorem txs_len (a : List Hd) : (txs a).length = 2 * a.length := by
  induction a with
  | nil => rfl
  | cons h r ih => simp only [txs, List.length_cons, ih]; omega

/-- The new headers. -/
def fresh (w l : List Hd) : List Hd := (l.drop (endA w l)).take (l.length - endA w l - endB w l)
theorem fresh_len (w l : List Hd) : (fresh w l).length = l.length - endA w l - endB w l := by
  unfold fresh
  rw [List.length_take, List.length_drop]
  omega
/-- What Put writes, and the table behind it. -/
def dputH (w l : List Hd) : List Int := enc (endA w l) ++ enc (endB w l) ++ enc (l.length - endA w l - endB w l)
def dputB (t : List (List UInt8)) (w l : List Hd) : List Int := dputH w l ++ putsB t (txs (fresh w l))
def dputL (t : List (List UInt8)) (w l : List Hd) : List (List UInt8) := putsL t (txs (fresh w l))
theorem dputH_len (w l : List Hd) (hw : w.length ≤ 1000) (hl : l.length ≤ 1000) : (dputH w l).length ≤ 30 := by
  have h := ends_le w l
  have h1 := size_le10 (n := endA w l) (by omega)
  have h2 := size_le10 (n := endB w l) (by omega)
  have h3 := size_le10 (n := l.length - endA w l - endB w l) (by omega)
  unfold size at h1 h2 h3
  unfold dputH
  simp only [List.length_append]
  omega
theorem dputH_bytes (w l : List Hd) : Bytes (dputH w l) := ((enc_bytes _).append (enc_bytes _)).append (enc_bytes _)
theorem puts_step (t : List (List UInt8)) {l : List Hd} {k : Nat} {x y : ByteArray} (h : l[k]? = some (x, y)) :
    putsB t (txs (l.take (k + 1))) = putsB t (txs (l.take k)) ++ putB (putsL t (txs (l.take k))) x.data.toList ++ putB (putL (putsL t (txs (l.take k))) x.data.toList) y.data.toList ∧
    putsL t (txs (l.take (k + 1))) = putL (putL (putsL t (txs (l.take k))) x.data.toList) y.data.toList := by
  have h1 : l.take (k + 1) = l.take k ++ [(x, y)] := by rw [List.take_add_one, h]; rfl
  have h2 : txs (l.take (k + 1)) = txs (l.take k) ++ [x.data.toList] ++ [y.data.toList] := by rw [h1, txs_append]; simp [txs]
  rw [h2]
  constructor
  · rw [putsB_snoc, putsB_snoc, putsL_snoc]
  · rw [putsL_snoc, putsL_snoc]

/-- Where Take stands among the new headers: those that it has, its place, the error, the table. -/
structure DS where
  hs : List Hd
  q : Int
  e : Int
  t : List (List UInt8)
def hstep (X : List Int) (s : DS) : DS :=
  if s.e ≠ 0 then s
  else if (takeB s.t X s.q).2.2 ≠ 0 then ⟨s.hs, 0, (takeB s.t X s.q).2.2, takeL s.t X s.q⟩
  else if (takeB (takeL s.t X s.q) X (takeB s.t X s.q).2.1).2.2 ≠ 0 then ⟨s.hs, 0, (takeB (takeL s.t X s.q) X (takeB s.t X s.q).2.1).2.2, takeL (takeL s.t X s.q) X (takeB s.t X s.q).2.1⟩
  else ⟨s.hs ++ [(⟨(takeB s.t X s.q).1.toArray⟩, ⟨(takeB (takeL s.t X s.q) X (takeB s.t X s.q).2.1).1.toArray⟩)], (takeB (takeL s.t X s.q) X (takeB s.t X s.q).2.1).2.1, 0, takeL (takeL s.t X s.q) X (takeB s.t X s.q).2.1⟩
def hsteps (X : List Int) (s : DS) : Nat → DS
  | 0 => s
  | k + 1 => hstep X (hsteps X s k)
theorem hsteps_bad {X : List Int} {s : DS} {k : Nat} (h : (hsteps X s k).e ≠ 0) : ∀ j, hsteps X s (k + j) = hsteps X s k := by
  intro j
  induction j with
  | zero => rfl
  | succ j ih =>
    show hstep X (hsteps X s (k + j)) = _
    rw [ih]
    exact if_pos h
theorem hsteps_end {X : List Int} {s : DS} {k n : Nat} (h : (hsteps X s k).e ≠ 0) (hk : k ≤ n) : hsteps X s n = hsteps X s k := by
  have := hsteps_bad h (n - k)
  rwa [Nat.add_sub_cancel' hk] at this
section
variable {X : List Int} {s : DS} {x y : List UInt8} {q1 q2 e1 e2 : Int} {t1 t2 : List (List UInt8)}
theorem hstep_e1 (h : s.e = 0) (h1 : takeB s.t X s.q = (x, q1, e1)) (ht : takeL s.t X s.q = t1) (he : e1 ≠ 0) : hstep X s = ⟨s.hs, 0, e1, t1⟩ := by
  unfold hstep
  rw [if_neg (fun h' => h' h), h1, ht]
  exact if_pos he
theorem hstep_e2 (h : s.e = 0) (h1 : takeB s.t X s.q = (x, q1, 0)) (ht : takeL s.t X s.q = t1) (h2 : takeB t1 X q1 = (y, q2, e2)) (ht2 : takeL t1 X q1 = t2) (he : e2 ≠ 0) : hstep X s = ⟨s.hs, 0, e2, t2⟩ := by
  unfold hstep
  rw [if_neg (fun h' => h' h), h1, ht]
  simp only
  rw [if_neg (by simp), h2, ht2]
  exact if_pos he
theorem hstep_ok (h : s.e = 0) (h1 : takeB s.t X s.q = (x, q1, 0)) (ht : takeL s.t X s.q = t1) (h2 : takeB t1 X q1 = (y, q2, 0)) (ht2 : takeL t1 X q1 = t2) : hstep X s = ⟨s.hs ++ [(⟨x.toArray⟩, ⟨y.toArray⟩)], q2, 0, t2⟩ := by
  unfold hstep
  rw [if_neg (fun h' => h' h), h1, ht]
  simp only
  rw [if_neg (by simp), h2, ht2]
  exact if_neg (by simp)
end

/-- What Take answers, and the table behind it. -/
def dend (w : List Hd) (a b : Nat) (s : DS) : (List Hd × Int × Int) × List (List UInt8) :=
  if s.e ≠ 0 then (([], 0, s.e), s.t)
  else if endA w (w.take a ++ s.hs ++ w.drop (w.length - b)) ≠ a ∨ endB w (w.take a ++ s.hs ++ w.drop (w.length - b)) ≠ b then (([], 0, 4), s.t)
  else ((w.take a ++ s.hs ++ w.drop (w.length - b), s.q, 0), s.t)
def dmid (t : List (List UInt8)) (X : List Int) (w : List Hd) (a b c : Nat) (q : Int) : (List Hd × Int × Int) × List (List UInt8) :=
  if w.length < a + b then (([], 0, 5), t)
  else if 25 < a + b + c then (([], 0, 2), t)
  else dend w a b (hsteps X ⟨[], q, 0, t⟩ c)
def dtake (t : List (List UInt8)) (X : List Int) (p : Int) (w : List Hd) : (List Hd × Int × Int) × List (List UInt8) :=
  if (take X p).2.2 ≠ 0 then (([], 0, (take X p).2.2), t)
  else if (take X (take X p).2.1).2.2 ≠ 0 then (([], 0, (take X (take X p).2.1).2.2), t)
  else if (take X (take X (take X p).2.1).2.1).2.2 ≠ 0 then (([], 0, (take X (take X (take X p).2.1).2.1).2.2), t)
  else dmid t X w (take X p).1 (take X (take X p).2.1).1 (take X (take X (take X p).2.1).2.1).1 (take X (take X (take X p).2.1).2.1).2.1
section
variable {t : List (List UInt8)} {X : List Int} {p : Int} {w : List Hd} {a b c : Nat} {q1 q2 q3 e : Int}
theorem dtake_e1 (h1 : take X p = (a, q1, e)) (he : e ≠ 0) : dtake t X p w = (([], 0, e), t) := by
  unfold dtake
  rw [h1]
  exact if_pos he
theorem dtake_e2 (h1 : take X p = (a, q1, 0)) (h2 : take X q1 = (b, q2, e)) (he : e ≠ 0) : dtake t X p w = (([], 0, e), t) := by
  unfold dtake
  rw [h1]
  simp only
  rw [if_neg (by simp), h2]
  exact if_pos he
theorem dtake_e3 (h1 : take X p = (a, q1, 0)) (h2 : take X q1 = (b, q2, 0)) (h3 : take X q2 = (c, q3, e)) (he : e ≠ 0) : dtake t X p w = (([], 0, e), t) := by
  unfold dtake
  rw [h1]
  simp only
  rw [if_neg (by simp), h2]
  simp only
  rw [if_neg (by simp), h3]
  exact if_pos he
theorem dtake_mid (h1 : take X p = (a, q1, 0)) (h2 : take X q1 = (b, q2, 0)) (h3 : take X q2 = (c, q3, 0)) : dtake t X p w = dmid t X w a b c q3 := by
  unfold dtake
  rw [h1]
  simp only
  rw [if_neg (by simp), h2]
  simp only
  rw [if_neg (by simp), h3]
  exact if_neg (by simp)
theorem dmid_none (h : w.length < a + b) : dmid t X w a b c q3 = (([], 0, 5), t) := if_pos h
theorem dmid_over (h : a + b ≤ w.length) (h2 : 25 < a + b + c) : dmid t X w a b c q3 = (([], 0, 2), t) := by
  unfold dmid
  rw [if_neg (by omega)]
  exact if_pos h2
theorem dmid_on (h : a + b ≤ w.length) (h2 : a + b + c ≤ 25) : dmid t X w a b c q3 = dend w a b (hsteps X ⟨[], q3, 0, t⟩ c) := by
  unfold dmid
  rw [if_neg (by omega)]
  exact if_neg (by omega)
theorem dend_bad {s : DS} (h : s.e ≠ 0) : dend w a b s = (([], 0, s.e), s.t) := if_pos h
theorem dend_form {s : DS} (h : s.e = 0) (h2 : endA w (w.take a ++ s.hs ++ w.drop (w.length - b)) ≠ a ∨ endB w (w.take a ++ s.hs ++ w.drop (w.length - b)) ≠ b) : dend w a b s = (([], 0, 4), s.t) := by
  unfold dend
  rw [if_neg (fun h' => h' h)]
  exact if_pos h2
theorem dend_ok {s : DS} (h : s.e = 0) (h2 : endA w (w.take a ++ s.hs ++ w.drop (w.length - b)) = a) (h3 : endB w (w.take a ++ s.hs ++ w.drop (w.length - b)) = b) : dend w a b s = ((w.take a ++ s.hs ++ w.drop (w.length - b), s.q, 0), s.t) := by
  unfold dend
  rw [if_neg (fun h' => h' h)]
  exact if_neg (fun h' => Or.elim h' (fun h' => h' h2) (fun h' => h' h3))
end
end Go.Proofs.Ytkjnpdnihfohoaa
