/-
  Texts of one sort, one behind the other: numbers, memory, regions, strings, headers. Conditions: those that each theorem states.
-/
import Derived.Lib.Join
import Derived.Test.YtodncamohimmmaaLow2
import Derived.Lib.SlTrimSet
import Derived.Lib.IndexBytes
import Derived.Lib.SplitLaws
import Derived.RegionTactic
import Derived.Shelf.Lay
import Derived.Orders
import Derived.RangeFuncNested
import Derived.RangeFuncBound
import Derived.RangeFuncCalls
import Derived.RangeFuncLeaves
import Derived.RangeFuncBox
import Derived.Shelf.Abstract
import Derived.OrdersIn
import Derived.Laws.Rows
import Derived.TacticsIn
import Derived.OwnWalkIn
import Derived.TacticsInMore
import Derived.LoopNIn
import Derived.LoopIn
import Derived.Maps.OwnSet

namespace Go.Proofs.Ytodncamohimmmaa

abbrev Hd := ByteArray × ByteArray
end Go.Proofs.Ytodncamohimmmaa

namespace Go.Proofs.Ytodncamohimmmaa
open Go.Lib Leb

def common : List Hd → List Hd → Nat
  | x :: xs, y :: ys => if x = y then common xs ys + 1 else 0
  | _, _ => 0
theorem common_le : ∀ (w l : List Hd), common w l ≤ w.length ∧ common w l ≤ l.length := by
  intro w
  induction w with
  | nil => intro l; simp [common]
  | cons x xs ih =>
    intro l
    cases l with
    | nil => simp [common]
    | cons y ys =>
      have h := ih ys
      unfold common
      simp only [List.length_cons]
      split <;> omega
theorem common_is : ∀ (w l : List Hd) (k : Nat), k ≤ w.length → k ≤ l.length → (∀ j, j < k → w[j]? = l[j]?) → (k = w.length ∨ k = l.length ∨ w[k]? ≠ l[k]?) → common w l = k := by
  intro w
  induction w with
  | nil => intro l k h _ _ _; simp at h; subst h; simp [common]
  | cons x xs ih =>
    intro l k h1 h2 h3 h4
    cases l with
    | nil => simp at h2; subst h2; simp [common]
    | cons y ys =>
      cases k with
      | zero =>
        unfold common
        rw [if_neg]
        intro e
        subst e
        simp at h4
      | succ k =>
        have h0 := h3 0 (by omega)
        simp at h0
        subst h0
        unfold common
        rw [if_pos rfl]
        congr 1
        refine ih ys k (by simpa using h1) (by simpa using h2) (fun j hj => by have := h3 (j + 1) (by omega); simpa using this) ?_
        simpa using h4

def endA (w l : List Hd) : Nat := common w l
def endB (w l : List Hd) : Nat := common (w.drop (endA w l)).reverse (l.drop (endA w l)).reverse
theorem ends_le (w l : List Hd) : endA w l + endB w l ≤ w.length ∧ endA w l + endB w l ≤ l.length := by
  have h1 := common_le w l
  have h2 := common_le (w.drop (endA w l)).reverse (l.drop (endA w l)).reverse
  rw [List.length_reverse, List.length_reverse, List.length_drop, List.length_drop] at h2
  unfold endB
  unfold endA at h2 ⊢
  omega
theorem rev_at {l : List Hd} {a j : Nat} (h : a + j < l.length) : (l.drop a).reverse[j]? = l[l.length - 1 - j]? := by
  rw [List.getElem?_reverse (by rw [List.length_drop]; omega), List.length_drop, List.getElem?_drop]
  congr 1
  omega
theorem endB_is (w l : List Hd) (a k : Nat) (ha : endA w l = a) (h1 : a + k ≤ w.length) (h2 : a + k ≤ l.length) (h3 : ∀ j, j < k → w[w.length - 1 - j]? = l[l.length - 1 - j]?) (h4 : a + k = w.length ∨ a + k = l.length ∨ w[w.length - 1 - k]? ≠ l[l.length - 1 - k]?) : endB w l = k := by
  unfold endB
  rw [ha]
  refine common_is _ _ k (by rw [List.length_reverse, List.length_drop]; omega) (by rw [List.length_reverse, List.length_drop]; omega) (fun j hj => ?_) ?_
  · rw [rev_at (by omega), rev_at (by omega)]
    exact h3 j hj
  · rw [List.length_reverse, List.length_drop, List.length_reverse, List.length_drop]
    by_cases e1 : a + k = w.length
    · exact .inl (by omega)
    · by_cases e2 : a + k = l.length
      · exact .inr (.inl (by omega))
      · refine .inr (.inr ?_)
        rw [rev_at (by omega), rev_at (by omega)]
        rcases h4 with h | h | h
        · exact absurd h e1
        · exact absurd h e2
        · exact h

def txs : List Hd → List (List UInt8)
  | [] => []
  | h :: r => h.1.data.toList :: h.2.data.toList :: txs r
theorem txs_append (a b : List Hd) : txs (a ++ b) = txs a ++ txs b := by
  induction a with
  | nil => rfl
  | cons h r ih => simp [txs, ih]
theorem txs_len (a : List Hd) : (txs a).length = 2 * a.length := by
  induction a with
  | nil => rfl
  | cons h r ih => simp only [txs, List.length_cons, ih]; omega

def fresh (w l : List Hd) : List Hd := (l.drop (endA w l)).take (l.length - endA w l - endB w l)
theorem fresh_len (w l : List Hd) : (fresh w l).length = l.length - endA w l - endB w l := by
  unfold fresh
  rw [List.length_take, List.length_drop]
  omega
def dputH (w l : List Hd) : List Int := enc (endA w l) ++ enc (endB w l) ++ enc (l.length - endA w l - endB w l)
def dputB (t : List (List UInt8)) (w l : List Hd) : List Int := dputH w l ++ putsB t (txs (fresh w l))
def dputL (t : List (List UInt8)) (w l : List Hd) : List (List UInt8) := putsL t (txs (fresh w l))
theorem dputH_len (w l : List Hd) (hw : w.length ≤ 1000) (hl : l.length ≤ 1000) : (dputH w l).length ≤ 30 := by
  have h := ends_le w l
  have h1 := size_le10 (n := endA w l) (by omega)
  have h2 := size_le10 (n := endB w l) (by omega)
  have h3 := size_le10 (n := l.length - endA w l - endB w l) (by omega)
  unfold size at h1 h2 h3
  unfold dputH
  simp only [List.length_append]
  omega
theorem puts_step (t : List (List UInt8)) {l : List Hd} {k : Nat} {x y : ByteArray} (h : l[k]? = some (x, y)) :
    putsB t (txs (l.take (k + 1))) = putsB t (txs (l.take k)) ++ putB (putsL t (txs (l.take k))) x.data.toList ++ putB (putL (putsL t (txs (l.take k))) x.data.toList) y.data.toList ∧
    putsL t (txs (l.take (k + 1))) = putL (putL (putsL t (txs (l.take k))) x.data.toList) y.data.toList := by
  have h1 : l.take (k + 1) = l.take k ++ [(x, y)] := by rw [List.take_add_one, h]; rfl
  have h2 : txs (l.take (k + 1)) = txs (l.take k) ++ [x.data.toList] ++ [y.data.toList] := by rw [h1, txs_append]; simp [txs]
  rw [h2]
  constructor
  · rw [putsB_snoc, putsB_snoc, putsL_snoc]
  · rw [putsL_snoc, putsL_snoc]

structure DS where
  hs : List Hd
  q : Int
  e : Int
  t : List (List UInt8)
def hstep (X : List Int) (s : DS) : DS :=
  if s.e ≠ 0 then s
  else if (takeB s.t X s.q).2.2 ≠ 0 then ⟨s.hs, 0, (takeB s.t X s.q).2.2, takeL s.t X s.q⟩
  else if (takeB (takeL s.t X s.q) X (takeB s.t X s.q).2.1).2.2 ≠ 0 then ⟨s.hs, 0, (takeB (takeL s.t X s.q) X (takeB s.t X s.q).2.1).2.2, takeL (takeL s.t X s.q) X (takeB s.t X s.q).2.1⟩
  else ⟨s.hs ++ [(⟨(takeB s.t X s.q).1.toArray⟩, ⟨(takeB (takeL s.t X s.q) X (takeB s.t X s.q).2.1).1.toArray⟩)], (takeB (takeL s.t X s.q) X (takeB s.t X s.q).2.1).2.1, 0, takeL (takeL s.t X s.q) X (takeB s.t X s.q).2.1⟩
def hsteps (X : List Int) (s : DS) : Nat → DS
  | 0 => s
  | k + 1 => hstep X (hsteps X s k)
theorem hsteps_bad {X : List Int} {s : DS} {k : Nat} (h : (hsteps X s k).e ≠ 0) : ∀ j, hsteps X s (k + j) = hsteps X s k := by
  intro j
  induction j with
  | zero => rfl
  | succ j ih =>
    show hstep X (hsteps X s (k + j)) = _
    rw [ih]
    exact if_pos h
theorem hsteps_end {X : List Int} {s : DS} {k n : Nat} (h : (hsteps X s k).e ≠ 0) (hk : k ≤ n) : hsteps X s n = hsteps X s k := by
  have := hsteps_bad h (n - k)
  rwa [Nat.add_sub_cancel' hk] at this
section
variable {X : List Int} {s : DS} {x y : List UInt8} {q1 q2 e1 e2 : Int} {t1 t2 : List (List UInt8)}
theorem hstep_e1 (h : s.e = 0) (h1 : takeB s.t X s.q = (x, q1, e1)) (ht : takeL s.t X s.q = t1) (he : e1 ≠ 0) : hstep X s = ⟨s.hs, 0, e1, t1⟩ := by
  unfold hstep
  rw [if_neg (fun h' => h' h), h1, ht]
  exact if_pos he
theorem hstep_e2 (h : s.e = 0) (h1 : takeB s.t X s.q = (x, q1, 0)) (ht : takeL s.t X s.q = t1) (h2 : takeB t1 X q1 = (y, q2, e2)) (ht2 : takeL t1 X q1 = t2) (he : e2 ≠ 0) : hstep X s = ⟨s.hs, 0, e2, t2⟩ := by
  unfold hstep
  rw [if_neg (fun h' => h' h), h1, ht]
  simp only
  rw [if_neg (by simp), h2, ht2]
  exact if_pos he
theorem hstep_ok (h : s.e = 0) (h1 : takeB s.t X s.q = (x, q1, 0)) (ht : takeL s.t X s.q = t1) (h2 : takeB t1 X q1 = (y, q2, 0)) (ht2 : takeL t1 X q1 = t2) : hstep X s = ⟨s.hs ++ [(⟨x.toArray⟩, ⟨y.toArray⟩)], q2, 0, t2⟩ := by
  unfold hstep
  rw [if_neg (fun h' => h' h), h1, ht]
  simp only
  rw [if_neg (by simp), h2, ht2]
  exact if_neg (by simp)
end

def dend (w : List Hd) (a b : Nat) (s : DS) : (List Hd × Int × Int) × List (List UInt8) :=
  if s.e ≠ 0 then (([], 0, s.e), s.t)
  else if endA w (w.take a ++ s.hs ++ w.drop (w.length - b)) ≠ a ∨ endB w (w.take a ++ s.hs ++ w.drop (w.length - b)) ≠ b then (([], 0, 4), s.t)
  else ((w.take a ++ s.hs ++ w.drop (w.length - b), s.q, 0), s.t)
def dmid (t : List (List UInt8)) (X : List Int) (w : List Hd) (a b c : Nat) (q : Int) : (List Hd × Int × Int) × List (List UInt8) :=
  if w.length < a + b then (([], 0, 5), t)
  else if 25 < a + b + c then (([], 0, 2), t)
  else dend w a b (hsteps X ⟨[], q, 0, t⟩ c)
def dtake (t : List (List UInt8)) (X : List Int) (p : Int) (w : List Hd) : (List Hd × Int × Int) × List (List UInt8) :=
  if (take X p).2.2 ≠ 0 then (([], 0, (take X p).2.2), t)
  else if (take X (take X p).2.1).2.2 ≠ 0 then (([], 0, (take X (take X p).2.1).2.2), t)
  else if (take X (take X (take X p).2.1).2.1).2.2 ≠ 0 then (([], 0, (take X (take X (take X p).2.1).2.1).2.2), t)
  else dmid t X w (take X p).1 (take X (take X p).2.1).1 (take X (take X (take X p).2.1).2.1).1 (take X (take X (take X p).2.1).2.1).2.1
section
variable {t : List (List UInt8)} {X : List Int} {p : Int} {w : List Hd} {a b c : Nat} {q1 q2 q3 e : Int}
theorem dtake_e1 (h1 : take X p = (a, q1, e)) (he : e ≠ 0) : dtake t X p w = (([], 0, e), t) := by
  unfold dtake
  rw [h1]
  exact if_pos he
theorem dtake_e2 (h1 : take X p = (a, q1, 0)) (h2 : take X q1 = (b, q2, e)) (he : e ≠ 0) : dtake t X p w = (([], 0, e), t) := by
  unfold dtake
  rw [h1]
  simp only
  rw [if_neg (by simp), h2]
  exact if_pos he
theorem dtake_e3 (h1 : take X p = (a, q1, 0)) (h2 : take X q1 = (b, q2, 0)) (h3 : take X q2 = (c, q3, e)) (he : e ≠ 0) : dtake t X p w = (([], 0, e), t) := by
  unfold dtake
  rw [h1]
  simp only
  rw [if_neg (by simp), h2]
  simp only
  rw [if_neg (by simp), h3]
  exact if_pos he
theorem dtake_mid (h1 : take X p = (a, q1, 0)) (h2 : take X q1 = (b, q2, 0)) (h3 : take X q2 = (c, q3, 0)) : dtake t X p w = dmid t X w a b c q3 := by
  unfold dtake
  rw [h1]
  simp only
  rw [if_neg (by simp), h2]
  simp only
  rw [if_neg (by simp), h3]
  exact if_neg (by simp)
theorem dmid_none (h : w.length < a + b) : dmid t X w a b c q3 = (([], 0, 5), t) := if_pos h
theorem dmid_over (h : a + b ≤ w.length) (h2 : 25 < a + b + c) : dmid t X w a b c q3 = (([], 0, 2), t) := by
  unfold dmid
  rw [if_neg (by omega)]
  exact if_pos h2
theorem dmid_on (h : a + b ≤ w.length) (h2 : a + b + c ≤ 25) : dmid t X w a b c q3 = dend w a b (hsteps X ⟨[], q3, 0, t⟩ c) := by
  unfold dmid
  rw [if_neg (by omega)]
  exact if_neg (by omega)
theorem dend_bad {s : DS} (h : s.e ≠ 0) : dend w a b s = (([], 0, s.e), s.t) := if_pos h
theorem dend_form {s : DS} (h : s.e = 0) (h2 : endA w (w.take a ++ s.hs ++ w.drop (w.length - b)) ≠ a ∨ endB w (w.take a ++ s.hs ++ w.drop (w.length - b)) ≠ b) : dend w a b s = (([], 0, 4), s.t) := by
  unfold dend
  rw [if_neg (fun h' => h' h)]
  exact if_pos h2
theorem dend_ok {s : DS} (h : s.e = 0) (h2 : endA w (w.take a ++ s.hs ++ w.drop (w.length - b)) = a) (h3 : endB w (w.take a ++ s.hs ++ w.drop (w.length - b)) = b) : dend w a b s = ((w.take a ++ s.hs ++ w.drop (w.length - b), s.q, 0), s.t) := by
  unfold dend
  rw [if_neg (fun h' => h' h)]
  exact if_neg (fun h' => Or.elim h' (fun h' => h' h2) (fun h' => h' h3))
end
end Go.Proofs.Ytodncamohimmmaa

namespace Go.Proofs.Ytodncamohimmmaa
open Go.RowKit Go.Lib

def trim (l : List UInt8) : List UInt8 := Lib.trimS l [32, 9]
def white (b : UInt8) : Bool := [32, 9].contains b

def rtrim (l : List UInt8) : List UInt8 := (l.reverse.dropWhile white).reverse
def Lead (l : List UInt8) : Prop := ∀ h : 0 < l.length, white l[0] = false

theorem Lead.cut {l : List UInt8} (h : Lead l) (k : Nat) : Lead (l.take k) := fun hk => by
  rw [List.length_take] at hk
  rw [List.getElem_take]
  exact h (by omega)

def lenOf (v : Value) : Nat := match v with | .string t => t.size | _ => 0

end Go.Proofs.Ytodncamohimmmaa

namespace Go.Proofs.Ytodncamohimmmaa
open Go.Lib

def ahead (b : UInt8) : List (List UInt8) → List (List UInt8)
  | [] => [[b]]
  | p :: q => (b :: p) :: q

def cutAt : List UInt8 → List (List UInt8)
  | [] => [[]]
  | b :: r => if b = 44 then [] :: cutAt r else ahead b (cutAt r)

def clean (ps : List (List UInt8)) : List (List UInt8) := (ps.map trim).filter fun p => !p.isEmpty
def listOf (l : List UInt8) : List (List UInt8) := clean (cutAt l)

def mk (l : List UInt8) : ByteArray := ⟨l.toArray⟩
theorem mk_list (l : List UInt8) : (mk l).data.toList = l := by simp [mk]
theorem mk_of (s : ByteArray) : mk s.data.toList = s := Lib.mk_data s
theorem mk_size (l : List UInt8) : (mk l).size = l.length := by rw [size_len, mk_list]

end Go.Proofs.Ytodncamohimmmaa

namespace Go.Proofs.Ytodncamohimmmaa
open Go.RowKit Go.Lib Go.Shelf

structure Texts (w : World) (A : Option Addr) (n : Nat) (l : List (List UInt8)) : Prop where
  len : l.length = n
  cell : 0 < n → ∃ b, A = some ⟨b, 0, Option.none⟩ ∧ b < w.heap.size ∧ ∀ j, j < n → w.cell? ⟨b, j, Option.none⟩ = some (.string (mk (l[j]?.getD [])))

theorem Texts.later {w w' : World} {A : Option Addr} {n : Nat} {l : List (List UInt8)} (h : Texts w A n l) (hb : Below w.heap.size w w') : Texts w' A n l :=
  ⟨h.len, fun hn => by
    obtain ⟨b, e, hlt, hc⟩ := h.cell hn
    exact ⟨b, e, Nat.lt_of_lt_of_le hlt hb.size, fun j hj => cell_later hb (hc j hj)⟩⟩

def OwnsT (w : World) (base : Nat) (v : Value) (l : List (List UInt8)) : Prop := w.ownsRow base 9 1 v l.length (l.map fun p => Value.string (mk p))

theorem OwnsT.texts {w : World} {base : Nat} {v : Value} {l : List (List UInt8)} (h : OwnsT w base v l) : ∃ A c, v = .slice A l.length c ∧ Texts w A l.length l := by
  rcases h.2 with ⟨rfl, h0⟩ | ⟨g, cap, cur, rfl, hb, hg, hn, hm, hs, ht⟩
  · have hl : l = [] := List.eq_nil_of_length_eq_zero h0
    subst hl
    exact ⟨Option.none, 0, rfl, rfl, fun hn => absurd hn (by simp)⟩
  · refine ⟨_, cap, rfl, rfl, fun hp => ⟨g, rfl, ?_, fun j hj => ?_⟩⟩
    · rcases Nat.lt_or_ge g w.heap.size with hlt | hge
      · exact hlt
      · rw [Array.getElem?_eq_none hge] at hg; cases hg
    · have := (World.ownsRow.cells h (g := g) rfl) j (.string (mk (l[j]?.getD []))) (by simp [List.getElem?_eq_getElem hj])
      rwa [addr_add, Nat.zero_add] at this
theorem OwnsT.alloc {w : World} {base : Nat} {v : Value} {l : List (List UInt8)} (h : OwnsT w base v l) (o : Obj) : OwnsT (w.alloc o) base v l := World.ownsRow.alloc h o
theorem OwnsT.kept {w w' : World} {base : Nat} {v : Value} {l : List (List UInt8)} {B : Nat} (h : OwnsT w base v l) (hb : Below B w w') (hB : w.heap.size ≤ B) : OwnsT w' base v l :=
  World.ownsRow.kept (row := Option.none) h ⟨hb.os, hb.tape, hb.output, hb.size, fun k hk _ => hb.block k (by omega)⟩ (by cases hv : v.ownBlock <;> simp)
theorem OwnsT.below {w0 w w' : World} {B : Nat} {v : Value} {l : List (List UInt8)} (hown : OwnsT w B v l) (hb : Below B w0 w) (hg : w.grownBy w' v.ownBlock) (hB : B ≤ w.heap.size) : Below B w0 w' :=
  hb.grown hg hB fun k hk => (World.ownsRow.lt hown k hk).1

theorem Try.info9 : (Try.prog.info? 9).map (fun i => (i.zero, i.size, i.bytes)) = some (some (.string ByteArray.empty), 1, 16) := by kernel_rfl

def GivesT (w : World) (l : List (List UInt8)) (en : Ending) (w' : World) : Prop := ∃ v, en = .returned v ∧ OwnsT w' w.heap.size v l ∧ Below w.heap.size w w'

theorem text_eq (a b : List UInt8) : ((mk a).toList == (mk b).toList) = decide (a = b) := by
  rw [ByteArray.toList_eq, ByteArray.toList_eq, mk_list, mk_list]
  by_cases h : a = b
  · simp [h]
  · simp [h]

theorem below_drawn {B : Nat} {a w : World} (h : Below B a w) (n : Nat) : Below B a (w.drewN n) := ⟨h.os, h.tape, h.output, h.size, h.block⟩
end Go.Proofs.Ytodncamohimmmaa

namespace Go.Proofs.Ytodncamohimmmaa
open Go.RowKit Leb

section
variable {P : Program} {ops : Array Oper} {Q : Exit → Act → World → Prop}

def preds (o : Oper) : List Nat := (o.after.toList.filter (Region.binds .any)).map (·.on)

def forwards (ops : Array Oper) : Bool := (List.range ops.size).all fun i => match ops[i]? with | some o => (preds o).all fun k => decide (k < i) | Option.none => true

theorem forwards_spec (h : forwards ops = true) {i : Nat} {o : Oper} (ho : ops[i]? = some o) : ∀ k ∈ preds o, k < i := by
  have hi := (Array.getElem?_eq_some_iff.1 ho).1
  unfold forwards at h
  rw [List.all_eq_true] at h
  have := h i (List.mem_range.2 hi)
  rw [ho] at this
  simp only [List.all_eq_true, decide_eq_true_eq] at this
  exact this

theorem preds_of {o : Oper} {D : Nat → Prop} (h : ∀ e ∈ o.after, Region.binds .any e = true → D e.on) : ∀ k ∈ preds o, D k := by
  intro k hk
  unfold preds at hk
  rw [List.mem_map] at hk
  obtain ⟨e, he, rfl⟩ := hk
  rw [List.mem_filter] at he
  exact h e (by simpa using he.1) he.2

theorem wpAny_inv (I : (Nat → Prop) → Act → World → Prop) (hac : forwards ops = true)
    (step : ∀ D a w i o, I D a w → ops[i]? = some o → ¬ D i → (∀ k ∈ preds o, D k) → wpOp P ops Q i (fun a' w' => I (fun j => D j ∨ j = i) a' w') a w)
    (fin : ∀ D a w, I D a w → (∀ i, i < ops.size → D i) → Q .normal a w) :
    ∀ (fuel : Nat) (listed : Array Bool) (a : Act) (w : World), listed.size = ops.size → listed.toList.countP (! ·) ≤ fuel → I (fun j => listed.getD j false = true) a w → wpAny P .any ops Q fuel listed a w := by
  have all : ∀ (listed : Array Bool), listed.size = ops.size → Region.ready .any ops listed = [] → ∀ i, i < ops.size → listed.getD i false = true := by
    intro listed hs hr i
    induction i using Nat.strongRecOn with
    | ind i ih =>
      intro hi
      cases hd : listed.getD i false with
      | true => rfl
      | false =>
        exfalso
        have ho : ops[i]? = some ops[i] := Array.getElem?_eq_getElem hi
        have : i ∈ Region.ready .any ops listed := by
          rw [mem_ready]
          refine ⟨?_, ops[i], ho, fun e he hb => ?_⟩
          · rw [Array.getD, dif_pos (by omega)] at hd ⊢; exact hd
          · have hk : e.on ∈ preds ops[i] := by
              unfold preds
              rw [List.mem_map]
              exact ⟨e, List.mem_filter.2 ⟨by simpa using he, hb⟩, rfl⟩
            have := forwards_spec hac ho _ hk
            exact ih e.on this (by omega)
        rw [hr] at this
        cases this
  intro fuel
  induction fuel with
  | zero =>
    intro listed a w hs hc hI
    have h0 : ∀ i, i < listed.size → listed.getD i false = true := by
      intro i hi
      have := List.countP_eq_zero.1 (Nat.le_zero.1 hc) listed[i] (by simp)
      rw [Array.getD, dif_pos hi]
      simpa using this
    have hr : Region.ready .any ops listed = [] := by
      apply List.eq_nil_iff_forall_not_mem.2
      intro j hj
      rw [mem_ready] at hj
      obtain ⟨h1, o, ho, _⟩ := hj
      have hj' := (Array.getElem?_eq_some_iff.1 ho).1
      have := h0 j (by omega)
      rw [Array.getD, dif_pos (by omega)] at this h1
      rw [this] at h1
      cases h1
    exact ⟨hr, fin _ a w hI (fun i hi => h0 i (by omega))⟩
  | succ fuel ih =>
    intro listed a w hs hc hI
    refine ⟨fun hr => fin _ a w hI (all listed hs hr), fun i hi => ?_⟩
    rw [mem_ready] at hi
    obtain ⟨h1, o, ho, hpre⟩ := hi
    have hlt := (Array.getElem?_eq_some_iff.1 ho).1
    have hli : listed[i]'(by omega) = false := by rw [Array.getD, dif_pos (by omega)] at h1; exact h1
    have hnd : ¬ listed.getD i false = true := by rw [Array.getD, dif_pos (by omega)]; show ¬ listed[i]'(by omega) = true; rw [hli]; simp
    refine wpOp_mono (fun a' w' h => ?_) (step _ a w i o hI ho hnd (preds_of hpre))
    refine ih (listed.setIfInBounds i true) a' w' (by simpa using hs) ?_ ?_
    · rw [Array.toList_setIfInBounds, List.countP_set (by simpa using (by omega : i < listed.size))]
      have e1 : (! listed.toList[i]'(by simpa using (by omega : i < listed.size))) = true := by simp [hli]
      rw [if_pos e1]
      have hpos : 0 < listed.toList.countP (! ·) := by
        rw [List.countP_pos_iff]
        exact ⟨listed.toList[i]'(by simpa using (by omega : i < listed.size)), List.getElem_mem _, e1⟩
      have e2 : (if (! true) = true then 1 else 0) = 0 := rfl
      rw [e2]
      omega
    · have e : (fun j => (listed.setIfInBounds i true).getD j false = true) = (fun j => listed.getD j false = true ∨ j = i) := by
        funext j
        apply propext
        by_cases hj : j = i
        · subst hj
          have : (listed.setIfInBounds j true).getD j false = true := by
            rw [Array.getD, dif_pos (by simpa using (by omega : j < listed.size))]
            simp
          simp [this]
        · rw [getD_set_ne false (Ne.symm hj)]
          simp [hj]
      rw [e]
      exact h

theorem wp_region_inv {id : Nat} {a : Act} {w : World} (I : (Nat → Prop) → Act → World → Prop) (hm : P.follows .mixedOrders = true) (hac : forwards ops = true)
    (h0 : I (fun _ => False) a w.drew)
    (step : ∀ D a w i o, I D a w → ops[i]? = some o → ¬ D i → (∀ k ∈ preds o, D k) → wpOp P ops Q i (fun a' w' => I (fun j => D j ∨ j = i) a' w') a w)
    (fin : ∀ D a w, I D a w → (∀ i, i < ops.size → D i) → Q .normal a w) : (Code.region id ops true).wp P Q a w := by
  refine wp_region_any hm (wpAny_inv I hac step fin _ _ _ _ (by simp) ?_ ?_)
  · rw [show (Array.replicate ops.size false).toList = List.replicate ops.size false by simp, List.countP_replicate]
    simp
  · have e : (fun j => (Array.replicate ops.size false).getD j false = true) = (fun _ => False) := by
      funext j
      apply propext
      simp only [iff_false]
      rw [Array.getD]
      split <;> simp
    rw [e]
    exact h0

def predsAt (ops : Array Oper) (i : Nat) : List Nat := match ops[i]? with | some o => preds o | Option.none => []

theorem wp_region_each {id : Nat} {a : Act} {w : World} (I : (Nat → Prop) → Act → World → Prop) (hm : P.follows .mixedOrders = true) (hac : forwards ops = true)
    (h0 : I (fun _ => False) a w.drew)
    (step : ∀ i, i < ops.size → ∀ D a w, I D a w → (∀ j, D j → ∀ k, (predsAt ops j).contains k = true → D k) → ¬ D i → (∀ k, (predsAt ops i).contains k = true → D k) → wpOp P ops Q i (fun a' w' => I (fun j => D j ∨ j = i) a' w') a w)
    (fin : ∀ D a w, I D a w → (∀ i, i < ops.size → D i) → Q .normal a w) : (Code.region id ops true).wp P Q a w := by
  refine wp_region_inv (fun D a w => I D a w ∧ ∀ j, D j → ∀ k, (predsAt ops j).contains k = true → D k) hm hac ⟨h0, fun j hj => hj.elim⟩ ?_ (fun D a w h hall => fin D a w h.1 hall)
  intro D a w i o ⟨hI, hcl⟩ ho hnd hpre
  have hlt := (Array.getElem?_eq_some_iff.1 ho).1
  have hp : ∀ k, (predsAt ops i).contains k = true → D k := by
    intro k hk
    unfold predsAt at hk
    rw [ho] at hk
    exact hpre k (by simpa using hk)
  refine wpOp_mono (fun a' w' h => ⟨h, fun j hj k hk => ?_⟩) (step i hlt D a w hI hcl hnd hp)
  rcases hj with hj | rfl
  · exact .inl (hcl j hj k hk)
  · exact .inl (hp k hk)

/-! ### The slots of a frame that is a letter -/

theorem eval_put_same (a : Act) (d : Nat) (v : Value) (h : d < a.tmps.size) : (a.put (some d) v).eval (.tmp d) = v := by
  simp [Act.eval, Act.put, h]
theorem eval_put_other (a : Act) {d t : Nat} (v : Value) (h : t ≠ d) : (a.put (some d) v).eval (.tmp t) = a.eval (.tmp t) :=
  Act.eval_put (by intro d' hd e; injection hd with hd; injection e with e; subst hd; exact h e)
theorem size_put (a : Act) (d : Option Tmp) (v : Value) : (a.put d v).tmps.size = a.tmps.size := by
  cases d <;> simp [Act.put]
theorem defers_put (a : Act) (d : Option Tmp) (v : Value) : (a.put d v).defers = a.defers := by
  cases d <;> rfl

theorem wanted_free {o : Oper} {y : Nat → Option Bool} (h : o.guard = Option.none) : Region.wanted o y = true := by simp [Region.wanted, h]
theorem wanted_by {o : Oper} {a : Act} {j d : Nat} {b : Bool} (h : o.guard = some (j, b)) (og : Oper) (hj : ops[j]? = some og) (hd : og.dst = some d) (hv : a.eval (.tmp d) = .bool b) : Region.wanted o (yielded ops a.tmps) = true := by
  have hs : a.tmps[d]? = some (.bool b) := by
    simp only [Act.eval, Array.getD_eq_getD_getElem?] at hv
    cases hx : a.tmps[d]? with
    | none => rw [hx] at hv; simp [undef] at hv
    | some x => rw [hx] at hv; simpa using hv
  simp [Region.wanted, h, yielded, hj, hd, hs]

theorem wpOp_value {i : Nat} {o : Oper} {a : Act} {w w' : World} {K : Act → World → Prop} {v : Value} (ho : ops[i]? = some o) (hw : Region.wanted o (yielded ops a.tmps) = true)
    (hr : (execOp a.eval o).run P w = .ok (.value v) w') (hK : K (a.put o.dst v) w') : wpOp P ops Q i K a w :=
  wpOp_step ho fun K' hK' => by rw [if_pos hw]; unfold Oper.wp; rw [hr]; exact hK' _ _ hK

theorem wpOp_call {i : Nat} {o : Oper} {a : Act} {w : World} {K : Act → World → Prop} (ho : ops[i]? = some o) (hw : Region.wanted o (yielded ops a.tmps) = true)
    (f : FuncId) (vs : Array Value) (hr : (execOp a.eval o).run P w = .ok (.enter f vs) w) {R : Ending → World → Prop} (hc : Calls P f vs w R) (hK : ∀ e w', R e w' → ∃ v, e = .returned v ∧ K (a.put o.dst v) w') : wpOp P ops Q i K a w :=
  wpOp_step ho fun K' hK' => by
    rw [if_pos hw]
    unfold Oper.wp
    rw [hr]
    refine hc.mono fun e w' h => ?_
    obtain ⟨v, rfl, hv⟩ := hK e w' h
    exact hK' _ _ hv

section
variable {i : Nat} {o : Oper} {a : Act} {w w' : World} {K : Act → World → Prop}
theorem wpOp_move (ho : ops[i]? = some o) (hw : Region.wanted o (yielded ops a.tmps) = true) (x : Operand) (hop : o.op = .move x) (v : Value) (hx : a.eval x = v) (hK : K (a.put o.dst v) w) : wpOp P ops Q i K a w :=
  wpOp_value ho hw (v := v) (w' := w) (by simp only [execOp, hop, hx]; rfl) hK
theorem wpOp_assign (ho : ops[i]? = some o) (hw : Region.wanted o (yielded ops a.tmps) = true) (x : Operand) (hop : o.op = .assign x) (v : Value) (hx : a.eval x = v) (hK : K (a.put o.dst v) w) : wpOp P ops Q i K a w :=
  wpOp_value ho hw (v := v) (w' := w) (by simp only [execOp, hop, hx]; rfl) hK
theorem wpOp_pick (ho : ops[i]? = some o) (hw : Region.wanted o (yielded ops a.tmps) = true) (c x y : Operand) (hop : o.op = .pick c x y) (b : Bool) (hc : a.eval c = .bool b) (v : Value) (hv : (if b then a.eval x else a.eval y) = v) (hK : K (a.put o.dst v) w) : wpOp P ops Q i K a w :=
  wpOp_value ho hw (v := v) (w' := w) (by simp only [execOp, hop, hc, ← hv]; rfl) hK
theorem wpOp_convert (ho : ops[i]? = some o) (hw : Region.wanted o (yielded ops a.tmps) = true) (src dst : TypeId) (x : Operand) (hop : o.op = .convert src dst x) (u v : Value) (hx : a.eval x = u) (hr : (convert src dst u).run P w = .ok v w') (hK : K (a.put o.dst v) w') : wpOp P ops Q i K a w :=
  wpOp_value ho hw (v := v) (w' := w') (by simp only [execOp, hop, hx, Sem.run_bind, hr]; rfl) hK
theorem wpOp_build (ho : ops[i]? = some o) (hw : Region.wanted o (yielded ops a.tmps) = true) (t : TypeId) (n : Nat) (ps : Array (Nat × Operand)) (hop : o.op = .buildSlice t n ps) (us : Array (Nat × Value)) (hu : (ps.map fun (k, x) => (k, a.eval x)) = us) (v : Value) (hr : (Instr.buildSlice t n us).run P w = .ok v w') (hK : K (a.put o.dst v) w') : wpOp P ops Q i K a w :=
  wpOp_value ho hw (v := v) (w' := w') (by simp only [execOp, hop, hu, Sem.run_bind, hr]; rfl) hK
theorem wpOp_bin (ho : ops[i]? = some o) (hw : Region.wanted o (yielded ops a.tmps) = true) (op : BinOp) (t t' : TypeId) (x y : Operand) (hop : o.op = .binOp op t x y t') (u u' v : Value) (hx : a.eval x = u) (hy : a.eval y = u')
    (hr : (do eqGuard op t x y u u'; binOp op t u u' : Sem Value).run P w = .ok v w) (hK : K (a.put o.dst v) w) : wpOp P ops Q i K a w :=
  wpOp_value ho hw (v := v) (w' := w) (by
    have := congrArg (fun r : Result Value => r.andThen fun x w'' => (Sem.run P (pure (Next.value x) : Sem Next) w'')) hr
    simp only [execOp, hop, hx, hy]
    rw [Sem.run_bind]
    exact this) hK
theorem wpOp_index (ho : ops[i]? = some o) (hw : Region.wanted o (yielded ops a.tmps) = true) (t : TypeId) (x y : Operand) (hop : o.op = .indexAddr t x y) (u u' v : Value) (hx : a.eval x = u) (hy : a.eval y = u') (hr : (Instr.indexAt t u u').run P w = .ok v w) (hK : K (a.put o.dst v) w) : wpOp P ops Q i K a w :=
  wpOp_value ho hw (v := v) (w' := w) (by simp only [execOp, hop, hx, hy, Sem.run_bind, hr]; rfl) hK
theorem wpOp_load (ho : ops[i]? = some o) (hw : Region.wanted o (yielded ops a.tmps) = true) (t : TypeId) (x : Operand) (hop : o.op = .load t x) (u v : Value) (hx : a.eval x = u) (hr : (Instr.loadAt t u).run P w = .ok v w) (hK : K (a.put o.dst v) w) : wpOp P ops Q i K a w :=
  wpOp_value ho hw (v := v) (w' := w) (by simp only [execOp, hop, hx, Sem.run_bind, hr]; rfl) hK
theorem wpOp_unary (ho : ops[i]? = some o) (hw : Region.wanted o (yielded ops a.tmps) = true) (op : UnOp) (t : TypeId) (x : Operand) (hop : o.op = .unOp op t x) (u v : Value) (hx : a.eval x = u) (hr : (Op.unary op u).run P w = .ok v w) (hK : K (a.put o.dst v) w) : wpOp P ops Q i K a w :=
  wpOp_value ho hw (v := v) (w' := w) (by simp only [execOp, hop, hx, Sem.run_bind, hr]; rfl) hK
theorem wpOp_slice (ho : ops[i]? = some o) (hw : Region.wanted o (yielded ops a.tmps) = true) (t : TypeId) (x : Operand) (lo hi mx : Option Operand) (hop : o.op = .slice t x lo hi mx) (u v : Value) (lo' hi' mx' : Option Value) (hx : a.eval x = u) (h1 : lo.map a.eval = lo') (h2 : hi.map a.eval = hi') (h3 : mx.map a.eval = mx')
    (hr : (Instr.sliceAt t u lo' hi' mx').run P w = .ok v w) (hK : K (a.put o.dst v) w) : wpOp P ops Q i K a w :=
  wpOp_value ho hw (v := v) (w' := w) (by simp only [execOp, hop, hx, h1, h2, h3, Sem.run_bind, hr]; rfl) hK
theorem wpOp_len (ho : ops[i]? = some o) (hw : Region.wanted o (yielded ops a.tmps) = true) (x : Operand) (t : TypeId) (hop : o.op = .call { callee := .builtin .len, args := #[x], argTypes := #[t] }) (e : TypeId) (ht : P.underlying t = some (.slice e)) (A : Option Addr) (n c : Nat) (hx : a.eval x = .slice A n c) (hK : K (a.put o.dst (.int .i64 n)) w) : wpOp P ops Q i K a w :=
  wpOp_value ho hw (v := .int .i64 n) (w' := w) (by
    unfold execOp
    simp only [hop, resolve, invoke, builtin, Sem.run_bind, Sem.run_pure, Result.andThen_ok, List.map_toArray, List.map_cons, List.map_nil, hx]
    simp [Builtin.len_, run_underlying ht, goInt]) hK
theorem wpOp_call0 (ho : ops[i]? = some o) (hw : Region.wanted o (yielded ops a.tmps) = true) (f : FuncId) (ts : Array TypeId) (hop : o.op = .call { callee := .value (.func f), args := #[], argTypes := ts })
    {R : Ending → World → Prop} (hcf : (callFunc f #[]).run P w = .ok (.enter f #[]) w) (hc : Calls P f #[] w R) (hK : ∀ e w', R e w' → ∃ v, e = .returned v ∧ K (a.put o.dst v) w') : wpOp P ops Q i K a w :=
  wpOp_call ho hw f #[] (by
    unfold execOp
    simp only [hop, resolve, Act.eval, Deferred.ofValue, invoke, Sem.run_bind, Sem.run_pure, Result.andThen_ok, List.map_toArray, List.map_nil, Array.append_empty]
    exact hcf) hc hK
theorem wpOp_call1 (ho : ops[i]? = some o) (hw : Region.wanted o (yielded ops a.tmps) = true) (f : FuncId) (x : Operand) (ts : Array TypeId) (hop : o.op = .call { callee := .value (.func f), args := #[x], argTypes := ts }) (u : Value) (hx : a.eval x = u)
    {R : Ending → World → Prop} (hcf : (callFunc f #[u]).run P w = .ok (.enter f #[u]) w) (hc : Calls P f #[u] w R) (hK : ∀ e w', R e w' → ∃ v, e = .returned v ∧ K (a.put o.dst v) w') : wpOp P ops Q i K a w :=
  wpOp_call ho hw f #[u] (by
    subst hx
    unfold execOp
    simp only [hop, resolve, Act.eval, Deferred.ofValue, invoke, Sem.run_bind, Sem.run_pure, Result.andThen_ok, List.map_toArray, List.map_cons, List.map_nil, Array.append_empty]
    exact hcf) hc hK
theorem wpOp_call2 (ho : ops[i]? = some o) (hw : Region.wanted o (yielded ops a.tmps) = true) (f : FuncId) (x y : Operand) (ts : Array TypeId) (hop : o.op = .call { callee := .value (.func f), args := #[x, y], argTypes := ts }) (u u' : Value) (hx : a.eval x = u) (hy : a.eval y = u')
    {R : Ending → World → Prop} (hcf : (callFunc f #[u, u']).run P w = .ok (.enter f #[u, u']) w) (hc : Calls P f #[u, u'] w R) (hK : ∀ e w', R e w' → ∃ v, e = .returned v ∧ K (a.put o.dst v) w') : wpOp P ops Q i K a w :=
  wpOp_call ho hw f #[u, u'] (by
    subst hx
    subst hy
    unfold execOp
    simp only [hop, resolve, Act.eval, Deferred.ofValue, invoke, Sem.run_bind, Sem.run_pure, Result.andThen_ok, List.map_toArray, List.map_cons, List.map_nil, Array.append_empty]
    exact hcf) hc hK
end
end

structure Keeps (w w' : World) : Prop where
  size : w.heap.size ≤ w'.heap.size
  cell : ∀ a v, w.cell? a = some v → w'.cell? a = some v
theorem Keeps.refl (w : World) : Keeps w w := ⟨Nat.le_refl _, fun _ _ h => h⟩
theorem below_keeps {w w' : World} (hb : Below w.heap.size w w') : Keeps w w' := ⟨hb.size, fun _ _ h => cell_later hb h⟩
theorem Holds.keeps {w w' : World} {A : Option Addr} {n c : Nat} {l : List Int} (h : Holds w A n c l) (hk : Keeps w w') : Holds w' A n c l :=
  ⟨h.len, h.byt, h.cap, h.room, h.bare, fun hn => by
    obtain ⟨b, off, e, hc⟩ := h.cell hn
    exact ⟨b, off, e, fun j hj => hk.cell _ _ (hc j hj)⟩⟩

def BB (l : List Int) (v : Value) (w : World) : Prop := ∃ A c, v = .slice A l.length c ∧ Holds w A l.length c l
theorem BB.later {l : List Int} {v : Value} {w w' : World} (h : BB l v w) (hb : Below w.heap.size w w') : BB l v w' := by
  obtain ⟨A, c, rfl, hA⟩ := h
  exact ⟨A, c, rfl, hA.later hb⟩

theorem BB.keeps {l : List Int} {v : Value} {w w' : World} (h : BB l v w) (hk : Keeps w w') : BB l v w' := by
  obtain ⟨A, c, rfl, hA⟩ := h
  exact ⟨A, c, rfl, hA.keeps hk⟩

def Apart (v u : Value) : Prop := ∀ g b off n c, v.ownBlock = some g → u = .slice (some ⟨b, off, Option.none⟩) n c → 0 < n → b ≠ g

theorem Holds.grown {w w' : World} {A : Option Addr} {n c : Nat} {l : List Int} {v : Value} (h : Holds w A n c l) (hg : w.grownBy w' v.ownBlock) (ha : Apart v (.slice A n c)) : Holds w' A n c l :=
  ⟨h.len, h.byt, h.cap, h.room, h.bare, fun hn => by
    obtain ⟨b, off, rfl, hc⟩ := h.cell hn
    refine ⟨b, off, rfl, fun j hj => ?_⟩
    have hlt := World.block_lt_of_cell? w _ (hc 0 hn)
    rw [← hc j hj]
    exact World.cell?_of_block (hg.block b hlt (fun e => ha b b off n c e.symm rfl hn rfl))⟩

theorem BB.grown {l : List Int} {v u : Value} {w w' : World} (h : BB l u w) (hg : w.grownBy w' v.ownBlock) (ha : Apart v u) : BB l u w' := by
  obtain ⟨A, c, rfl, hA⟩ := h
  exact ⟨A, c, rfl, hA.grown hg ha⟩

theorem Holds.block {w : World} {b off n c : Nat} {l : List Int} (h : Holds w (some ⟨b, off, Option.none⟩) n c l) (hn : 0 < n) : b < w.heap.size := by
  obtain ⟨b', off', e, hc⟩ := h.cell hn
  injection e with e
  injection e with e1 e2
  subst e1
  exact World.block_lt_of_cell? w _ (hc 0 hn)

theorem BB.block {w : World} {l : List Int} {u : Value} (h : BB l u w) {b off n c : Nat} (hu : u = .slice (some ⟨b, off, Option.none⟩) n c) (hn : 0 < n) : b < w.heap.size := by
  obtain ⟨A, cc, rfl, hA⟩ := h
  injection hu with h1 h2 h3
  subst h1
  subst h2
  exact hA.block hn

/-! ### The invariant that most regions want: each operation's slot holds what its fact says; all other slots are as they were; memory has at most grown -/

def slotsGood (N : Nat) (ds : List Nat) : Bool := decide ds.Nodup && ds.all fun t => decide (t < N)

def slotAt (ds : List Nat) (j : Nat) : Nat := ds[j]?.getD 0

theorem slotAt_mem {ds : List Nat} {j : Nat} (h : j < ds.length) : slotAt ds j ∈ ds := by
  unfold slotAt
  rw [List.getElem?_eq_getElem h]
  exact List.getElem_mem h

theorem slotAt_lt {N : Nat} {ds : List Nat} (hg : slotsGood N ds = true) {j : Nat} (h : j < ds.length) : slotAt ds j < N := by
  unfold slotsGood at hg
  simp only [Bool.and_eq_true, List.all_eq_true, decide_eq_true_eq] at hg
  exact hg.2 _ (slotAt_mem h)

theorem slotAt_ne {N : Nat} {ds : List Nat} (hg : slotsGood N ds = true) {i j : Nat} (hi : i < ds.length) (hj : j < ds.length) (hne : j ≠ i) : slotAt ds j ≠ slotAt ds i := by
  unfold slotsGood at hg
  simp only [Bool.and_eq_true, decide_eq_true_eq] at hg
  unfold slotAt
  rw [List.getElem?_eq_getElem hi, List.getElem?_eq_getElem hj]
  simp only [Option.getD_some]
  intro e
  exact hne ((List.getElem_inj hg.1).1 e)

structure RInv (N : Nat) (ds : List Nat) (a0 : Act) (F : Nat → Value → World → Prop) (w0 : World) (X : (Nat → Prop) → Act → World → Prop) (D : Nat → Prop) (a : Act) (w : World) : Prop where
  size : a.tmps.size = N
  defs : a.defers = a0.defers
  few : ∀ j, D j → j < ds.length
  same : ∀ t, t ∉ ds → a.eval (.tmp t) = a0.eval (.tmp t)
  fact : ∀ j, D j → F j (a.eval (.tmp (slotAt ds j))) w
  more : X D a w
  below : Below w0.heap.size w0 w

section
variable {N : Nat} {ds : List Nat} {a0 : Act} {F : Nat → Value → World → Prop} {w0 : World} {X : (Nat → Prop) → Act → World → Prop} {D : Nat → Prop} {a : Act} {w w' : World}

theorem RInv.start (hs : a0.tmps.size = N) (hX : X (fun _ => False) a0 w) (hb : Below w0.heap.size w0 w) : RInv N ds a0 F w0 X (fun _ => False) a0 w :=
  ⟨hs, rfl, fun _ h => h.elim, fun _ _ => rfl, fun _ h => h.elim, hX, hb⟩

theorem RInv.put {i : Nat} {v : Value} (hg : slotsGood N ds = true) (hI : RInv N ds a0 F w0 X D a w) (hi : i < ds.length)
    (hF : ∀ j, D j → j ≠ i → F j (a.eval (.tmp (slotAt ds j))) w → F j (a.eval (.tmp (slotAt ds j))) w') (hv : F i v w')
    (hX : X (fun j => D j ∨ j = i) (a.put (some (slotAt ds i)) v) w') (hb : Below w0.heap.size w0 w') : RInv N ds a0 F w0 X (fun j => D j ∨ j = i) (a.put (some (slotAt ds i)) v) w' := by
  refine ⟨by rw [size_put, hI.size], by rw [defers_put, hI.defs], fun j hj => hj.elim (hI.few j) (fun e => e ▸ hi), fun t ht => ?_, fun j hj => ?_, hX, hb⟩
  · rw [eval_put_other _ _ (fun e => ht (by rw [e]; exact slotAt_mem hi)), hI.same t ht]
  · by_cases hji : j = i
    · subst hji
      rw [eval_put_same _ _ _ (by rw [hI.size]; exact slotAt_lt hg hi)]
      exact hv
    · have hj' : D j := hj.resolve_right hji
      rw [eval_put_other _ _ (slotAt_ne hg hi (hI.few j hj') hji)]
      exact hF j hj' hji (hI.fact j hj')

def NoMore (_ : Nat → Prop) (_ : Act) (_ : World) : Prop := True

def Outlives (F : Nat → Value → World → Prop) : Prop := ∀ j v w w', F j v w → Keeps w w' → F j v w'

theorem RInv.add {i : Nat} {v : Value} (hI : RInv N ds a0 F w0 NoMore D a w) (hg : slotsGood N ds = true) (hl : Outlives F) (hi : i < ds.length) (hb : Below w.heap.size w w') (hv : F i v w') :
    RInv N ds a0 F w0 NoMore (fun j => D j ∨ j = i) (a.put (some (slotAt ds i)) v) w' :=
  hI.put hg hi (fun j _ _ h => hl j _ _ _ h (below_keeps hb)) hv trivial (hI.below.trans (hb.mono hI.below.size))

def putAll (a0 : Act) : List Nat → List Value → Act
  | d :: ds, u :: us => (putAll a0 ds us).put (some d) u
  | _, _ => a0

theorem putAll_size (a0 : Act) : ∀ (ds : List Nat) (us : List Value), (putAll a0 ds us).tmps.size = a0.tmps.size
  | d :: ds, u :: us => by rw [putAll, size_put, putAll_size a0 ds us]
  | [], _ => rfl
  | _ :: _, [] => rfl
theorem putAll_defers (a0 : Act) : ∀ (ds : List Nat) (us : List Value), (putAll a0 ds us).defers = a0.defers
  | d :: ds, u :: us => by rw [putAll, defers_put, putAll_defers a0 ds us]
  | [], _ => rfl
  | _ :: _, [] => rfl
theorem putAll_other (a0 : Act) : ∀ (ds : List Nat) (us : List Value) (t : Nat), t ∉ ds → (putAll a0 ds us).eval (.tmp t) = a0.eval (.tmp t)
  | d :: ds, u :: us, t, h => by
    rw [putAll, eval_put_other _ _ (fun e => h (by simp [e])), putAll_other a0 ds us t (fun e => h (by simp [e]))]
  | [], _, _, _ => rfl
  | _ :: _, [], _, _ => rfl
theorem putAll_at (a0 : Act) (f : Nat → Value) : ∀ (ds : List Nat), ds.Nodup → (∀ t ∈ ds, t < a0.tmps.size) → ∀ t ∈ ds, (putAll a0 ds (ds.map f)).eval (.tmp t) = f t
  | d :: ds, hn, hs, t, ht => by
    rw [List.map_cons, putAll]
    by_cases e : t = d
    · subst e
      rw [eval_put_same _ _ _ (by rw [putAll_size]; exact hs t (by simp))]
    · rw [eval_put_other _ _ e]
      have hn' := List.nodup_cons.1 hn
      exact putAll_at a0 f ds hn'.2 (fun x hx => hs x (by simp [hx])) t ((List.mem_cons.1 ht).resolve_left e)

theorem act_ext {a b : Act} (h1 : a.tmps.size = b.tmps.size) (h2 : a.defers = b.defers) (h3 : ∀ t, t < a.tmps.size → a.eval (.tmp t) = b.eval (.tmp t)) : a = b := by
  obtain ⟨x, xd⟩ := a
  obtain ⟨y, yd⟩ := b
  simp only at h1 h2 h3
  subst h2
  have : x = y := by
    apply Array.ext h1
    intro t ht ht'
    have := h3 t ht
    simpa [Act.eval, Array.getD, ht, ht'] using this
  rw [this]

theorem RInv.done (hI : RInv N ds a0 F w0 X D a w) (hg : slotsGood N ds = true) (hs : a0.tmps.size = N) (hall : ∀ i, i < ds.length → D i) :
    ∃ f : Nat → Value, a = putAll a0 ds (ds.map f) ∧ ∀ j, j < ds.length → F j (f (slotAt ds j)) w := by
  refine ⟨fun t => a.eval (.tmp t), ?_, fun j hj => hI.fact j (hall j hj)⟩
  unfold slotsGood at hg
  simp only [Bool.and_eq_true, List.all_eq_true, decide_eq_true_eq] at hg
  refine act_ext (by rw [putAll_size, hI.size, hs]) (by rw [putAll_defers, hI.defs]) fun t _ => ?_
  by_cases ht : t ∈ ds
  · rw [putAll_at a0 _ ds hg.1 (fun x hx => by rw [hs]; exact hg.2 x hx) t ht]
  · rw [putAll_other a0 ds _ t ht, hI.same t ht]
end
end Go.Proofs.Ytodncamohimmmaa

namespace Go.Proofs.Ytodncamohimmmaa
open Go.RowKit Go.Lib

theorem below_then {w a b : World} (h : Below w.heap.size w a) (k : Below a.heap.size a b) : Below w.heap.size w b := h.trans (k.mono h.size)
theorem below_box (w : World) (o : Obj) : Below w.heap.size w (w.alloc o) := (Below.refl _ _).alloc (Nat.le_refl _) o
theorem below_undrew {w w' : World} (h : Below w.drew.heap.size w.drew w') : Below w.heap.size w w' := ⟨h.os, h.tape, h.output, h.size, h.block⟩
section
variable {P : Program} {ops : Array Oper} {Q : Exit → Act → World → Prop} {i : Nat} {o : Oper} {a : Act} {w : World} {K : Act → World → Prop}
theorem wpOp_field (ho : ops[i]? = some o) (hw : Region.wanted o (yielded ops a.tmps) = true) (t : TypeId) (x : Operand) (k : Nat) (hop : o.op = .fieldAddr t x k) (u v : Value) (hx : a.eval x = u) (hr : (Instr.fieldAt t u k).run P w = .ok v w) (hK : K (a.put o.dst v) w) : wpOp P ops Q i K a w :=
  wpOp_value ho hw (v := v) (w' := w) (by simp only [execOp, hop, hx, Sem.run_bind, hr]; rfl) hK
end
end Go.Proofs.Ytodncamohimmmaa

namespace Go.Proofs.Ytodncamohimmmaa
open Go.RowKit Leb

section
variable {P : Program} {ops : Array Oper} {Q : Exit → Act → World → Prop} {n l : Nat}

def noDefers (ops : Array Oper) : Bool := ops.toList.all fun o => match o.op with | .defer _ => false | _ => true

end
end Go.Proofs.Ytodncamohimmmaa

namespace Go.Proofs.Ytodncamohimmmaa
open Go.RowKit Leb

section
variable {P : Program} {ops : Array Oper} {Q : Exit → Act → World → Prop}

def reach (ops : Array Oper) : Nat → Nat → List Nat
  | 0, i => [i]
  | f + 1, i => i :: (predsAt ops i).flatMap (reach ops f)

theorem reach_done {D : Nat → Prop} (hcl : ∀ j, D j → ∀ k, (predsAt ops j).contains k = true → D k) : ∀ (f i : Nat), D i → ∀ j ∈ reach ops f i, D j
  | 0, i, hi, j, hj => by simp [reach] at hj; exact hj ▸ hi
  | f + 1, i, hi, j, hj => by
    simp only [reach, List.mem_cons, List.mem_flatMap] at hj
    rcases hj with rfl | ⟨k, hk, hj⟩
    · exact hi
    · exact reach_done hcl f k (hcl i hi k (by simpa using hk)) j hj

def chained (ops : Array Oper) (f m : Nat) : Bool := (List.range ops.size).all fun i => decide (i < m) || (List.range i).all fun j => (reach ops f i).contains j

theorem chained_spec {f m : Nat} (h : chained ops f m = true) {i : Nat} (hi : i < ops.size) (hm : m ≤ i) {j : Nat} (hj : j < i) : j ∈ reach ops f i := by
  unfold chained at h
  rw [List.all_eq_true] at h
  have := h i (List.mem_range.2 hi)
  rw [Bool.or_eq_true, List.all_eq_true] at this
  rcases this with h1 | h1
  · simp at h1; omega
  · simpa using h1 j (List.mem_range.2 hj)

theorem wpAny_tail (m f : Nat) (hm : m ≤ ops.size) (hch : chained ops f m = true) (I : (Nat → Prop) → Act → World → Prop) (hac : forwards ops = true)
    (step : ∀ i, i < m → ∀ D a w, I D a w → (∀ j, D j → ∀ k, (predsAt ops j).contains k = true → D k) → ¬ D i → (∀ k, (predsAt ops i).contains k = true → D k) → wpOp P ops Q i (fun a' w' => I (fun j => D j ∨ j = i) a' w') a w)
    (fin : ∀ D a w, I D a w → (∀ i, i < m → D i) → wpOps P ops Q (List.range' m (ops.size - m)) a w) {a : Act} {w : World} (h0 : I (fun _ => False) a w) :
    wpAny P .any ops Q ops.size (Array.replicate ops.size false) a w := by
  have tail : ∀ k, k < ops.size → List.range' k (ops.size - k) = k :: List.range' (k + 1) (ops.size - (k + 1)) := by
    intro k hk
    rw [show ops.size - k = (ops.size - (k + 1)) + 1 by omega, List.range'_succ]
  refine wpAny_inv (fun D a w => (∀ j, D j → j < ops.size ∧ ∀ k, (predsAt ops j).contains k = true → D k) ∧
      (((∀ i, m ≤ i → ¬ D i) ∧ I D a w) ∨ ∃ k, m ≤ k ∧ k ≤ ops.size ∧ (∀ i, D i ↔ i < k) ∧ wpOps P ops Q (List.range' k (ops.size - k)) a w)) hac ?_ ?_ _ _ _ _ (by simp) ?_ ?_
  · rintro D a w i o ⟨hcl, halt⟩ ho hnd hpre
    have hlt := (Array.getElem?_eq_some_iff.1 ho).1
    have hp : ∀ k, (predsAt ops i).contains k = true → D k := by
      intro k hk
      unfold predsAt at hk
      rw [ho] at hk
      exact hpre k (by simpa using hk)
    have hcl2 : ∀ j, D j → ∀ k, (predsAt ops j).contains k = true → D k := fun j hj => (hcl j hj).2
    have hcl' : ∀ j, (D j ∨ j = i) → j < ops.size ∧ ∀ k, (predsAt ops j).contains k = true → (D k ∨ k = i) := by
      rintro j (hj | rfl)
      · exact ⟨(hcl j hj).1, fun k hk => .inl ((hcl j hj).2 k hk)⟩
      · exact ⟨hlt, fun k hk => .inl (hp k hk)⟩
    have hbelow : m ≤ i → ∀ j, j < i → D j := by
      intro hmi j hj
      have := reach_done (D := fun x => D x ∨ x = i) (fun x hx k hk => (hcl' x hx).2 k hk) f i (.inr rfl) j (chained_spec hch hlt hmi hj)
      exact this.resolve_right (by omega)
    rcases halt with ⟨hno, hI⟩ | ⟨k, hmk, hk, hD, hops⟩
    · by_cases him : i < m
      · refine wpOp_mono (fun a' w' h => ⟨hcl', .inl ⟨fun j hj hd => ?_, h⟩⟩) (step i him D a w hI hcl2 hnd hp)
        rcases hd with hd | rfl
        · exact hno j hj hd
        · omega
      · have hmi : m ≤ i := by omega
        have him' : i = m := by
          rcases Nat.lt_or_ge m i with h | h
          · exact absurd (hbelow hmi m h) (hno m (Nat.le_refl _))
          · omega
        subst him'
        have hf := fin D a w hI (hbelow hmi)
        rw [tail i hlt, wpOps_cons] at hf
        refine wpOp_mono (fun a' w' h => ⟨hcl', .inr ⟨i + 1, by omega, by omega, fun j => ⟨fun hj => ?_, fun hj => ?_⟩, h⟩⟩) hf
        · rcases hj with hj | rfl
          · rcases Nat.lt_or_ge j i with h | h
            · omega
            · exact absurd hj (hno j h)
          · omega
        · rcases Nat.lt_or_ge j i with h | h
          · exact .inl (hbelow hmi j h)
          · exact .inr (by omega)
    · have hik : i = k := by
        have h1 : ¬ i < k := fun h => hnd ((hD i).2 h)
        rcases Nat.lt_or_ge k i with h | h
        · exact absurd ((hD k).1 (hbelow (by omega) k h)) (by omega)
        · omega
      subst hik
      rw [tail i hlt, wpOps_cons] at hops
      refine wpOp_mono (fun a' w' h => ⟨hcl', .inr ⟨i + 1, by omega, by omega, fun j => ⟨fun hj => ?_, fun hj => ?_⟩, h⟩⟩) hops
      · rcases hj with hj | rfl
        · have := (hD j).1 hj; omega
        · omega
      · rcases Nat.lt_or_ge j i with h | h
        · exact .inl ((hD j).2 h)
        · exact .inr (by omega)
  · rintro D a w ⟨hcl, ⟨hno, hI⟩ | ⟨k, hmk, hk, hD, hops⟩⟩ hall
    · have hms : m = ops.size := by
        rcases Nat.lt_or_ge m ops.size with h | h
        · exact absurd (hall m h) (hno m (Nat.le_refl _))
        · omega
      have := fin D a w hI (fun i hi => hall i (by omega))
      rw [← hms, Nat.sub_self] at this
      exact this
    · have hks : k = ops.size := by
        rcases Nat.lt_or_ge k ops.size with h | h
        · exact absurd ((hD k).1 (hall k h)) (by omega)
        · omega
      subst hks
      rw [Nat.sub_self] at hops
      exact hops
  · rw [show (Array.replicate ops.size false).toList = List.replicate ops.size false by simp, List.countP_replicate]
    simp
  · have e : (fun j => (Array.replicate ops.size false).getD j false = true) = (fun _ => False) := by
      funext j
      apply propext
      simp only [iff_false]
      rw [Array.getD]
      split <;> simp
    rw [e]
    exact ⟨fun j hj => hj.elim, .inl ⟨fun _ _ h => h, h0⟩⟩

theorem wp_region_tail {id : Nat} {a : Act} {w : World} (m f : Nat) (hm : m ≤ ops.size) (hch : chained ops f m = true) (I : (Nat → Prop) → Act → World → Prop) (hmx : P.follows .mixedOrders = true) (hac : forwards ops = true)
    (h0 : I (fun _ => False) a w.drew)
    (step : ∀ i, i < m → ∀ D a w, I D a w → (∀ j, D j → ∀ k, (predsAt ops j).contains k = true → D k) → ¬ D i → (∀ k, (predsAt ops i).contains k = true → D k) → wpOp P ops Q i (fun a' w' => I (fun j => D j ∨ j = i) a' w') a w)
    (fin : ∀ D a w, I D a w → (∀ i, i < m → D i) → wpOps P ops Q (List.range' m (ops.size - m)) a w) : (Code.region id ops true).wp P Q a w :=
  wp_region_any hmx (wpAny_tail m f hm hch I hac step fin h0)

theorem wpOp_store {i : Nat} {o : Oper} {a : Act} {w w' : World} {K : Act → World → Prop} (ho : ops[i]? = some o) (hw : Region.wanted o (yielded ops a.tmps) = true) (t : TypeId) (x y : Operand) (hop : o.op = .store t x y) (u v : Value) (hx : a.eval x = u) (hy : a.eval y = v)
    (hr : (Instr.storeAt t u v).run P w = .ok () w') (hK : K (a.put o.dst undef) w') : wpOp P ops Q i K a w :=
  wpOp_step ho fun K' hK' => by
    rw [if_pos hw]
    unfold Oper.wp
    have e : (execOp a.eval o).run P w = .ok .skip w' := by simp only [execOp, hop, hx, hy, Sem.run_bind, hr]; rfl
    rw [e]
    exact hK' _ _ hK
end
end Go.Proofs.Ytodncamohimmmaa

namespace Go.Proofs.Ytodncamohimmmaa
open Go.RowKit Go.Lib Leb

structure Alt (w w' : World) (S : Nat → Prop) : Prop where
  os : w'.os = w.os
  tape : w'.tape = w.tape
  output : w'.output = w.output
  size : w.heap.size ≤ w'.heap.size
  block : ∀ k, k < w.heap.size → ¬ S k → w'.heap[k]? = w.heap[k]?

section
variable {w w1 w' : World} {S S' : Nat → Prop}

theorem alt_refl (w : World) (S : Nat → Prop) : Alt w w S := ⟨rfl, rfl, rfl, Nat.le_refl _, fun _ _ _ => rfl⟩
theorem alt_below (h : Below w.heap.size w w') (S : Nat → Prop) : Alt w w' S := ⟨h.os, h.tape, h.output, h.size, fun k hk _ => h.block k hk⟩
theorem alt_grown {r : Option Nat} (h : w.grownBy w' r) (hS : ∀ k, r = some k → S k) : Alt w w' S := ⟨h.os, h.tape, h.output, h.size, fun k hk hn => h.block k hk fun e => hn (hS k e.symm)⟩
theorem alt_set (w : World) (a : Addr) (v : Value) (hS : S a.block) : Alt w (w.setCell a v) S := ⟨rfl, rfl, rfl, by simp [World.setCell], fun k _ hn => heap_setCell_other w a k v fun e => hn (e ▸ hS)⟩
theorem Alt.trans (h : Alt w w1 S) (k : Alt w1 w' S') (hS : ∀ j, j < w.heap.size → S' j → S j) : Alt w w' S :=
  ⟨k.os.trans h.os, k.tape.trans h.tape, k.output.trans h.output, Nat.le_trans h.size k.size, fun j hj hn => (k.block j (Nat.lt_of_lt_of_le hj h.size) fun hs => hn (hS j hj hs)).trans (h.block j hj hn)⟩
theorem Alt.behind (h : Alt w w1 S) (k : Below w1.heap.size w1 w') : Alt w w' S := h.trans (alt_below k S) fun _ _ h => h
theorem Alt.ahead (h : Below w.heap.size w w1) (k : Alt w1 w' S) : Alt w w' S := (alt_below h S).trans k fun _ _ h => h
theorem Alt.mono (h : Alt w w' S) (hS : ∀ j, j < w.heap.size → S j → S' j) : Alt w w' S' := ⟨h.os, h.tape, h.output, h.size, fun k hk hn => h.block k hk fun hs => hn (hS k hk hs)⟩
theorem Alt.below (h : Alt w w' S) {B : Nat} (hB : B ≤ w.heap.size) (hS : ∀ j, S j → B ≤ j) : Below B w w' :=
  ⟨h.os, h.tape, h.output, h.size, fun k hk => h.block k (Nat.lt_of_lt_of_le hk hB) fun hs => Nat.not_lt.2 (hS k hs) hk⟩
theorem below_alt {w0 : World} {B : Nat} (hb : Below B w0 w) (h : Alt w w' S) (hB : B ≤ w.heap.size) (hS : ∀ j, S j → B ≤ j) : Below B w0 w' := hb.trans (h.below hB hS)

def Off (S : Nat → Prop) (A : Option Addr) (n : Nat) : Prop := ∀ g off, A = some ⟨g, off, Option.none⟩ → 0 < n → ¬ S g
def OffV (S : Nat → Prop) (v : Value) : Prop := ∀ g, v.ownBlock = some g → ¬ S g

theorem OffV.off {A : Option Addr} {n m c : Nat} (h : OffV S (.slice A n c)) : Off S A m := fun g off e _ => h g (by rw [e]; rfl)
theorem Off.mono {A : Option Addr} {n : Nat} (h : Off S A n) (hS : ∀ j, S' j → S j) : Off S' A n := fun g off e hn hs => h g off e hn (hS g hs)
theorem OffV.mono {v : Value} (h : OffV S v) (hS : ∀ j, S' j → S j) : OffV S' v := fun g e hs => h g e (hS g hs)

theorem Holds.alt {A : Option Addr} {n c : Nat} {l : List Int} (h : Holds w A n c l) (ha : Alt w w' S) (ho : Off S A n) : Holds w' A n c l :=
  ⟨h.len, h.byt, h.cap, h.room, h.bare, fun hn => by
    obtain ⟨b, off, e, hc⟩ := h.cell hn
    subst e
    refine ⟨b, off, rfl, fun j hj => ?_⟩
    rw [World.cell?_of_block (ha.block b (h.block hn) (ho b off rfl hn))]
    exact hc j hj⟩
theorem ownsRow_alt {base : Nat} {e : TypeId} {k n : Nat} {v : Value} {xs : List Value} (h : w.ownsRow base e k v n xs) (ha : Alt w w' S) (ho : OffV S v) : w'.ownsRow base e k v n xs := by
  refine ⟨h.1, ?_⟩
  rcases h.2 with hn | ⟨g, cap, cur, rfl, hb, hgg, rest⟩
  · exact .inl hn
  · refine .inr ⟨g, cap, cur, rfl, hb, ?_, rest⟩
    rw [ha.block g (Array.getElem?_eq_some_iff.1 hgg).1 (ho g rfl)]
    exact hgg
theorem Owns.alt {base : Nat} {e : TypeId} {v : Value} {l : List Int} (h : Owns w base e v l) (ha : Alt w w' S) (ho : OffV S v) : Owns w' base e v l := ⟨h.1, ownsRow_alt h.2 ha ho⟩
theorem OwnsT.alt {base : Nat} {v : Value} {l : List (List UInt8)} (h : OwnsT w base v l) (ha : Alt w w' S) (ho : OffV S v) : OwnsT w' base v l := ownsRow_alt h ha ho
theorem ownsMap_alt {H : Type} {P : Program} {k : TypeId} {R : Value → Option (DataW H × List MemPlace)} {b n : Nat} {D : DataW H} (h : w.ownsMap P k R b n D) (ha : Alt w w' S) (ho : ¬ S b) : w'.ownsMap P k R b n D := by
  have hlt := h.lt
  obtain ⟨es, clock, hb, F, hs, hD⟩ := h
  exact ⟨es, clock, (ha.block b hlt ho).trans hb, F, hs, hD⟩
theorem Texts.alt {A : Option Addr} {n : Nat} {l : List (List UInt8)} (h : Texts w A n l) (ha : Alt w w' S) (ho : Off S A n) : Texts w' A n l :=
  ⟨h.len, fun hn => by
    obtain ⟨b, e, hlt, hc⟩ := h.cell hn
    subst e
    refine ⟨b, rfl, Nat.lt_of_lt_of_le hlt ha.size, fun j hj => ?_⟩
    rw [World.cell?_of_block (ha.block b hlt (ho b 0 rfl hn))]
    exact hc j hj⟩
theorem Owns.off {base : Nat} {e : TypeId} {v : Value} {l : List Int} (h : Owns w base e v l) (hS : ∀ j, S j → j < base) : OffV S v := fun g hg hs => by
  have := (World.ownsRow.lt h.2 g hg).1
  have := hS g hs
  omega
end
end Go.Proofs.Ytodncamohimmmaa
