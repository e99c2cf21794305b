/-
  Plain facts on preflights: what an answer lets, and what of a response is read. No program is spoken of but in the words for memory; no condition beyond those that each theorem states.
-/
import Derived.Test.YtalnjlodldhfbaaGreatDoorLow
import Derived.Test.YtalnjlodldhfbaaGreatDoorAscToken
namespace Go.Proofs.YtalnjlodldhfbaaGreatDoor
open Go.RowKit Go.Lib Go.Shelf

/-- The names that a response is asked for. -/
abbrev nameM : ByteArray := ⟨#[97, 99, 99, 101, 115, 115, 45, 99, 111, 110, 116, 114, 111, 108, 45, 97, 108, 108, 111, 119, 45, 109, 101, 116, 104, 111, 100, 115]⟩
abbrev nameH : ByteArray := ⟨#[97, 99, 99, 101, 115, 115, 45, 99, 111, 110, 116, 114, 111, 108, 45, 97, 108, 108, 111, 119, 45, 104, 101, 97, 100, 101, 114, 115]⟩
abbrev nameA : ByteArray := ⟨#[97, 99, 99, 101, 115, 115, 45, 99, 111, 110, 116, 114, 111, 108, 45, 109, 97, 120, 45, 97, 103, 101]⟩
abbrev star : ByteArray := ⟨#[42]⟩
abbrev auth : List UInt8 := [97, 117, 116, 104, 111, 114, 105, 122, 97, 116, 105, 111, 110]

def letsM (ms : List ByteArray) (x : ByteArray) (k : Int) : Bool := isIn x simple || (isIn x ms || (!decide (k = 3) && isIn star ms))
def letsH (hs : List ByteArray) (x : ByteArray) (k : Int) : Bool := isIn x hs || (!(x.toList == auth) && (!decide (k = 3) && isIn star hs))
/-- Does an answer let a method and names, with the mode k of credentials? -/
def lets (ms hs : List ByteArray) (x : ByteArray) (ns : List ByteArray) (k : Int) : Bool := (ns.all fun z => letsH hs z k) && letsM ms x k

theorem letsM_less {ms : List ByteArray} {x : ByteArray} (h : letsM ms x 3 = true) (k : Int) : letsM ms x k = true := by
  simp only [letsM, decide_true, Bool.not_true, Bool.false_and, Bool.or_false, Bool.or_eq_true] at h ⊢
  rcases h with h | h
  · exact .inl h
  · exact .inr (.inl h)
theorem letsH_less {hs : List ByteArray} {x : ByteArray} (h : letsH hs x 3 = true) (k : Int) : letsH hs x k = true := by
  simp only [letsH, decide_true, Bool.not_true, Bool.false_and, Bool.and_false, Bool.or_false] at h ⊢
  rw [h, Bool.true_or]
/-- What is let with credentials is let without. -/
theorem lets_less {ms hs : List ByteArray} {x : ByteArray} {ns : List ByteArray} (h : lets ms hs x ns 3 = true) (k : Int) : lets ms hs x ns k = true := by
  simp only [lets, Bool.and_eq_true, List.all_eq_true] at h ⊢
  exact ⟨fun z hz => letsH_less (h.1 z hz) k, letsM_less h.2 k⟩
/-- Fewer names are let, where more are. -/
theorem lets_fewer {ms hs : List ByteArray} {x : ByteArray} {ns ks : List ByteArray} {k : Int} (h : lets ms hs x ns k = true) (hk : ∀ z ∈ ks, z ∈ ns) : lets ms hs x ks k = true := by
  simp only [lets, Bool.and_eq_true, List.all_eq_true] at h ⊢
  exact ⟨fun z hz => h.1 z (hk z hz), h.2⟩
theorem lets_plain {ms hs : List ByteArray} {x : ByteArray} {k : Int} (h : isIn x simple = true) : lets ms hs x [] k = true := by
  simp [lets, letsM, h]
theorem all_take {α : Type} {l : List α} {p : α → Bool} {k : Nat} (hk : k < l.length) : (l.take (k + 1)).all p = ((l.take k).all p && p l[k]) := by
  rw [take_snoc hk, List.all_append]
  simp
theorem all_miss {α : Type} {l : List α} {p : α → Bool} {k : Nat} (hk : k < l.length) (h : p l[k] = false) : l.all p = false := by
  rw [List.all_eq_false]
  exact ⟨l[k], List.getElem_mem hk, by rw [h]; simp⟩

theorem part_len {l p : List UInt8} (h : p ∈ listOf l) : p.length ≤ l.length := by
  unfold listOf clean at h
  obtain ⟨h1, _⟩ := List.mem_filter.1 h
  obtain ⟨q, hq, rfl⟩ := List.mem_map.1 h1
  exact Nat.le_trans (trim_le q) (cut_part_le q hq)
theorem listOf_len (l : List UInt8) : (listOf l).length ≤ l.length + 1 := Nat.le_trans (clean_len _) (cut_len l)

/-- The parts of the value of a name's headers. -/
def partsOf (n : ByteArray) (l : List Hd) : List (List UInt8) := listOf (joined (vals n l))
def allTok (ps : List (List UInt8)) : Bool := ps.all token
def lowP (p : List UInt8) : List UInt8 := p.map (turn 65 90 32)
/-- For how many seconds the answer holds. -/
def ageOf (l : List Hd) : Nat := if isNumber (joined (vals nameA l)) then number (joined (vals nameA l)) 86400 else 5
/-- Is a response of this state read? -/
def readOk (st : Int) (l : List Hd) (s : ByteArray) (k : Int) : Bool := (decide (200 ≤ st) && decide (st ≤ 299)) && (seen l s k && (allTok (partsOf nameM l) && allTok (partsOf nameH l)))
def mOf (ok : Bool) (l : List Hd) : List (List UInt8) := if ok then partsOf nameM l else []
def hOf (ok : Bool) (l : List Hd) : List (List UInt8) := if ok then (partsOf nameH l).map lowP else []
def aOf (ok : Bool) (l : List Hd) : Nat := if ok then ageOf l else 0

theorem age_le (l : List Hd) : ageOf l ≤ 86400 := by
  unfold ageOf
  split
  · unfold number
    split
    · exact Nat.min_le_right _ _
    · omega
  · omega

/-- The value v reads as an answer: methods, names, seconds. -/
def Ans (w : World) (v : Value) (ms hs : List (List UInt8)) (a : Nat) : Prop :=
  ∃ A n c B m d, v = .agg #[.slice A n c, .slice B m d, .int .i64 (a : Int)] ∧ Texts w A n ms ∧ Texts w B m hs ∧ Strs w A n c (ms.map mk) ∧ Strs w B m d (hs.map mk)
theorem Ans.later {w w' : World} {v : Value} {ms hs : List (List UInt8)} {a : Nat} (h : Ans w v ms hs a) (hb : Below w.heap.size w w') : Ans w' v ms hs a := by
  obtain ⟨A, n, c, B, m, d, e, h1, h2, h3, h4⟩ := h
  exact ⟨A, n, c, B, m, d, e, h1.later hb, h2.later hb, h3.later hb, h4.later hb⟩
theorem texts_none (w : World) : Texts w Option.none 0 [] := ⟨rfl, fun h => absurd h (by omega)⟩
theorem strs_none (w : World) : Strs w Option.none 0 0 [] := strs_empty w _ _ (Nat.zero_le _) (fun _ => rfl)
theorem ans_none (w : World) : Ans w (.agg #[.slice Option.none 0 0, .slice Option.none 0 0, .int .i64 0]) [] [] 0 :=
  ⟨_, _, _, _, _, _, rfl, texts_none w, texts_none w, strs_none w, strs_none w⟩
theorem ownsSt {w : World} {B : Nat} {v : Value} {l : List (List UInt8)} (h : OwnsT w B v l) : OwnsS w B v (l.map mk) := by
  unfold OwnsS
  rw [List.length_map, List.map_map]
  exact h
theorem ownsTs {w : World} {B : Nat} {v : Value} {zs : List ByteArray} {l : List (List UInt8)} (h : OwnsS w B v zs) (e : zs = l.map mk) : OwnsT w B v l := by
  subst e
  unfold OwnsS at h
  rw [List.length_map, List.map_map] at h
  exact h
theorem OwnsT.both {w : World} {B : Nat} {v : Value} {l : List (List UInt8)} (h : OwnsT w B v l) : ∃ A n c, v = .slice A n c ∧ Texts w A n l ∧ Strs w A n c (l.map mk) := by
  obtain ⟨A, c, e, hT⟩ := h.texts
  obtain ⟨A', c', e', hS⟩ := (ownsSt h).strs
  rw [List.length_map] at e' hS
  rw [e] at e'
  injection e' with e1 _ e3
  subst e1
  subst e3
  exact ⟨A, _, c, e, hT, hS⟩

/-- The three cells of an answer that is boxed anew. -/
theorem box_three (w : World) (x y z : Value) (t : TypeId) : (w.alloc (.cells #[x, y, z] t)).cell? ⟨w.heap.size, 0, Option.none⟩ = some x ∧ (w.alloc (.cells #[x, y, z] t)).cell? ⟨w.heap.size, 1, Option.none⟩ = some y ∧ (w.alloc (.cells #[x, y, z] t)).cell? ⟨w.heap.size, 2, Option.none⟩ = some z := by
  refine ⟨?_, ?_, ?_⟩
  · rw [cell_of_row _ w.heap.size 0 _ t (0, 0) (heap_alloc_new w _)]; rfl
  · rw [cell_of_row _ w.heap.size 1 _ t (0, 0) (heap_alloc_new w _)]; rfl
  · rw [cell_of_row _ w.heap.size 2 _ t (0, 0) (heap_alloc_new w _)]; rfl
theorem OwnsT.put {w W : World} {B : Nat} {v : Value} {l : List (List UInt8)} (h : OwnsT W B v l) (hB : w.heap.size + 1 < B) (x y z : Value) : OwnsT (((W.setCell ⟨w.heap.size + 1, 0, Option.none⟩ x).setCell ⟨w.heap.size + 1, 1, Option.none⟩ y).setCell ⟨w.heap.size + 1, 2, Option.none⟩ z) B v l :=
  ownsRow_setCell_below (ownsRow_setCell_below (ownsRow_setCell_below h (a := ⟨w.heap.size + 1, 0, Option.none⟩) hB x) (a := ⟨w.heap.size + 1, 1, Option.none⟩) hB y) (a := ⟨w.heap.size + 1, 2, Option.none⟩) hB z
end Go.Proofs.YtalnjlodldhfbaaGreatDoor
