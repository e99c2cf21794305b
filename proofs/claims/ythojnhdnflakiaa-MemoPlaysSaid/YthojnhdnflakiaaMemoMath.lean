/-
  Plain facts on the preflight cache: entries, what is put, dropped and let. No program is spoken of; no condition beyond those that each theorem states.
-/
import Derived.Test.YthojnhdnflakiaaAscCut
namespace Go.Proofs.Ythojnhdnflakiaa
open Go.Lib

/-- An entry: origin, address, credentials, method, header, time. -/
structure Ent where
  fr : ByteArray
  at_ : ByteArray
  cred : Bool
  me : ByteArray
  he : ByteArray
  til : Int

/-- Of one thing? -/
def sameKey (a b : Ent) : Bool := (a.fr.toList == b.fr.toList) && ((a.at_.toList == b.at_.toList) && ((a.cred == b.cred) && ((a.me.toList == b.me.toList) && (a.he.toList == b.he.toList))))
theorem text_same {a b : ByteArray} (h : (a.toList == b.toList) = true) : a = b := by
  rw [beq_iff_eq, ByteArray.toList_eq, ByteArray.toList_eq] at h
  rw [← mk_of a, h, mk_of]
theorem sameKey_eq {a b : Ent} (h : sameKey a b = true) : { a with til := b.til } = b := by
  unfold sameKey at h
  simp only [Bool.and_eq_true] at h
  obtain ⟨h1, h2, h3, h4, h5⟩ := h
  cases a
  cases b
  simp only [Ent.mk.injEq]
  exact ⟨text_same h1, text_same h2, by simpa using h3, text_same h4, text_same h5, trivial⟩
theorem sameKey_refl (a : Ent) : sameKey a a = true := by simp [sameKey]

/-- Where the entry of x's key stands; the length, if there is none. -/
def spot (l : List Ent) (x : Ent) : Nat := l.findIdx fun y => sameKey y x
def live (l : List Ent) (now : Int) : List Ent := l.filter fun y => decide (now < y.til)
/-- Room is made for one more. -/
def room (most : Nat) (l : List Ent) (now : Int) : List Ent :=
  let l1 := if most ≤ l.length then live l now else l
  if most ≤ l1.length then l1.drop 1 else l1
/-- x is put. -/
def put (most : Nat) (l : List Ent) (x : Ent) (now : Int) : List Ent := if spot l x < l.length then l.set (spot l x) x else room most l now ++ [x]
/-- What is of this origin and address goes. -/
def drop (l : List Ent) (fr at_ : ByteArray) : List Ent := l.filter fun y => !((y.fr.toList == fr.toList) && (y.at_.toList == at_.toList))
def fits (y : Ent) (have_ want : ByteArray) (but : Bool) : Bool := (have_.toList == want.toList) || (!y.cred && ((have_.toList == [42]) && (!(want.toList == []) && but)))
/-- Does y let x, at this time? -/
def letsE (x : Ent) (now : Int) (y : Ent) : Bool :=
  decide (now < y.til) && ((y.fr.toList == x.fr.toList) && ((y.at_.toList == x.at_.toList) && ((!x.cred || y.cred) && (fits y y.me x.me true && fits y y.he x.he (!(x.he.toList == [97, 117, 116, 104, 111, 114, 105, 122, 97, 116, 105, 111, 110]))))))
theorem letsE_is (x : Ent) (now : Int) (y : Ent) : letsE x now y = (decide (now < y.til) && ((y.fr.toList == x.fr.toList) && ((y.at_.toList == x.at_.toList) && ((!x.cred || y.cred) && (((y.me.toList == x.me.toList) || (!y.cred && ((y.me.toList == [42]) && (!(x.me.toList == []) && true)))) && ((y.he.toList == x.he.toList) || (!y.cred && ((y.he.toList == [42]) && (!(x.he.toList == []) && !(x.he.toList == [97, 117, 116, 104, 111, 114, 105, 122, 97, 116, 105, 111, 110])))))))))) := rfl
def has (l : List Ent) (x : Ent) (now : Int) : Bool := l.any (letsE x now)

theorem spot_le (l : List Ent) (x : Ent) : spot l x ≤ l.length := List.findIdx_le_length
theorem spot_lt {l : List Ent} {x : Ent} {k : Nat} (hk : k < spot l x) (hl : k < l.length) : sameKey l[k] x = false := by
  have := List.not_of_lt_findIdx (p := fun y => sameKey y x) (xs := l) hk
  simpa using this
theorem spot_at {l : List Ent} {x : Ent} (h : spot l x < l.length) : sameKey l[spot l x] x = true := List.findIdx_getElem (w := h)
theorem spot_is {l : List Ent} {x : Ent} {k : Nat} (hk : k < l.length) (h : sameKey l[k] x = true) (hb : ∀ j (hj : j < k), sameKey (l[j]'(by omega)) x = false) : spot l x = k := by
  rcases Nat.lt_trichotomy (spot l x) k with c | c | c
  · have := spot_at (l := l) (x := x) (by omega)
    rw [hb _ c] at this
    cases this
  · exact c
  · rw [spot_lt c hk] at h
    cases h
theorem spot_none {l : List Ent} {x : Ent} (hb : ∀ j (hj : j < l.length), sameKey l[j] x = false) : spot l x = l.length := by
  rcases Nat.lt_or_ge (spot l x) l.length with c | c
  · have := spot_at c
    rw [hb _ c] at this
    cases this
  · have := spot_le l x
    omega
theorem filter_step {α : Type} {l : List α} {p : α → Bool} {k : Nat} (hk : k < l.length) : (l.take (k + 1)).filter p = (l.take k).filter p ++ (if p l[k] then [l[k]] else []) := by
  rw [List.take_add_one, List.getElem?_eq_getElem hk, List.filter_append]
  congr 1
  show [l[k]].filter p = _
  rw [List.filter_cons]
  split <;> simp
theorem room_len {most : Nat} (hm : 1 ≤ most) {l : List Ent} (hl : l.length ≤ most) (now : Int) : (room most l now).length + 1 ≤ most := by
  have h1 : (if most ≤ l.length then live l now else l).length ≤ most := by
    split
    · exact Nat.le_trans (List.length_filter_le _ _) hl
    · exact hl
  have e : room most l now = if most ≤ (if most ≤ l.length then live l now else l).length then (if most ≤ l.length then live l now else l).drop 1 else (if most ≤ l.length then live l now else l) := rfl
  rw [e]
  generalize (if most ≤ l.length then live l now else l) = l1 at h1
  by_cases h2 : most ≤ l1.length
  · rw [if_pos h2, List.length_drop]; omega
  · rw [if_neg h2]; omega
/-- There are never more than may be. -/
theorem put_len {most : Nat} (hm : 1 ≤ most) {l : List Ent} (hl : l.length ≤ most) (x : Ent) (now : Int) : (put most l x now).length ≤ most := by
  unfold put
  split
  · rw [List.length_set]; exact hl
  · rw [List.length_append]; exact room_len hm hl now
theorem drop_len (l : List Ent) (fr at_ : ByteArray) : (drop l fr at_).length ≤ l.length := List.length_filter_le _ _
theorem put_mem (most : Nat) (l : List Ent) (x : Ent) (now : Int) : x ∈ put most l x now := by
  unfold put
  split
  · rename_i h
    exact List.mem_set h x
  · simp
/-- What was put is let till its time. -/
theorem has_put {most : Nat} {l : List Ent} {x : Ent} {now : Int} (h : now < x.til) : has (put most l x now) x now = true := by
  unfold has
  rw [List.any_eq_true]
  refine ⟨x, put_mem most l x now, ?_⟩
  simp [letsE, fits, h]
theorem has_dropped (l : List Ent) (x : Ent) (now : Int) : has (drop l x.fr x.at_) x now = false := by
  unfold has
  rw [List.any_eq_false]
  intro y hy
  have h := (List.mem_filter.1 hy).2
  simp only [letsE, Bool.and_eq_true, not_and]
  intro _ h1 h2
  rw [h1, h2] at h
  cases h
end Go.Proofs.Ythojnhdnflakiaa
