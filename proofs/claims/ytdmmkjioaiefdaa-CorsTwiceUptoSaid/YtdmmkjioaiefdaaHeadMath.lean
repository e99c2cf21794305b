/-
  Plain facts on lists of headers: which names match, what is got, set and dropped. No program is spoken of; no condition beyond those that each theorem states.
-/
import Derived.Test.YtdmmkjioaiefdaaAscCut
import Derived.Test.YtdmmkjioaiefdaaAscCase
import Derived.Lib.Join
namespace Go.Proofs.Ytdmmkjioaiefdaa
open Go.Lib

/-- A header: its name and its value. -/
abbrev Hd := ByteArray × ByteArray

/-- A text's bytes with small letters. -/
def lo (s : ByteArray) : List UInt8 := s.data.toList.map (turn 65 90 32)
/-- Do names match? -/
def alike (a b : ByteArray) : Bool := lo a == lo b
theorem alike_refl (a : ByteArray) : alike a a = true := by simp [alike]
theorem alike_comm (a b : ByteArray) : alike a b = alike b a := by
  unfold alike
  rw [Bool.eq_iff_iff]
  simp only [beq_iff_eq]
  exact eq_comm
theorem alike_trans {a b c : ByteArray} (h : alike a b = true) : alike a c = alike b c := by
  unfold alike at h ⊢
  rw [beq_iff_eq] at h
  rw [h]
/-- Does a header match one of the names? -/
def hit (ns : List ByteArray) (h : Hd) : Bool := ns.any fun n => alike h.1 n
theorem hit_one (n : ByteArray) (h : Hd) : hit [n] h = alike h.1 n := by simp [hit]

def vals (n : ByteArray) (l : List Hd) : List ByteArray := (l.filter fun h => alike h.1 n).map (·.2)
def sep2 : List UInt8 := [44, 32]
def joined (xs : List ByteArray) : List UInt8 := Lib.join (xs.map (·.data.toList)) sep2
def without (ns : List ByteArray) (l : List Hd) : List Hd := l.filter fun h => !hit ns h
/-- Where the first header of a name stands; the length, if there is none. -/
def placeOf (n : ByteArray) (l : List Hd) : Nat := l.findIdx fun h => alike h.1 n
def setOf (l : List Hd) (h : Hd) : List Hd := l.take (placeOf h.1 l) ++ h :: without [h.1] (l.drop (placeOf h.1 l))

theorem vals_append (n : ByteArray) (a b : List Hd) : vals n (a ++ b) = vals n a ++ vals n b := by simp [vals]
theorem vals_cons (n : ByteArray) (h : Hd) (l : List Hd) : vals n (h :: l) = if alike h.1 n then h.2 :: vals n l else vals n l := by
  unfold vals
  rw [List.filter_cons]
  split <;> simp
theorem vals_step {n : ByteArray} {l : List Hd} {k : Nat} (hk : k < l.length) : vals n (l.take (k + 1)) = vals n (l.take k) ++ (if alike l[k].1 n then [l[k].2] else []) := by
  rw [List.take_add_one, List.getElem?_eq_getElem hk, vals_append]
  congr 1
  show vals n [l[k]] = _
  rw [vals_cons]
  rfl
theorem vals_len (n : ByteArray) (l : List Hd) : (vals n l).length ≤ l.length := by
  unfold vals
  rw [List.length_map]
  exact List.length_filter_le _ _
theorem without_append (ns : List ByteArray) (a b : List Hd) : without ns (a ++ b) = without ns a ++ without ns b := by simp [without]
theorem without_cons (ns : List ByteArray) (h : Hd) (l : List Hd) : without ns (h :: l) = if hit ns h then without ns l else h :: without ns l := by
  unfold without
  rw [List.filter_cons]
  cases hit ns h <;> simp
theorem without_step {ns : List ByteArray} {l : List Hd} {k : Nat} (hk : k < l.length) : without ns (l.take (k + 1)) = without ns (l.take k) ++ (if hit ns l[k] then [] else [l[k]]) := by
  rw [List.take_add_one, List.getElem?_eq_getElem hk, without_append]
  congr 1
  show without ns [l[k]] = _
  rw [without_cons]
  rfl
theorem without_len (ns : List ByteArray) (l : List Hd) : (without ns l).length ≤ l.length := List.length_filter_le _ _
theorem without_twice (ns : List ByteArray) (l : List Hd) : without ns (without ns l) = without ns l := by
  unfold without
  rw [List.filter_filter]
  simp

theorem place_le (n : ByteArray) (l : List Hd) : placeOf n l ≤ l.length := List.findIdx_le_length
theorem place_lt {n : ByteArray} {l : List Hd} {k : Nat} (hk : k < placeOf n l) (hl : k < l.length) : alike l[k].1 n = false := by
  have := List.not_of_lt_findIdx (p := fun h : Hd => alike h.1 n) (xs := l) hk
  simpa using this
theorem place_at {n : ByteArray} {l : List Hd} (h : placeOf n l < l.length) : alike l[placeOf n l].1 n = true := List.findIdx_getElem (w := h)
theorem place_is {n : ByteArray} {l : List Hd} {k : Nat} (hk : k < l.length) (h : alike l[k].1 n = true) (hb : ∀ j (hj : j < k), alike (l[j]'(by omega)).1 n = false) : placeOf n l = k := by
  rcases Nat.lt_trichotomy (placeOf n l) k with c | c | c
  · have := place_at (n := n) (l := l) (by omega)
    rw [hb _ c] at this
    cases this
  · exact c
  · rw [place_lt c hk] at h
    cases h
theorem place_none {n : ByteArray} {l : List Hd} (hb : ∀ j (hj : j < l.length), alike l[j].1 n = false) : placeOf n l = l.length := by
  rcases Nat.lt_or_ge (placeOf n l) l.length with c | c
  · have := place_at c
    rw [hb _ c] at this
    cases this
  · have := place_le n l
    omega

theorem before_place (n : ByteArray) (l : List Hd) : ∀ h ∈ l.take (placeOf n l), alike h.1 n = false := by
  intro h hh
  obtain ⟨j, hj, e⟩ := List.getElem_of_mem hh
  rw [List.length_take] at hj
  rw [List.getElem_take] at e
  rw [← e]
  exact place_lt (by omega) (by omega)
theorem without_before (n : ByteArray) (l : List Hd) : without [n] (l.take (placeOf n l)) = l.take (placeOf n l) := by
  unfold without
  rw [List.filter_eq_self]
  intro h hh
  rw [hit_one, before_place n l h hh]
  rfl
theorem vals_before (n : ByteArray) (l : List Hd) : vals n (l.take (placeOf n l)) = [] := by
  unfold vals
  rw [List.map_eq_nil_iff, List.filter_eq_nil_iff]
  intro h hh
  rw [before_place n l h hh]
  simp
theorem vals_without (n : ByteArray) (l : List Hd) : vals n (without [n] l) = [] := by
  unfold vals without
  rw [List.map_eq_nil_iff, List.filter_eq_nil_iff]
  intro h hh
  rw [List.mem_filter, hit_one] at hh
  simpa using hh.2
/-- What is dropped of another name leaves what is got. -/
theorem vals_other {n m : ByteArray} (h : alike n m = false) (l : List Hd) : vals n (without [m] l) = vals n l := by
  induction l with
  | nil => rfl
  | cons x r ih =>
    rw [without_cons, vals_cons, hit_one]
    cases hm : alike x.1 m with
    | true =>
      have : alike x.1 n = false := by
        rw [alike_comm x.1 n]
        rw [Bool.eq_false_iff]
        intro c
        rw [alike_trans c] at h
        rw [h] at hm
        cases hm
      rw [this]
      simpa using ih
    | false =>
      simp only [Bool.false_eq_true, if_false]
      rw [vals_cons, ih]

theorem set_split (l : List Hd) (h : Hd) : l.take (placeOf h.1 l) ++ without [h.1] (l.drop (placeOf h.1 l)) = without [h.1] l := by
  conv => rhs; rw [← List.take_append_drop (placeOf h.1 l) l]
  rw [without_append, without_before]
theorem set_dropped (l : List Hd) (h : Hd) : without [h.1] (setOf l h) = without [h.1] l := by
  unfold setOf
  rw [without_append, without_cons, hit_one, alike_refl, if_pos rfl, without_before, without_twice]
  exact set_split l h
theorem set_got (l : List Hd) (h : Hd) : vals h.1 (setOf l h) = [h.2] := by
  unfold setOf
  rw [vals_append, vals_cons, alike_refl, if_pos rfl, vals_before, vals_without]
  rfl
theorem set_other {l : List Hd} {h : Hd} {n : ByteArray} (hn : alike n h.1 = false) : vals n (setOf l h) = vals n l := by
  have e : alike h.1 n = false := by rw [alike_comm]; exact hn
  unfold setOf
  rw [vals_append, vals_cons, e]
  simp only [Bool.false_eq_true, if_false]
  rw [vals_other hn, ← vals_append, List.take_append_drop]
theorem set_place (l : List Hd) (h : Hd) : placeOf h.1 (setOf l h) = placeOf h.1 l := by
  have hle := place_le h.1 l
  have hlen : (l.take (placeOf h.1 l)).length = placeOf h.1 l := by rw [List.length_take]; omega
  have hlt : placeOf h.1 l < (setOf l h).length := by
    unfold setOf
    rw [List.length_append, hlen, List.length_cons]
    omega
  apply place_is hlt
  · have : (setOf l h)[placeOf h.1 l]? = some h := by
      unfold setOf
      rw [List.getElem?_append_right (by omega)]
      simp [hlen]
    rw [List.getElem?_eq_getElem hlt, Option.some.injEq] at this
    rw [this]
    exact alike_refl _
  · intro j hj
    have : (setOf l h)[j]? = l[j]? := by
      unfold setOf
      rw [List.getElem?_append_left (by omega), List.getElem?_take, if_pos hj]
    rw [List.getElem?_eq_getElem (by omega), List.getElem?_eq_getElem (by omega), Option.some.injEq] at this
    rw [this]
    exact place_lt hj (by omega)
theorem set_twice (l : List Hd) (h : Hd) : setOf (setOf l h) h = setOf l h := by
  have hle := place_le h.1 l
  have hlen : (l.take (placeOf h.1 l)).length = placeOf h.1 l := by rw [List.length_take]; omega
  have e : setOf (setOf l h) h = (setOf l h).take (placeOf h.1 l) ++ h :: without [h.1] ((setOf l h).drop (placeOf h.1 l)) := by
    have : ∀ t, setOf t h = t.take (placeOf h.1 t) ++ h :: without [h.1] (t.drop (placeOf h.1 t)) := fun _ => rfl
    rw [this (setOf l h), set_place]
  rw [e]
  have e1 : (setOf l h).take (placeOf h.1 l) = l.take (placeOf h.1 l) := by
    unfold setOf
    rw [List.take_append_of_le_length (by omega), List.take_take]
    congr 1
    omega
  have e2 : (setOf l h).drop (placeOf h.1 l) = h :: without [h.1] (l.drop (placeOf h.1 l)) := by
    unfold setOf
    rw [List.drop_append_of_le_length (by omega), List.drop_of_length_le (by omega), List.nil_append]
  rw [e1, e2, without_cons, hit_one, alike_refl, if_pos rfl, without_twice]
  rfl
theorem set_len (l : List Hd) (h : Hd) : (setOf l h).length ≤ l.length + 1 := by
  unfold setOf
  have := without_len [h.1] (l.drop (placeOf h.1 l))
  simp only [List.length_append, List.length_take, List.length_cons, List.length_drop] at this ⊢
  omega

/-- The reference's way to set: what stands for the first k headers, and whether h is among it. -/
def setUp (h : Hd) (l : List Hd) : List Hd × Bool := (if l.any (fun x => alike x.1 h.1) then setOf l h else l, l.any fun x => alike x.1 h.1)
theorem any_place {n : ByteArray} {l : List Hd} (h : l.any (fun x => alike x.1 n) = true) : placeOf n l < l.length := by
  unfold placeOf
  rw [List.findIdx_lt_length]
  simpa using h
theorem none_place {n : ByteArray} {l : List Hd} (h : l.any (fun x => alike x.1 n) = false) : placeOf n l = l.length := by
  apply place_none
  intro j hj
  rw [List.any_eq_false] at h
  have := h l[j] (List.getElem_mem hj)
  simpa using this
theorem place_append {n : ByteArray} {l r : List Hd} (h : l.any (fun x => alike x.1 n) = true) : placeOf n (l ++ r) = placeOf n l := by
  have hp := any_place h
  apply place_is (by rw [List.length_append]; omega)
  · rw [List.getElem_append_left hp]
    exact place_at hp
  · intro j hj
    rw [List.getElem_append_left (by omega)]
    exact place_lt hj (by omega)
theorem set_append {l r : List Hd} {h : Hd} (ha : l.any (fun x => alike x.1 h.1) = true) : setOf (l ++ r) h = setOf l h ++ without [h.1] r := by
  have hp := any_place ha
  unfold setOf
  rw [place_append ha, List.take_append_of_le_length (by omega), List.drop_append_of_le_length (by omega), without_append, List.append_assoc, List.cons_append]
/-- One header more, of another name. -/
theorem setUp_other {h x : Hd} {l : List Hd} (hx : alike x.1 h.1 = false) : setUp h (l ++ [x]) = ((setUp h l).1 ++ [x], (setUp h l).2) := by
  unfold setUp
  have e : (l ++ [x]).any (fun x => alike x.1 h.1) = l.any (fun x => alike x.1 h.1) := by simp [hx]
  simp only [e]
  cases ha : l.any (fun x => alike x.1 h.1) with
  | true => simp only [if_true, set_append ha, without_cons, hit_one, hx, Bool.false_eq_true, if_false]; rfl
  | false => simp
/-- The first one of the name. -/
theorem setUp_first {h x : Hd} {l : List Hd} (hx : alike x.1 h.1 = true) (ha : (setUp h l).2 = false) : setUp h (l ++ [x]) = ((setUp h l).1 ++ [h], true) := by
  unfold setUp at ha ⊢
  have e : (l ++ [x]).any (fun x => alike x.1 h.1) = true := by simp [hx]
  simp only at ha
  simp only [e, ha, if_true, Bool.false_eq_true, if_false]
  have hp : placeOf h.1 (l ++ [x]) = l.length := by
    have hn := none_place ha
    apply place_is (by simp)
    · simpa using hx
    · intro j hj
      rw [List.getElem_append_left hj]
      exact place_lt (by omega) hj
  unfold setOf
  rw [hp]
  simp [hit_one, hx, without]
/-- A later one. -/
theorem setUp_later {h x : Hd} {l : List Hd} (hx : alike x.1 h.1 = true) (ha : (setUp h l).2 = true) : setUp h (l ++ [x]) = ((setUp h l).1, true) := by
  unfold setUp at ha ⊢
  have e : (l ++ [x]).any (fun x => alike x.1 h.1) = true := by simp [hx]
  simp only at ha
  simp only [e, ha, if_true, set_append ha, without_cons, hit_one, hx]
  simp [without]
theorem setUp_end_yes {h : Hd} {l : List Hd} (ha : (setUp h l).2 = true) : (setUp h l).1 = setOf l h := by
  unfold setUp at ha ⊢
  simp only at ha
  simp [ha]
theorem setUp_end_no {h : Hd} {l : List Hd} (ha : (setUp h l).2 = false) : (setUp h l).1 ++ [h] = setOf l h := by
  unfold setUp at ha ⊢
  simp only at ha
  simp only [ha, Bool.false_eq_true, if_false]
  unfold setOf
  rw [none_place ha]
  simp [without]
theorem setUp_len (h : Hd) (l : List Hd) : (setUp h l).1.length ≤ l.length + 1 := by
  unfold setUp
  simp only
  split
  · exact set_len l h
  · exact Nat.le_succ _
theorem take_snoc {α : Type} {l : List α} {k : Nat} (hk : k < l.length) : l.take (k + 1) = l.take k ++ [l[k]] := by
  rw [List.take_add_one, List.getElem?_eq_getElem hk]
  rfl
theorem setUp_nil (h : Hd) : setUp h [] = ([], false) := rfl

/-- What the reference's Get has: one value more. -/
theorem joined_nil : joined [] = [] := rfl
theorem joined_one (x : ByteArray) : joined [x] = x.data.toList := by
  unfold joined
  simp [Lib.join_one]
theorem joined_snoc {xs : List ByteArray} (x : ByteArray) (h : xs ≠ []) : joined (xs ++ [x]) = joined xs ++ sep2 ++ x.data.toList := by
  cases xs with
  | nil => exact absurd rfl h
  | cons y r =>
    unfold joined
    rw [List.cons_append, List.map_cons, List.map_cons, Lib.join_cons, Lib.join_cons, List.map_append]
    simp [Lib.joinTail, List.append_assoc]
/-- The bytes of all values. -/
def bytesIn (l : List Hd) : Nat := (l.map fun h => h.1.size + h.2.size + 1).sum
theorem bytesIn_cons (h : Hd) (l : List Hd) : bytesIn (h :: l) = h.1.size + h.2.size + 1 + bytesIn l := by simp [bytesIn]
theorem bytesIn_take (l : List Hd) (k : Nat) : bytesIn (l.take k) ≤ bytesIn l := by
  induction l generalizing k with
  | nil => simp
  | cons x r ih =>
    cases k with
    | zero => simp [bytesIn]
    | succ k =>
      rw [List.take_succ_cons, bytesIn_cons, bytesIn_cons]
      have := ih k
      omega
theorem bytesIn_append (a b : List Hd) : bytesIn (a ++ b) = bytesIn a + bytesIn b := by simp [bytesIn]
theorem bytesIn_filter (p : Hd → Bool) (l : List Hd) : bytesIn (l.filter p) ≤ bytesIn l := by
  induction l with
  | nil => simp
  | cons x r ih =>
    rw [List.filter_cons]
    split
    · rw [bytesIn_cons, bytesIn_cons]; omega
    · rw [bytesIn_cons]; omega
theorem bytesIn_set (l : List Hd) (h : Hd) : bytesIn (setOf l h) ≤ bytesIn l + bytesIn [h] := by
  unfold setOf
  rw [bytesIn_append, bytesIn_cons]
  have h1 : bytesIn (without [h.1] (l.drop (placeOf h.1 l))) ≤ bytesIn (l.drop (placeOf h.1 l)) := bytesIn_filter _ _
  have h2 : bytesIn l = bytesIn (l.take (placeOf h.1 l)) + bytesIn (l.drop (placeOf h.1 l)) := by rw [← bytesIn_append, List.take_append_drop]
  have h3 : bytesIn [h] = h.1.size + h.2.size + 1 := by simp [bytesIn]
  omega
theorem bytesIn_mem {l : List Hd} {h : Hd} (hm : h ∈ l) : h.1.size + h.2.size + 1 ≤ bytesIn l := by
  induction l with
  | nil => cases hm
  | cons x r ih =>
    rw [bytesIn_cons]
    rcases List.mem_cons.1 hm with rfl | hm
    · omega
    · have := ih hm; omega
theorem bytesIn_len (l : List Hd) : l.length ≤ bytesIn l := by
  induction l with
  | nil => simp
  | cons x r ih => rw [bytesIn_cons, List.length_cons]; omega
theorem joined_len (n : ByteArray) (l : List Hd) : (joined (vals n l)).length ≤ 3 * bytesIn l := by
  have key : ∀ xs : List ByteArray, (joined xs).length ≤ Lib.lens (xs.map (·.data.toList)) + 2 * xs.length := fun xs => by
    cases xs with
    | nil => simp [joined_nil]
    | cons x r =>
      unfold joined
      rw [List.map_cons, Lib.join_length]
      simp [sep2]
      omega
  have h2 : Lib.lens ((vals n l).map (·.data.toList)) + (vals n l).length ≤ bytesIn l := by
    induction l with
    | nil => simp [vals, Lib.lens]
    | cons x r ih =>
      rw [vals_cons, bytesIn_cons]
      split
      · simp only [List.map_cons, Lib.lens, List.sum_cons, List.length_cons] at ih ⊢
        rw [← size_len]
        omega
      · omega
  have := key (vals n l)
  omega
end Go.Proofs.Ytdmmkjioaiefdaa
