/-
  Texts of one sort, one behind the other: numbers, memory, regions, strings, headers. Conditions: those that each theorem states.
-/
import Derived.Test.YtodncamohimmmaaLow4
import Derived.Test.YtodncamohimmmaaLow1
import Derived.Deep.CutBlock
import Derived.Test.YtodncamohimmmaaLow12

namespace Go.Proofs.Ytodncamohimmmaa
open Go.RowKit Go.Lib Go.Shelf

theorem getH {l : List Hd} {k : Nat} (hk : k < l.length) : l[k]? = some l[k] := List.getElem?_eq_getElem hk
theorem hd_eq {x y : Hd} (h1 : (x.1.toList == y.1.toList) = true) (h2 : (x.2.toList == y.2.toList) = true) : x = y := by
  rw [beq_iff_eq, ByteArray.toList_eq, ByteArray.toList_eq] at h1 h2
  obtain ⟨⟨⟨x1⟩⟩, ⟨⟨x2⟩⟩⟩ := x
  obtain ⟨⟨⟨y1⟩⟩, ⟨⟨y2⟩⟩⟩ := y
  simp only at h1 h2
  subst h1
  subst h2
  rfl
theorem hd_ne {x y : Hd} (h : (x.1.toList == y.1.toList) = false ∨ (x.2.toList == y.2.toList) = false) : x ≠ y := fun e => by
  subst e
  simp at h
theorem hd_ways (x y : Hd) : ((x.1.toList == y.1.toList) = true ∧ (x.2.toList == y.2.toList) = true ∧ x = y) ∨ ((x.1.toList == y.1.toList) = false ∧ x ≠ y) ∨ ((x.1.toList == y.1.toList) = true ∧ (x.2.toList == y.2.toList) = false ∧ x ≠ y) := by
  rcases Bool.eq_false_or_eq_true (x.1.toList == y.1.toList) with q1 | q1
  · rcases Bool.eq_false_or_eq_true (x.2.toList == y.2.toList) with q2 | q2
    · exact .inl ⟨q1, q2, hd_eq q1 q2⟩
    · exact .inr (.inr ⟨q1, q2, hd_ne (.inr q2)⟩)
  · exact .inr (.inl ⟨q1, hd_ne (.inl q1)⟩)

theorem ends_ret {a l : List Hd} {x y : Nat} (h1 : endA a l = x) (h2 : endB a l = y) : Ending.returned (.tuple #[.int .i64 x, .int .i64 y]) = .returned (.tuple #[.int .i64 (endA a l), .int .i64 (endB a l)]) := by rw [h1, h2]

set_option maxHeartbeats 32000000 in
set_option maxRecDepth 100000 in
theorem refEnds_any (A B : Option Addr) (n m c d : Nat) (a l : List Hd) (w : World) (ha : Hds w A n c a) (hl : Hds w B m d l) (hn : n ≤ 1000) (hm : m ≤ 1000) :
    Calls Try.prog 53 #[.slice A n c, .slice B m d] w fun e w' => e = .returned (.tuple #[.int .i64 (endA a l), .int .i64 (endB a l)]) ∧ Below w.heap.size w w' := by
  have hal := Lib.hid ha.len
  have hll := Lib.hid hl.len
  have ha' := Lib.hid ha
  have hl' := Lib.hid hl
  clear ha hl
  go_enter Try.func53, Try.ntmps53
  go_upto_block 0 with fail
  go_cut [6] from 8 to 30 (fun i wr => i = .int .i64 (endA a l) ∧ Below w.heap.size w wr)
  case first =>
    go_wp2_with fail
    go_loopw [6] (fun i wr => ∃ k : Nat, k ≤ n ∧ k ≤ m ∧ i = .int .i64 k ∧ (∀ j, j < k → a[j]? = l[j]?) ∧ Below w.heap.size w wr) (fun i _ => n - (RowKit.intOf i).toNat)
    case atStart => exact ⟨0, Nat.zero_le _, Nat.zero_le _, rfl, (fun j hj => absurd hj (by omega)), Below.refl _ _⟩
    case round =>
      obtain ⟨k, hkn, hkm, rfl, hsame, hb⟩ := hrel
      have hsame' := Lib.hid hsame
      have hb' := Lib.hid hb
      clear hsame hb
      by_cases hgo : k < n ∧ k < m ∧ a[k]? = l[k]?
      · obtain ⟨h1, h2, he⟩ := hgo
        obtain ⟨ga, oa, rfl, h3, h4⟩ := (ha'.out.later hb'.out).at h1
        obtain ⟨gb, ob, rfl, h5, h6⟩ := (hl'.out.later hb'.out).at h2
        rw [getH (by rw [hal.out]; exact h1), getH (by rw [hll.out]; exact h2)] at he
        injection he with he
        rw [← he] at h5 h6
        have he' := Lib.hid he
        clear he
        generalize (a[k]'(by rw [hal.out]; exact h1)).1 = x at h3 h5
        generalize (a[k]'(by rw [hal.out]; exact h1)).2 = y at h4 h6
        go_wp2
        go_region
        all_goals go_wp2
        all_goals
          go_roundw
          case rel =>
            refine ⟨k + 1, by omega, by omega, by go_num, fun j hj => ?_, ?_⟩
            · by_cases ej : j = k
              · subst ej
                rw [getH (by rw [hal.out]; exact h1), getH (by rw [hll.out]; exact h2), he'.out]
              · exact hsame'.out j (by omega)
            · first | exact hb'.out.drew | exact below_drawn hb'.out _
          case measure => simp [RowKit.intOf]; omega
      · have hA : endA a l = k := common_is a l k (by rw [hal.out]; exact hkn) (by rw [hll.out]; exact hkm) hsame'.out (by
          rw [hal.out, hll.out]
          by_cases h1 : k = n
          · exact .inl h1
          · by_cases h2 : k = m
            · exact .inr (.inl h2)
            · exact .inr (.inr fun e => hgo ⟨by omega, by omega, e⟩))
        have hA' := Lib.hid hA
        clear hA
        by_cases h1 : k < n
        · by_cases h2 : k < m
          · obtain ⟨ga, oa, rfl, h3, h4⟩ := (ha'.out.later hb'.out).at h1
            obtain ⟨gb, ob, rfl, h5, h6⟩ := (hl'.out.later hb'.out).at h2
            have hw := hd_ways (a[k]'(by rw [hal.out]; exact h1)) (l[k]'(by rw [hll.out]; exact h2))
            have hno : ¬ (a[k]'(by rw [hal.out]; exact h1)) = (l[k]'(by rw [hll.out]; exact h2)) := fun e => hgo ⟨h1, h2, by rw [getH (by rw [hal.out]; exact h1), getH (by rw [hll.out]; exact h2), e]⟩
            generalize (a[k]'(by rw [hal.out]; exact h1)) = x at h3 h4 hw hno
            generalize (l[k]'(by rw [hll.out]; exact h2)) = y at h5 h6 hw hno
            obtain ⟨x1, x2⟩ := x
            obtain ⟨y1, y2⟩ := y
            simp only at h3 h4 h5 h6 hw
            rcases hw with ⟨_, _, e⟩ | ⟨q1, _⟩ | ⟨q1, q2, _⟩
            · exact absurd e hno
            · clear hno hgo
              go_wp2
              go_region
              all_goals go_wp2
              all_goals
                go_meet
                refine ⟨by rw [hA'.out], ?_⟩
                first | exact hb'.out.drew | exact below_drawn hb'.out _
            · clear hno hgo
              go_wp2
              go_region
              all_goals go_wp2
              all_goals
                go_meet
                refine ⟨by rw [hA'.out], ?_⟩
                first | exact hb'.out.drew | exact below_drawn hb'.out _
          · clear hgo
            go_wp2
            go_region
            all_goals go_wp2
            all_goals
              go_meet
              refine ⟨by rw [hA'.out], ?_⟩
              first | exact hb'.out.drew | exact below_drawn hb'.out _
        · clear hgo
          go_wp2
          go_region
          all_goals go_wp2
          all_goals
            go_meet
            refine ⟨by rw [hA'.out], ?_⟩
            first | exact hb'.out.drew | exact below_drawn hb'.out _
  case rest =>
    obtain ⟨rfl, hb⟩ := hcut
    have hb' := Lib.hid hb
    obtain ⟨k, hk⟩ : ∃ k, k = endA a l := ⟨_, rfl⟩
    have hle := ends_le a l
    rw [hal.out, hll.out] at hle
    rw [← hk] at hle ⊢
    have hA' := Lib.hid hk.symm
    have hkn : k ≤ n := by omega
    have hkm : k ≤ m := by omega
    clear hb hk hle
    go_wp2
    go_loopw [7] (fun i wr => ∃ z : Nat, k + z ≤ n ∧ k + z ≤ m ∧ i = .int .i64 z ∧ (∀ j, j < z → a[n - 1 - j]? = l[m - 1 - j]?) ∧ Below w.heap.size w wr) (fun i _ => n - (RowKit.intOf i).toNat)
    case atStart => exact ⟨0, by omega, by omega, rfl, (fun j hj => absurd hj (by omega)), hb'.out⟩
    case round =>
      obtain ⟨z, hzn, hzm, rfl, hsame2, hb2⟩ := hrel
      have hsame2' := Lib.hid hsame2
      have hb2' := Lib.hid hb2
      clear hsame2 hb2
      have e1 : IntKind.i64.wrap ((k : Int) + (z : Int)) = ((k + z : Nat) : Int) := by rw [IntWalk.i64_in _ ⟨by omega, by omega⟩]; omega
      by_cases hgo2 : k + z < n ∧ k + z < m ∧ a[n - 1 - z]? = l[m - 1 - z]?
      · obtain ⟨h1, h2, he⟩ := hgo2
        have g1 : n - 1 - z < n := by omega
        have g2 : m - 1 - z < m := by omega
        obtain ⟨ga, oa, rfl, h3, h4⟩ := (ha'.out.later hb2'.out).at g1
        obtain ⟨gb, ob, rfl, h5, h6⟩ := (hl'.out.later hb2'.out).at g2
        rw [getH (by rw [hal.out]; exact g1), getH (by rw [hll.out]; exact g2)] at he
        injection he with he
        rw [← he] at h5 h6
        have he' := Lib.hid he
        clear he
        generalize (a[n - 1 - z]'(by rw [hal.out]; exact g1)).1 = x at h3 h5
        generalize (a[n - 1 - z]'(by rw [hal.out]; exact g1)).2 = y at h4 h6
        obtain ⟨p, hp⟩ : ∃ p, p = n - 1 - z := ⟨_, rfl⟩
        obtain ⟨r, hr⟩ : ∃ r, r = m - 1 - z := ⟨_, rfl⟩
        rw [← hp] at h3 h4
        rw [← hr] at h5 h6
        have f1 : IntKind.i64.wrap ((n : Int) - 1) = (n : Int) - 1 := IntWalk.i64_in _ ⟨by omega, by omega⟩
        have f2 : IntKind.i64.wrap ((n : Int) - 1 - (z : Int)) = (p : Int) := by rw [IntWalk.i64_in _ ⟨by omega, by omega⟩]; omega
        have f3 : IntKind.i64.wrap ((m : Int) - 1) = (m : Int) - 1 := IntWalk.i64_in _ ⟨by omega, by omega⟩
        have f4 : IntKind.i64.wrap ((m : Int) - 1 - (z : Int)) = (r : Int) := by rw [IntWalk.i64_in _ ⟨by omega, by omega⟩]; omega
        have f5 : p < n := by omega
        have f6 : r < m := by omega
        clear hp hr
        have d1 : decide ((k : Int) + (z : Int) < (n : Int)) = true := decide_eq_true (by omega)
        have d2 : decide ((k : Int) + (z : Int) < (m : Int)) = true := decide_eq_true (by omega)
        go_wp2
        go_region
        all_goals go_wp2
        all_goals
          go_roundw
          case rel =>
            refine ⟨z + 1, by omega, by omega, by go_num, fun j hj => ?_, ?_⟩
            · by_cases ej : j = z
              · subst ej
                rw [getH (by rw [hal.out]; exact g1), getH (by rw [hll.out]; exact g2), he'.out]
              · exact hsame2'.out j (by omega)
            · first | exact hb2'.out.drew | exact below_drawn hb2'.out _
          case measure => simp [RowKit.intOf]; omega
      · have hB : endB a l = z := endB_is a l k z hA'.out (by rw [hal.out]; exact hzn) (by rw [hll.out]; exact hzm) (by rw [hal.out, hll.out]; exact hsame2'.out) (by
          rw [hal.out, hll.out]
          by_cases h1 : k + z = n
          · exact .inl h1
          · by_cases h2 : k + z = m
            · exact .inr (.inl h2)
            · exact .inr (.inr fun e => hgo2 ⟨by omega, by omega, e⟩))
        have hB' := Lib.hid hB
        clear hB
        by_cases h1 : k + z < n
        · by_cases h2 : k + z < m
          · have g1 : n - 1 - z < n := by omega
            have g2 : m - 1 - z < m := by omega
            obtain ⟨ga, oa, rfl, h3, h4⟩ := (ha'.out.later hb2'.out).at g1
            obtain ⟨gb, ob, rfl, h5, h6⟩ := (hl'.out.later hb2'.out).at g2
            have hw := hd_ways (a[n - 1 - z]'(by rw [hal.out]; exact g1)) (l[m - 1 - z]'(by rw [hll.out]; exact g2))
            have hno : ¬ (a[n - 1 - z]'(by rw [hal.out]; exact g1)) = (l[m - 1 - z]'(by rw [hll.out]; exact g2)) := fun e => hgo2 ⟨h1, h2, by rw [getH (by rw [hal.out]; exact g1), getH (by rw [hll.out]; exact g2), e]⟩
            generalize (a[n - 1 - z]'(by rw [hal.out]; exact g1)) = x at h3 h4 hw hno
            generalize (l[m - 1 - z]'(by rw [hll.out]; exact g2)) = y at h5 h6 hw hno
            obtain ⟨x1, x2⟩ := x
            obtain ⟨y1, y2⟩ := y
            simp only at h3 h4 h5 h6 hw
            rcases hw with ⟨_, _, e⟩ | ⟨q1, _⟩ | ⟨q1, q2, _⟩
            · exact absurd e hno
            · clear hno hgo2
              obtain ⟨p, hp⟩ : ∃ p, p = n - 1 - z := ⟨_, rfl⟩
              obtain ⟨r, hr⟩ : ∃ r, r = m - 1 - z := ⟨_, rfl⟩
              rw [← hp] at h3 h4
              rw [← hr] at h5 h6
              have f1 : IntKind.i64.wrap ((n : Int) - 1) = (n : Int) - 1 := IntWalk.i64_in _ ⟨by omega, by omega⟩
              have f2 : IntKind.i64.wrap ((n : Int) - 1 - (z : Int)) = (p : Int) := by rw [IntWalk.i64_in _ ⟨by omega, by omega⟩]; omega
              have f3 : IntKind.i64.wrap ((m : Int) - 1) = (m : Int) - 1 := IntWalk.i64_in _ ⟨by omega, by omega⟩
              have f4 : IntKind.i64.wrap ((m : Int) - 1 - (z : Int)) = (r : Int) := by rw [IntWalk.i64_in _ ⟨by omega, by omega⟩]; omega
              have f5 : p < n := by omega
              have f6 : r < m := by omega
              clear hp hr
              have d1 : decide ((k : Int) + (z : Int) < (n : Int)) = true := decide_eq_true (by omega)
              have d2 : decide ((k : Int) + (z : Int) < (m : Int)) = true := decide_eq_true (by omega)
              go_wp2
              go_region
              all_goals go_wp2
              all_goals go_ret2
              all_goals
                refine ⟨ends_ret hA'.out hB'.out, ?_⟩
                first | exact hb2'.out.drew | exact below_drawn hb2'.out _
            · clear hno hgo2
              obtain ⟨p, hp⟩ : ∃ p, p = n - 1 - z := ⟨_, rfl⟩
              obtain ⟨r, hr⟩ : ∃ r, r = m - 1 - z := ⟨_, rfl⟩
              rw [← hp] at h3 h4
              rw [← hr] at h5 h6
              have f1 : IntKind.i64.wrap ((n : Int) - 1) = (n : Int) - 1 := IntWalk.i64_in _ ⟨by omega, by omega⟩
              have f2 : IntKind.i64.wrap ((n : Int) - 1 - (z : Int)) = (p : Int) := by rw [IntWalk.i64_in _ ⟨by omega, by omega⟩]; omega
              have f3 : IntKind.i64.wrap ((m : Int) - 1) = (m : Int) - 1 := IntWalk.i64_in _ ⟨by omega, by omega⟩
              have f4 : IntKind.i64.wrap ((m : Int) - 1 - (z : Int)) = (r : Int) := by rw [IntWalk.i64_in _ ⟨by omega, by omega⟩]; omega
              have f5 : p < n := by omega
              have f6 : r < m := by omega
              clear hp hr
              have d1 : decide ((k : Int) + (z : Int) < (n : Int)) = true := decide_eq_true (by omega)
              have d2 : decide ((k : Int) + (z : Int) < (m : Int)) = true := decide_eq_true (by omega)
              go_wp2
              go_region
              all_goals go_wp2
              all_goals go_ret2
              all_goals
                refine ⟨ends_ret hA'.out hB'.out, ?_⟩
                first | exact hb2'.out.drew | exact below_drawn hb2'.out _
          · clear hgo2
            have d1 : decide ((k : Int) + (z : Int) < (n : Int)) = true := decide_eq_true (by omega)
            have d2 : decide ((k : Int) + (z : Int) < (m : Int)) = false := decide_eq_false (by omega)
            go_wp2
            go_region
            all_goals go_wp2
            all_goals go_ret2
            all_goals
              refine ⟨ends_ret hA'.out hB'.out, ?_⟩
              first | exact hb2'.out.drew | exact below_drawn hb2'.out _
        · clear hgo2
          have d1 : decide ((k : Int) + (z : Int) < (n : Int)) = false := decide_eq_false (by omega)
          go_wp2
          go_region
          all_goals go_wp2
          all_goals go_ret2
          all_goals
            refine ⟨ends_ret hA'.out hB'.out, ?_⟩
            first | exact hb2'.out.drew | exact below_drawn hb2'.out _
end Go.Proofs.Ytodncamohimmmaa

namespace Go.Proofs.Ytodncamohimmmaa
open Go.RowKit Go.Lib Go.Maps Go.WideMaps Leb

theorem fresh_at {w l : List Hd} {k : Nat} (hk : k < l.length - endA w l - endB w l) : (fresh w l)[k]? = l[endA w l + k]? := by
  unfold fresh
  rw [List.getElem?_take, if_pos hk, List.getElem?_drop]
def dpF (b : Nat) (ov : Value) (g off m c p : Nat) (x y : ByteArray) (j : Nat) (v : Value) (_ : World) : Prop :=
  match j with
  | 0 => v = .pointer (some ⟨b, 0, Option.none⟩)
  | 1 => v = .pointer (some ⟨b, 0, Option.none⟩)
  | 2 => v = ov
  | 3 => v = .slice (some ⟨g, off, Option.none⟩) m c
  | 4 => v = .int .i64 (p : Int)
  | 5 => v = .pointer (some ⟨g, off + p * 2, Option.none⟩)
  | 6 => v = .pointer (some ⟨g, off + p * 2, Option.none⟩)
  | 7 => v = .string x
  | 8 => True
  | 9 => v = .slice (some ⟨g, off, Option.none⟩) m c
  | 10 => v = .int .i64 (p : Int)
  | 11 => v = .pointer (some ⟨g, off + p * 2, Option.none⟩)
  | 12 => v = .pointer (some ⟨g, off + p * 2 + 1, Option.none⟩)
  | 13 => v = .string y
  | 14 => True
  | _ => True
theorem dpF_any {b : Nat} {ov : Value} {g off m c p : Nat} {x y : ByteArray} {j : Nat} {v : Value} {w w' : World} (h : dpF b ov g off m c p x y j v w) : dpF b ov g off m c p x y j v w' := by
  unfold dpF at h ⊢
  split at h
  all_goals exact h

def putT (t : List (List UInt8)) (w l : List Hd) (k : Nat) : List (List UInt8) := putsL t (txs ((fresh w l).take k))
def putY (t : List (List UInt8)) (w l : List Hd) (k : Nat) : List Int := dputH w l ++ putsB t (txs ((fresh w l).take k))
theorem putT_zero (t : List (List UInt8)) (w l : List Hd) : putT t w l 0 = t := rfl
theorem putY_zero (t : List (List UInt8)) (w l : List Hd) : putY t w l 0 = dputH w l := by simp [putY, txs, putsB]
theorem put_step {t : List (List UInt8)} {w l : List Hd} {k : Nat} {x y : ByteArray} (hk : k < l.length - endA w l - endB w l) (h : l[endA w l + k]? = some (x, y)) :
    putT t w l (k + 1) = putL (putL (putT t w l k) x.data.toList) y.data.toList ∧ putY t w l (k + 1) = putY t w l k ++ putB (putT t w l k) x.data.toList ++ putB (putL (putT t w l k) x.data.toList) y.data.toList := by
  have h1 := puts_step t (l := fresh w l) (k := k) (x := x) (y := y) (by rw [fresh_at hk, h])
  unfold putT putY
  rw [h1.1, h1.2]
  exact ⟨rfl, by simp only [List.append_assoc]⟩
theorem put_last {t : List (List UInt8)} {w l : List Hd} {k : Nat} (hk : l.length - endA w l - endB w l ≤ k) : putT t w l k = dputL t w l ∧ putY t w l k = dputB t w l := by
  unfold putT putY dputL dputB
  rw [List.take_of_length_le (by rw [fresh_len]; exact hk)]
  exact ⟨rfl, rfl⟩

set_option maxHeartbeats 32000000 in
set_option maxRecDepth 100000 in
theorem refDput_any (b : Nat) (T : List (List UInt8)) (S : Nat → Prop) (A : Option Addr) (n c : Nat) (X : List Int) (Aw : Option Addr) (nw cw : Nat) (was : List Hd) (Al : Option Addr) (m cl : Nat) (list : List Hd) (w : World)
    (h : RTab w b T S) (hT : T.length ≤ 300000) (hX : Holds w A n c X) (hn : n ≤ 1000000000) (hw : Hds w Aw nw cw was) (hl : Hds w Al m cl list) (hlo : Off S Al m) (hnw : nw ≤ 1000) (hm : m ≤ 1000) (hsh : Short 2048 list) :
    Calls Try.prog 39 #[.slice A n c, .pointer (some ⟨b, 0, Option.none⟩), .slice Aw nw cw, .slice Al m cl] w (PutEndR w b S (X ++ dputB T was list) (dputL T was list)) := by
  obtain ⟨i0, hi, hz0, hz1, hz2⟩ := info_parts Try.info8
  have hle := ends_le was list
  have hwl := hw.len
  have hll := hl.len
  rw [hwl, hll] at hle
  have hends := Lib.hid (refEnds_any Aw Al nw m cw cl was list w hw hl hnw hm)
  have hlast := Lib.hid (fun k hk => put_last (t := T) (w := was) (l := list) (k := k) hk)
  have hstep := Lib.hid (fun k x y hk hxy => put_step (t := T) (w := was) (l := list) (k := k) (x := x) (y := y) hk hxy)
  have hy0 := putY_zero T was list
  unfold dputH at hy0
  rw [hll] at hlast hstep hy0
  obtain ⟨xa, hxa⟩ : ∃ xa, xa = endA was list := ⟨_, rfl⟩
  obtain ⟨yb, hyb⟩ : ∃ yb, yb = endB was list := ⟨_, rfl⟩
  rw [← hxa, ← hyb] at hle hends hlast hstep hy0
  have hy0' := Lib.hid hy0
  obtain ⟨nx, hnx⟩ : ∃ nx, nx = m - xa := ⟨_, rfl⟩
  obtain ⟨cnt, hcnt⟩ : ∃ cnt, cnt = m - xa - yb := ⟨_, rfl⟩
  obtain ⟨mm, hmm⟩ : ∃ mm, mm = m - yb := ⟨_, rfl⟩
  have e1 : IntKind.i64.wrap ((m : Int) - (xa : Int)) = (nx : Int) := by rw [IntWalk.i64_in _ ⟨by omega, by omega⟩]; omega
  have e2 : IntKind.i64.wrap ((nx : Int) - (yb : Int)) = (cnt : Int) := by rw [IntWalk.i64_in _ ⟨by omega, by omega⟩]; omega
  have e3 : IntKind.i64.wrap ((m : Int) - (yb : Int)) = (mm : Int) := by rw [IntWalk.i64_in _ ⟨by omega, by omega⟩]; omega
  have hUx : U64 xa := by unfold U64; omega
  have hUy : U64 yb := by unfold U64; omega
  have hUc : U64 cnt := by unfold U64; omega
  have hwx := wrap_of hUx
  have hwy := wrap_of hUy
  have hwc := wrap_of hUc
  have hcx := Lib.hid (fun W => bytes_any xa W hUx)
  have hcy := Lib.hid (fun W => bytes_any yb W hUy)
  have hcc := Lib.hid (fun W => bytes_any cnt W hUc)
  have hsx := Lib.hid (show (enc xa).length ≤ 10 from size_le10 hUx)
  have hsy := Lib.hid (show (enc yb).length ≤ 10 from size_le10 hUy)
  have hsc := Lib.hid (show (enc cnt).length ≤ 10 from size_le10 hUc)
  have hXn := Lib.hid hX.len
  have hX' := Lib.hid hX
  have hR0 := Lib.hid h
  have hl' := Lib.hid hl
  have hlo' := Lib.hid hlo
  have hsh' := Lib.hid hsh
  have hll' := Lib.hid hll
  have hlow := Lib.hid h.low
  have hnil := Lib.hid (fun W (hW : w.heap.size ≤ W.heap.size) => owns_lit W w.heap.size 5 #[] [] rfl Bytes.nil (by simp) hW)
  have t1 : True := trivial
  have t2 : True := trivial
  have t3 : True := trivial
  rw [← hcnt] at hlast hstep hy0'
  have hcnt' := Lib.hid hcnt
  have hmm' := Lib.hid hmm
  clear h hX hw hl hlo hsh hUx hUy hUc hwl hll hxa hyb hy0 hnx hcnt hmm
  go_enter Try.func39, Try.ntmps39
  go_wp2_with (first
    | (go_at_call 53; refine hends.out.mono ?_; rintro e w1 ⟨rfl, hb1⟩; have hb1' := Lib.hid hb1; clear hb1)
    | (go_at_call 37; have _t := t1; (with_reducible refine (hcx.out _).mono ?_); rintro e w3 ⟨v3, rfl, own3, hb3⟩; have hb3' := Lib.hid hb3; obtain ⟨A3, c3, rfl, hH3⟩ := own3.holds; have hH3' := Lib.hid hH3; clear hb3 own3 hH3 t1)
    | (go_at_call 37; have _t := t2; (with_reducible refine (hcy.out _).mono ?_); rintro e w5 ⟨v5, rfl, own5, hb5⟩; have hb5' := Lib.hid hb5; obtain ⟨A5, c5, rfl, hH5⟩ := own5.holds; have hH5' := Lib.hid hH5; clear hb5 own5 hH5 t2)
    | (go_at_call 37; have _t := t3; (with_reducible refine (hcc.out _).mono ?_); rintro e w7 ⟨v7, rfl, own7, hb7⟩; have hb7' := Lib.hid hb7; obtain ⟨A7, c7, rfl, hH7⟩ := own7.holds; have hH7' := Lib.hid hH7; clear hb7 own7 hH7 t3)
    | (at_builtin; refine wpList_append_bytes rfl (.tmp 19) (.tmp 20) 43 rfl w.heap.size 5 i0 Try.underlying43 hi hz0 hz1 hz2 _ [] rfl (hnil.out w1 hb1'.out.size) A n c X rfl ((hX'.out.later hb1'.out).alloc _) (by simp; omega) (by have := hb1'.out.size; simp; omega) ?_; intro v2 w2 hown2 hg2 _; have hb2' := Lib.hid (below_own (hb1'.out.alloc hb1'.out.size _) (hnil.out w1 hb1'.out.size) hg2 (by have := hb1'.out.size; simp; omega)); rw [List.nil_append] at hown2; have hown2' := Lib.hid hown2; clear hown2 hg2)
    | (at_builtin; refine wpList_append_bytes rfl (.tmp 21) (.tmp 24) 43 rfl w.heap.size 5 i0 Try.underlying43 hi hz0 hz1 hz2 _ X rfl (hown2'.out.kept hb3'.out (Nat.le_refl _)) A3 _ c3 (enc xa) rfl hH3'.out (by have := hXn.out; have := hsx.out; omega) (Nat.le_trans hb2'.out.size hb3'.out.size) ?_; intro v4 w4 hown4 hg4 _; have hb4' := Lib.hid (below_own (below_then hb2'.out hb3'.out) (hown2'.out.kept hb3'.out (Nat.le_refl _)) hg4 (Nat.le_trans hb2'.out.size hb3'.out.size)); have hown4' := Lib.hid hown4; clear hown4 hg4)
    | (at_builtin; refine wpList_append_bytes rfl (.tmp 25) (.tmp 28) 43 rfl w.heap.size 5 i0 Try.underlying43 hi hz0 hz1 hz2 _ (X ++ enc xa) rfl (hown4'.out.kept hb5'.out (Nat.le_refl _)) A5 _ c5 (enc yb) rfl hH5'.out (by have := hXn.out; have := hsx.out; have := hsy.out; rw [List.length_append]; omega) (Nat.le_trans hb4'.out.size hb5'.out.size) ?_; intro v6 w6 hown6 hg6 _; have hb6' := Lib.hid (below_own (below_then hb4'.out hb5'.out) (hown4'.out.kept hb5'.out (Nat.le_refl _)) hg6 (Nat.le_trans hb4'.out.size hb5'.out.size)); have hown6' := Lib.hid hown6; clear hown6 hg6)
    | (at_builtin; refine wpList_append_bytes rfl (.tmp 30) (.tmp 38) 43 rfl w.heap.size 5 i0 Try.underlying43 hi hz0 hz1 hz2 _ (X ++ enc xa ++ enc yb) rfl (hown6'.out.kept hb7'.out (Nat.le_refl _)) A7 _ c7 (enc cnt) rfl hH7'.out (by have := hXn.out; have := hsx.out; have := hsy.out; have := hsc.out; rw [List.length_append, List.length_append]; omega) (Nat.le_trans hb6'.out.size hb7'.out.size) ?_; intro v8 w8 hown8 hg8 _; have hb8' := Lib.hid (below_own (below_then hb6'.out hb7'.out) (hown6'.out.kept hb7'.out (Nat.le_refl _)) hg8 (Nat.le_trans hb6'.out.size hb7'.out.size)); have hown8' := Lib.hid hown8; clear hown8 hg8))
  have hO8 := Lib.hid (show BtO w8 w.heap.size v8 (X ++ putY T was list 0) S by
    refine ⟨?_, hown8'.out.off hlow.out⟩
    rw [hy0'.out]
    have := hown8'.out
    simpa only [List.append_assoc] using this)
  have hR8 := Lib.hid (RStep.same hR0.out hb8'.out)
  have hH8 := Lib.hid (HdO.later ⟨hl'.out, hlo'.out⟩ hb8'.out)
  have hYl0 := Lib.hid (show (X ++ putY T was list 0).length ≤ n + 30 + 4118 * 0 by
    rw [hy0'.out]
    have h1 := hXn.out
    have h2 := hsx.out
    have h3 := hsy.out
    have h4 := hsc.out
    simp only [List.length_append]
    omega)
  go_loopw [11, 12] (fun ov i wr => ∃ (p : Nat) (T1 : List (List UInt8)) (Y1 : List Int) (S1 : Nat → Prop), xa ≤ p ∧ p ≤ mm ∧ i = .int .i64 p ∧ RStep w wr b S S1 T1 ∧ BtO wr w.heap.size ov Y1 S1 ∧ HdO wr Al m cl list S1 ∧ Hid (T1 = putT T was list (p - xa)) ∧ Hid (Y1 = X ++ putY T was list (p - xa)) ∧ T1.length ≤ 300000 + 2 * (p - xa) ∧ Y1.length ≤ n + 30 + 4118 * (p - xa)) (fun _ i _ => mm - (RowKit.intOf i).toNat)
  case atStart => exact ⟨xa, T, _, S, Nat.le_refl _, (by have := hmm'.out; omega), rfl, hR8.out, hO8.out, hH8.out, Lib.hid (by rw [Nat.sub_self, putT_zero]), Lib.hid (by rw [Nat.sub_self]), by omega, by rw [Nat.sub_self]; exact hYl0.out⟩
  case round =>
    obtain ⟨p, T1, Y1, S1, hxp, hpm, rfl, hR, hO, hH, hT1, hY1, hTl1, hYl1⟩ := hrel
    have hcnt := hcnt'.out
    have hmm := hmm'.out
    have hR := Lib.hid hR
    have hO := Lib.hid hO
    have hH := Lib.hid hH
    by_cases hpm2 : p < mm
    · have hp : p < m := by omega
      have hpl : p < list.length := by rw [hll'.out]; exact hp
      obtain ⟨g, off, rfl, _, _⟩ := hH.out.rd.at hp
      obtain ⟨⟨x, y⟩, hxy0⟩ : ∃ q, list[p]? = some q := ⟨_, List.getElem?_eq_getElem hpl⟩
      have hs2 := hsh'.out (x, y) (List.mem_of_getElem? hxy0)
      have hxy := Lib.hid hxy0
      have hst := hstep.out (p - xa) x y (by omega) (by rw [show xa + (p - xa) = p by omega]; exact hxy0)
      rw [← hT1.out] at hst
      have hlx : x.data.toList.length ≤ 2048 := by rw [← size_len]; exact hs2.1
      have hly : y.data.toList.length ≤ 2048 := by rw [← size_len]; exact hs2.2
      have q1 := putL_len T1 x.data.toList
      have q2 := putL_len (putL T1 x.data.toList) y.data.toList
      have q3 := putB_len T1 x.data.toList (by omega) (by omega)
      have q4 := putB_len (putL T1 x.data.toList) y.data.toList (by omega) (by omega)
      have hput1 := fun W S (A : Option Addr) (c : Nat) (h : RTab W b T1 S) (hh : Holds W A Y1.length c Y1) => putR_any b T1 S A Y1.length c Y1 x.data.toList W h (by omega) hh (by omega)
      obtain ⟨T2, hT2⟩ : ∃ T2, T2 = putL T1 x.data.toList := ⟨_, rfl⟩
      obtain ⟨Y2, hY2⟩ : ∃ Y2, Y2 = Y1 ++ putB T1 x.data.toList := ⟨_, rfl⟩
      rw [← hT2] at hst q1 q2 q4
      have q5 : Y2.length = Y1.length + (putB T1 x.data.toList).length := by rw [hY2, List.length_append]
      have hput2 := fun W S (A : Option Addr) (c : Nat) (h : RTab W b T2 S) (hh : Holds W A Y2.length c Y2) => putR_any b T2 S A Y2.length c Y2 y.data.toList W h (by omega) hh (by omega)
      obtain ⟨T3, hT3⟩ : ∃ T3, T3 = putL T2 y.data.toList := ⟨_, rfl⟩
      obtain ⟨Y3, hY3⟩ : ∃ Y3, Y3 = Y2 ++ putB T2 y.data.toList := ⟨_, rfl⟩
      have q6 : Y3.length = Y2.length + (putB T2 y.data.toList).length := by rw [hY3, List.length_append]
      have q7 : T3.length = (putL T2 y.data.toList).length := by rw [hT3]
      have q8 : T2.length = (putL T1 x.data.toList).length := by rw [hT2]
      rw [mk_of] at hput1 hput2
      rw [← hY2] at hput1
      rw [← hT2] at hput1
      rw [← hY3, ← hT3] at hput2
      replace hT3 := Lib.hid (show T3 = putT T was list (p + 1 - xa) by rw [show p + 1 - xa = p - xa + 1 by omega, hst.1, hT3])
      replace hY3 := Lib.hid (show Y3 = X ++ putY T was list (p + 1 - xa) by rw [show p + 1 - xa = p - xa + 1 by omega, hst.2, hY3, hY2, hY1.out]; simp only [List.append_assoc])
      have hTl3 := Lib.hid (show T3.length ≤ 300000 + 2 * (p + 1 - xa) by omega)
      have hYl3 := Lib.hid (show Y3.length ≤ n + 30 + 4118 * (p + 1 - xa) by omega)
      replace hput1 := Lib.hid hput1
      replace hput2 := Lib.hid hput2
      clear hcnt hmm hxy0 hs2 hst hlx hly q1 q2 q3 q4 q5 q6 q7 q8 hT2 hY2 hTl1 hYl1 hT1 hY1
      go_wp2
      refine wp_region_tail 15 17 (by decide) (by kernel_rfl) (RInv 65 [49, 50, 51, 52, 53, 54, 55, 56, 57, 58, 59, 60, 61, 62, 63] _ (dpF b u11 g off m cl p x y) { wr with heap := #[] } (IQR w b S (some ⟨g, off, Option.none⟩) m cl list w.heap.size T1 T2 T3 Y1 Y2 Y3 u11 8 57 14 63)) (by kernel_rfl) (by kernel_rfl) (RInv.start rfl ⟨S1, T1, hR.out.later (Below.refl _ _).drew, hH.out.later (Below.refl _ _).drew, hR.out.alt.size, fun _ => ⟨rfl, hO.out.later (Below.refl _ _).drew⟩, fun h => h.elim, fun h => h.elim⟩ (below_none0 (Below.refl _ _).drew)) ?_ ?_
      · intro i hi D a wy hI hcl hnd hpre
        have hi' : i < 15 := hi
        have hcase : i = 0 ∨ i = 1 ∨ i = 2 ∨ i = 3 ∨ i = 4 ∨ i = 5 ∨ i = 6 ∨ i = 7 ∨ i = 8 ∨ i = 9 ∨ i = 10 ∨ i = 11 ∨ i = 12 ∨ i = 13 ∨ i = 14 := by omega
        have hF := hI.fact
        rcases hcase with rfl | rfl | rfl | rfl | rfl | rfl | rfl | rfl | rfl | rfl | rfl | rfl | rfl | rfl | rfl
        · exact wpOp_move rfl (wanted_free rfl) _ rfl _ (hI.same 1 (by decide)) (hI.put (by decide) (by decide) (fun j _ _ h => dpF_any h) rfl (hI.more.pure _ (by decide) (by decide) (by decide) (by decide)) hI.below)
        · exact wpOp_move rfl (wanted_free rfl) _ rfl _ (hI.same 1 (by decide)) (hI.put (by decide) (by decide) (fun j _ _ h => dpF_any h) rfl (hI.more.pure _ (by decide) (by decide) (by decide) (by decide)) hI.below)
        · exact wpOp_move rfl (wanted_free rfl) _ rfl _ (hI.same 11 (by decide)) (hI.put (by decide) (by decide) (fun j _ _ h => dpF_any h) rfl (hI.more.pure _ (by decide) (by decide) (by decide) (by decide)) hI.below)
        · exact wpOp_move rfl (wanted_free rfl) _ rfl _ (hI.same 3 (by decide)) (hI.put (by decide) (by decide) (fun j _ _ h => dpF_any h) rfl (hI.more.pure _ (by decide) (by decide) (by decide) (by decide)) hI.below)
        · exact wpOp_move rfl (wanted_free rfl) _ rfl _ (hI.same 12 (by decide)) (hI.put (by decide) (by decide) (fun j _ _ h => dpF_any h) rfl (hI.more.pure _ (by decide) (by decide) (by decide) (by decide)) hI.below)
        · exact wpOp_index rfl (wanted_free rfl) _ _ _ rfl _ _ _ (hF 3 (hpre 3 (by kernel_rfl))) (hF 4 (hpre 4 (by kernel_rfl))) (run_idxH wy g off m cl p hp) (hI.put (by decide) (by decide) (fun j _ _ h => dpF_any h) rfl (hI.more.pure _ (by decide) (by decide) (by decide) (by decide)) hI.below)
        · exact wpOp_field rfl (wanted_free rfl) _ _ _ rfl _ _ (hF 5 (hpre 5 (by kernel_rfl))) (run_field0 wy g (off + p * 2)) (hI.put (by decide) (by decide) (fun j _ _ h => dpF_any h) rfl (hI.more.pure _ (by decide) (by decide) (by decide) (by decide)) hI.below)
        · exact wpOp_load rfl (wanted_free rfl) _ _ rfl _ _ (hF 6 (hpre 6 (by kernel_rfl))) (run_load9 wy g _ x (iqR_cells hI.more hp hxy.out).1) (hI.put (by decide) (by decide) (fun j _ _ h => dpF_any h) rfl (hI.more.pure _ (by decide) (by decide) (by decide) (by decide)) hI.below)
        · obtain ⟨S3, l1, hS3, hH3, hB3, n1, _, _⟩ := hI.more.rd
          have hn2 : ¬ D 14 := fun h => hnd (hcl 14 h 8 (by kernel_rfl))
          obtain ⟨rfl, hbt⟩ := n1 hnd
          obtain ⟨A5, c5, e5, hX5, _⟩ := hbt.slice
          exact wpOp_call3t rfl (wanted_free rfl) 38 _ _ _ _ rfl _ _ _ (hF 1 (hpre 1 (by kernel_rfl))) ((show a.eval (.tmp 51) = _ from (hF 2 (hpre 2 (by kernel_rfl)))).trans e5) (hF 7 (hpre 7 (by kernel_rfl))) (enters_putR _ _) (hput1.out wy S3 A5 c5 hS3.tab hX5) (fun e w' h => by
            obtain ⟨r, S', rfl, hown, hof, hst⟩ := h
            exact ⟨_, rfl, hI.put (by decide) (by decide) (fun j _ _ h => dpF_any h) trivial (iqR_first hn2 (by rw [hI.size]; decide) (by decide) hS3 hH3 hB3 hown hof hst) (below_none20 hI.below hst.alt)⟩)
        · exact wpOp_move rfl (wanted_free rfl) _ rfl _ (hI.same 3 (by decide)) (hI.put (by decide) (by decide) (fun j _ _ h => dpF_any h) rfl (hI.more.pure _ (by decide) (by decide) (by decide) (by decide)) hI.below)
        · exact wpOp_move rfl (wanted_free rfl) _ rfl _ (hI.same 12 (by decide)) (hI.put (by decide) (by decide) (fun j _ _ h => dpF_any h) rfl (hI.more.pure _ (by decide) (by decide) (by decide) (by decide)) hI.below)
        · exact wpOp_index rfl (wanted_free rfl) _ _ _ rfl _ _ _ (hF 9 (hpre 9 (by kernel_rfl))) (hF 10 (hpre 10 (by kernel_rfl))) (run_idxH wy g off m cl p hp) (hI.put (by decide) (by decide) (fun j _ _ h => dpF_any h) rfl (hI.more.pure _ (by decide) (by decide) (by decide) (by decide)) hI.below)
        · exact wpOp_field rfl (wanted_free rfl) _ _ _ rfl _ _ (hF 11 (hpre 11 (by kernel_rfl))) (run_field1 wy g (off + p * 2)) (hI.put (by decide) (by decide) (fun j _ _ h => dpF_any h) rfl (hI.more.pure _ (by decide) (by decide) (by decide) (by decide)) hI.below)
        · exact wpOp_load rfl (wanted_free rfl) _ _ rfl _ _ (hF 12 (hpre 12 (by kernel_rfl))) (run_load9 wy g _ y (iqR_cells hI.more hp hxy.out).2) (hI.put (by decide) (by decide) (fun j _ _ h => dpF_any h) rfl (hI.more.pure _ (by decide) (by decide) (by decide) (by decide)) hI.below)
        · obtain ⟨S3, l1, hS3, hH3, hB3, _, d1, _⟩ := hI.more.rd
          have hd8 : D 8 := hpre 8 (by kernel_rfl)
          obtain ⟨rfl, hbt⟩ := d1 hd8 hnd
          obtain ⟨A5, c5, e5, hX5, _⟩ := hbt.slice
          exact wpOp_call3t rfl (wanted_free rfl) 38 _ _ _ _ rfl _ _ _ (hF 0 (hpre 0 (by kernel_rfl))) e5 (hF 13 (hpre 13 (by kernel_rfl))) (enters_putR _ _) (hput2.out wy S3 A5 c5 hS3.tab hX5) (fun e w' h => by
            obtain ⟨r, S', rfl, hown, hof, hst⟩ := h
            exact ⟨_, rfl, hI.put (by decide) (by decide) (fun j _ _ h => dpF_any h) trivial (iqR_second hd8 (by rw [hI.size]; decide) hS3 hH3 hB3 hown hof hst) (below_none20 hI.below hst.alt)⟩)
      · intro D a w5 hI hall
        obtain ⟨S3, l1, hS3, hH3, hB3, _, _, d2⟩ := hI.more.rd
        obtain ⟨e1, hbt⟩ := d2 (hall 14 (by decide))
        subst e1
        have hdone := hI.done (by decide) rfl (fun i hi => hall i hi)
        have hS5 := Lib.hid hS3
        have hH5 := Lib.hid hH3
        clear hI hall d2 hS3 hH3 hB3
        show wpOps _ _ _ [15] a w5
        rw [wpOps_cons]
        refine wpOp_assign rfl (wanted_free rfl) _ rfl (a.eval (.tmp 63)) rfl ?_
        show wpOps _ _ _ _ (a.put (some 11) (a.eval (.tmp 63))) w5
        rw [wpOps]
        obtain ⟨fs, ha, _⟩ := hdone
        have hN : ∀ t ∈ [49, 50, 51, 52, 53, 54, 55, 56, 57, 58, 59, 60, 61, 62, 63], t < 65 := by decide
        rw [putAll_eval20 ha (by decide) (fun t ht => hN t ht) (t := 63) (by decide)] at hbt ⊢
        clear hN
        subst ha
        have hO5 := Lib.hid hbt
        clear hbt
        simp only [putAll, List.map_cons, List.map_nil, Act.put, List.setIfInBounds_toArray, List.set_cons_zero, List.set_cons_succ]
        generalize fs 49 = y49
        generalize fs 50 = y50
        generalize fs 51 = y51
        generalize fs 52 = y52
        generalize fs 53 = y53
        generalize fs 54 = y54
        generalize fs 55 = y55
        generalize fs 56 = y56
        generalize fs 57 = y57
        generalize fs 58 = y58
        generalize fs 59 = y59
        generalize fs 60 = y60
        generalize fs 61 = y61
        generalize fs 62 = y62
        generalize fs 63 = y63 at *
        have en : IntKind.i64.wrap ((p : Int) + 1) = ((p + 1 : Nat) : Int) := by rw [IntWalk.i64_in _ ⟨by omega, by omega⟩]; omega
        go_wp2
        go_roundw
        case rel => exact ⟨p + 1, _, _, S3, by omega, by omega, by go_num, hS5.out, hO5.out, hH5.out, Lib.hid hT3.out, Lib.hid hY3.out, hTl3.out, hYl3.out⟩
        case measure => simp [RowKit.intOf]; omega
    · have hpe : p = mm := by omega
      clear hmm
      subst hpe
      have hl9 := hlast.out (p - xa) (by have := hmm'.out; omega)
      rw [← hT1.out] at hl9
      have hYe : Y1 = X ++ dputB T was list := by rw [hY1.out, hl9.2]
      have hTe : T1 = dputL T was list := hl9.1
      subst hYe
      subst hTe
      clear hl9 hcnt
      go_wp2
      go_ret
      exact ⟨_, S1, rfl, hO.out.own, hO.out.off, hR.out⟩
end Go.Proofs.Ytodncamohimmmaa
