/-
  The reference's Ends of layer 20. Conditions: those that each theorem states.
-/
import Derived.Test.YtkjnpdnihfohoaaHeadCells
import Derived.Test.YtkjnpdnihfohoaaDelMath
import Derived.Deep.CutBlock
namespace Go.Proofs.Ytkjnpdnihfohoaa
open Go.RowKit Go.Lib Go.Shelf

theorem getH {l : List Hd} {k : Nat} (hk : k < l.length) : l[k]? = some l[k] := List.getElem?_eq_getElem hk
theorem hd_eq {x y : Hd} (h1 : (x.1.toList == y.1.toList) = true) (h2 : (x.2.toList == y.2.toList) = true) : x = y := by
  rw [beq_iff_eq, ByteArray.toList_eq, ByteArray.toList_eq] at h1 h2
  obtain ⟨⟨⟨x1⟩⟩, ⟨⟨x2⟩⟩⟩ := x
  obtain ⟨⟨⟨y1⟩⟩, ⟨⟨y2⟩⟩⟩ := y
  simp only at h1 h2
  subst h1
  subst h2
  rfl
theorem hd_ne {x y : Hd} (h : (x.1.toList == y.1.toList) = false ∨ (x.2.toList == y.2.toList) = false) : x ≠ y := fun e => by
  subst e
  simp at h
/-- Two headers are the same, or differ in the first text, or in the second one. -/
theorem hd_ways (x y : Hd) : ((x.1.toList == y.1.toList) = true ∧ (x.2.toList == y.2.toList) = true ∧ x = y) ∨ ((x.1.toList == y.1.toList) = false ∧ x ≠ y) ∨ ((x.1.toList == y.1.toList) = true ∧ (x.2.toList == y.2.toList) = false ∧ x ≠ y) := by
  rcases Bool.eq_false_or_eq_true (x.1.toList == y.1.toList) with q1 | q1
  · rcases Bool.eq_false_or_eq_true (x.2.toList == y.2.toList) with q2 | q2
    · exact .inl ⟨q1, q2, hd_eq q1 q2⟩
    · exact .inr (.inr ⟨q1, q2, hd_ne (.inr q2)⟩)
  · exact .inr (.inl ⟨q1, hd_ne (.inl q1)⟩)

/-- What both give back. -/
theorem ends_ret {a l : List Hd} {x y : Nat} (h1 : endA a l = x) (h2 : endB a l = y) : Ending.returned (.tuple #[.int .i64 x, .int .i64 y]) = .returned (.tuple #[.int .i64 (endA a l), .int .i64 (endB a l)]) := by rw [h1, h2]

set_option maxHeartbeats 32000000 in
set_option maxRecDepth 100000 in
theorem refEnds_any (A B : Option Addr) (n m c d : Nat) (a l : List Hd) (w : World) (ha : Hds w A n c a) (hl : Hds w B m d l) (hn : n ≤ 1000) (hm : m ≤ 1000) :
    Calls Try.prog 19 #[.slice A n c, .slice B m d] w fun e w' => e = .returned (.tuple #[.int .i64 (endA a l), .int .i64 (endB a l)]) ∧ Below w.heap.size w w' := by
  have hal := Lib.hid ha.len
  have hll := Lib.hid hl.len
  have ha' := Lib.hid ha
  have hl' := Lib.hid hl
  clear ha hl
  go_enter Try.func19, Try.ntmps19
  go_upto_block 0 with fail
  go_cut [6] from 8 to 30 (fun i wr => i = .int .i64 (endA a l) ∧ Below w.heap.size w wr)
  case first =>
    go_wp2_with fail
    go_loopw [6] (fun i wr => ∃ k : Nat, k ≤ n ∧ k ≤ m ∧ i = .int .i64 k ∧ (∀ j, j < k → a[j]? = l[j]?) ∧ Below w.heap.size w wr) (fun i _ => n - (RowKit.intOf i).toNat)
    case atStart => exact ⟨0, Nat.zero_le _, Nat.zero_le _, rfl, (fun j hj => absurd hj (by omega)), Below.refl _ _⟩
    case round =>
      obtain ⟨k, hkn, hkm, rfl, hsame, hb⟩ := hrel
      have hsame' := Lib.hid hsame
      have hb' := Lib.hid hb
      clear hsame hb
      by_cases hgo : k < n ∧ k < m ∧ a[k]? = l[k]?
      · obtain ⟨h1, h2, he⟩ := hgo
        obtain ⟨ga, oa, rfl, h3, h4⟩ := (ha'.out.later hb'.out).at h1
        obtain ⟨gb, ob, rfl, h5, h6⟩ := (hl'.out.later hb'.out).at h2
        rw [getH (by rw [hal.out]; exact h1), getH (by rw [hll.out]; exact h2)] at he
        injection he with he
        rw [← he] at h5 h6
        have he' := Lib.hid he
        clear he
        generalize (a[k]'(by rw [hal.out]; exact h1)).1 = x at h3 h5
        generalize (a[k]'(by rw [hal.out]; exact h1)).2 = y at h4 h6
        go_wp2
        go_region
        all_goals go_wp2
        all_goals
          go_roundw
          case rel =>
            refine ⟨k + 1, by omega, by omega, by go_num, fun j hj => ?_, ?_⟩
            · by_cases ej : j = k
              · subst ej
                rw [getH (by rw [hal.out]; exact h1), getH (by rw [hll.out]; exact h2), he'.out]
              · exact hsame'.out j (by omega)
            · first | exact hb'.out.drew | exact below_drawn hb'.out _
          case measure => simp [RowKit.intOf]; omega
      · have hA : endA a l = k := common_is a l k (by rw [hal.out]; exact hkn) (by rw [hll.out]; exact hkm) hsame'.out (by
          rw [hal.out, hll.out]
          by_cases h1 : k = n
          · exact .inl h1
          · by_cases h2 : k = m
            · exact .inr (.inl h2)
            · exact .inr (.inr fun e => hgo ⟨by omega, by omega, e⟩))
        have hA' := Lib.hid hA
        clear hA
        by_cases h1 : k < n
        · by_cases h2 : k < m
          · obtain ⟨ga, oa, rfl, h3, h4⟩ := (ha'.out.later hb'.out).at h1
            obtain ⟨gb, ob, rfl, h5, h6⟩ := (hl'.out.later hb'.out).at h2
            have hw := hd_ways (a[k]'(by rw [hal.out]; exact h1)) (l[k]'(by rw [hll.out]; exact h2))
            have hno : ¬ (a[k]'(by rw [hal.out]; exact h1)) = (l[k]'(by rw [hll.out]; exact h2)) := fun e => hgo ⟨h1, h2, by rw [getH (by rw [hal.out]; exact h1), getH (by rw [hll.out]; exact h2), e]⟩
            generalize (a[k]'(by rw [hal.out]; exact h1)) = x at h3 h4 hw hno
            generalize (l[k]'(by rw [hll.out]; exact h2)) = y at h5 h6 hw hno
            obtain ⟨x1, x2⟩ := x
            obtain ⟨y1, y2⟩ := y
            simp only at h3 h4 h5 h6 hw
            rcases hw with ⟨_, _, e⟩ | ⟨q1, _⟩ | ⟨q1, q2, _⟩
            · exact absurd e hno
            · clear hno hgo
              go_wp2
              go_region
              all_goals go_wp2
              all_goals
                go_meet
                refine ⟨by rw [hA'.out], ?_⟩
                first | exact hb'.out.drew | exact below_drawn hb'.out _
            · clear hno hgo
              go_wp2
              go_region
              all_goals go_wp2
              all_goals
                go_meet
                refine ⟨by rw [hA'.out], ?_⟩
                first | exact hb'.out.drew | exact below_drawn hb'.out _
          · clear hgo
            go_wp2
            go_region
            all_goals go_wp2
            all_goals
              go_meet
              refine ⟨by rw [hA'.out], ?_⟩
              first | exact hb'.out.drew | exact below_drawn hb'.out _
        · clear hgo
          go_wp2
          go_region
          all_goals go_wp2
          all_goals
            go_meet
            refine ⟨by rw [hA'.out], ?_⟩
            first | exact hb'.out.drew | exact below_drawn hb'.out _
  case rest =>
    obtain ⟨rfl, hb⟩ := hcut
    have hb' := Lib.hid hb
    obtain ⟨k, hk⟩ : ∃ k, k = endA a l := ⟨_, rfl⟩
    have hle := ends_le a l
    rw [hal.out, hll.out] at hle
    rw [← hk] at hle ⊢
    have hA' := Lib.hid hk.symm
    have hkn : k ≤ n := by omega
    have hkm : k ≤ m := by omega
    clear hb hk hle
    go_wp2
    go_loopw [7] (fun i wr => ∃ z : Nat, k + z ≤ n ∧ k + z ≤ m ∧ i = .int .i64 z ∧ (∀ j, j < z → a[n - 1 - j]? = l[m - 1 - j]?) ∧ Below w.heap.size w wr) (fun i _ => n - (RowKit.intOf i).toNat)
    case atStart => exact ⟨0, by omega, by omega, rfl, (fun j hj => absurd hj (by omega)), hb'.out⟩
    case round =>
      obtain ⟨z, hzn, hzm, rfl, hsame2, hb2⟩ := hrel
      have hsame2' := Lib.hid hsame2
      have hb2' := Lib.hid hb2
      clear hsame2 hb2
      have e1 : IntKind.i64.wrap ((k : Int) + (z : Int)) = ((k + z : Nat) : Int) := by rw [IntWalk.i64_in _ ⟨by omega, by omega⟩]; omega
      by_cases hgo2 : k + z < n ∧ k + z < m ∧ a[n - 1 - z]? = l[m - 1 - z]?
      · obtain ⟨h1, h2, he⟩ := hgo2
        have g1 : n - 1 - z < n := by omega
        have g2 : m - 1 - z < m := by omega
        obtain ⟨ga, oa, rfl, h3, h4⟩ := (ha'.out.later hb2'.out).at g1
        obtain ⟨gb, ob, rfl, h5, h6⟩ := (hl'.out.later hb2'.out).at g2
        rw [getH (by rw [hal.out]; exact g1), getH (by rw [hll.out]; exact g2)] at he
        injection he with he
        rw [← he] at h5 h6
        have he' := Lib.hid he
        clear he
        generalize (a[n - 1 - z]'(by rw [hal.out]; exact g1)).1 = x at h3 h5
        generalize (a[n - 1 - z]'(by rw [hal.out]; exact g1)).2 = y at h4 h6
        obtain ⟨p, hp⟩ : ∃ p, p = n - 1 - z := ⟨_, rfl⟩
        obtain ⟨r, hr⟩ : ∃ r, r = m - 1 - z := ⟨_, rfl⟩
        rw [← hp] at h3 h4
        rw [← hr] at h5 h6
        have f1 : IntKind.i64.wrap ((n : Int) - 1) = (n : Int) - 1 := IntWalk.i64_in _ ⟨by omega, by omega⟩
        have f2 : IntKind.i64.wrap ((n : Int) - 1 - (z : Int)) = (p : Int) := by rw [IntWalk.i64_in _ ⟨by omega, by omega⟩]; omega
        have f3 : IntKind.i64.wrap ((m : Int) - 1) = (m : Int) - 1 := IntWalk.i64_in _ ⟨by omega, by omega⟩
        have f4 : IntKind.i64.wrap ((m : Int) - 1 - (z : Int)) = (r : Int) := by rw [IntWalk.i64_in _ ⟨by omega, by omega⟩]; omega
        have f5 : p < n := by omega
        have f6 : r < m := by omega
        clear hp hr
        have d1 : decide ((k : Int) + (z : Int) < (n : Int)) = true := decide_eq_true (by omega)
        have d2 : decide ((k : Int) + (z : Int) < (m : Int)) = true := decide_eq_true (by omega)
        go_wp2
        go_region
        all_goals go_wp2
        all_goals
          go_roundw
          case rel =>
            refine ⟨z + 1, by omega, by omega, by go_num, fun j hj => ?_, ?_⟩
            · by_cases ej : j = z
              · subst ej
                rw [getH (by rw [hal.out]; exact g1), getH (by rw [hll.out]; exact g2), he'.out]
              · exact hsame2'.out j (by omega)
            · first | exact hb2'.out.drew | exact below_drawn hb2'.out _
          case measure => simp [RowKit.intOf]; omega
      · have hB : endB a l = z := endB_is a l k z hA'.out (by rw [hal.out]; exact hzn) (by rw [hll.out]; exact hzm) (by rw [hal.out, hll.out]; exact hsame2'.out) (by
          rw [hal.out, hll.out]
          by_cases h1 : k + z = n
          · exact .inl h1
          · by_cases h2 : k + z = m
            · exact .inr (.inl h2)
            · exact .inr (.inr fun e => hgo2 ⟨by omega, by omega, e⟩))
        have hB' := Lib.hid hB
        clear hB
        by_cases h1 : k + z < n
        · by_cases h2 : k + z < m
          · have g1 : n - 1 - z < n := by omega
            have g2 : m - 1 - z < m := by omega
            obtain ⟨ga, oa, rfl, h3, h4⟩ := (ha'.out.later hb2'.out).at g1
            obtain ⟨gb, ob, rfl, h5, h6⟩ := (hl'.out.later hb2'.out).at g2
            have hw := hd_ways (a[n - 1 - z]'(by rw [hal.out]; exact g1)) (l[m - 1 - z]'(by rw [hll.out]; exact g2))
            have hno : ¬ (a[n - 1 - z]'(by rw [hal.out]; exact g1)) = (l[m - 1 - z]'(by rw [hll.out]; exact g2)) := fun e => hgo2 ⟨h1, h2, by rw [getH (by rw [hal.out]; exact g1), getH (by rw [hll.out]; exact g2), e]⟩
            generalize (a[n - 1 - z]'(by rw [hal.out]; exact g1)) = x at h3 h4 hw hno
            generalize (l[m - 1 - z]'(by rw [hll.out]; exact g2)) = y at h5 h6 hw hno
            obtain ⟨x1, x2⟩ := x
            obtain ⟨y1, y2⟩ := y
            simp only at h3 h4 h5 h6 hw
            rcases hw with ⟨_, _, e⟩ | ⟨q1, _⟩ | ⟨q1, q2, _⟩
            · exact absurd e hno
            · clear hno hgo2
              obtain ⟨p, hp⟩ : ∃ p, p = n - 1 - z := ⟨_, rfl⟩
              obtain ⟨r, hr⟩ : ∃ r, r = m - 1 - z := ⟨_, rfl⟩
              rw [← hp] at h3 h4
              rw [← hr] at h5 h6
              have f1 : IntKind.i64.wrap ((n : Int) - 1) = (n : Int) - 1 := IntWalk.i64_in _ ⟨by omega, by omega⟩
              have f2 : IntKind.i64.wrap ((n : Int) - 1 - (z : Int)) = (p : Int) := by rw [IntWalk.i64_in _ ⟨by omega, by omega⟩]; omega
              have f3 : IntKind.i64.wrap ((m : Int) - 1) = (m : Int) - 1 := IntWalk.i64_in _ ⟨by omega, by omega⟩
              have f4 : IntKind.i64.wrap ((m : Int) - 1 - (z : Int)) = (r : Int) := by rw [IntWalk.i64_in _ ⟨by omega, by omega⟩]; omega
              have f5 : p < n := by omega
              have f6 : r < m := by omega
              clear hp hr
              have d1 : decide ((k : Int) + (z : Int) < (n : Int)) = true := decide_eq_true (by omega)
              have d2 : decide ((k : Int) + (z : Int) < (m : Int)) = true := decide_eq_true (by omega)
              go_wp2
              go_region
              all_goals go_wp2
              all_goals go_ret2
              all_goals
                refine ⟨ends_ret hA'.out hB'.out, ?_⟩
                first | exact hb2'.out.drew | exact below_drawn hb2'.out _
            · clear hno hgo2
              obtain ⟨p, hp⟩ : ∃ p, p = n - 1 - z := ⟨_, rfl⟩
              obtain ⟨r, hr⟩ : ∃ r, r = m - 1 - z := ⟨_, rfl⟩
              rw [← hp] at h3 h4
              rw [← hr] at h5 h6
              have f1 : IntKind.i64.wrap ((n : Int) - 1) = (n : Int) - 1 := IntWalk.i64_in _ ⟨by omega, by omega⟩
              have f2 : IntKind.i64.wrap ((n : Int) - 1 - (z : Int)) = (p : Int) := by rw [IntWalk.i64_in _ ⟨by omega, by omega⟩]; omega
              have f3 : IntKind.i64.wrap ((m : Int) - 1) = (m : Int) - 1 := IntWalk.i64_in _ ⟨by omega, by omega⟩
              have f4 : IntKind.i64.wrap ((m : Int) - 1 - (z : Int)) = (r : Int) := by rw [IntWalk.i64_in _ ⟨by omega, by omega⟩]; omega
              have f5 : p < n := by omega
              have f6 : r < m := by omega
              clear hp hr
              have d1 : decide ((k : Int) + (z : Int) < (n : Int)) = true := decide_eq_true (by omega)
              have d2 : decide ((k : Int) + (z : Int) < (m : Int)) = true := decide_eq_true (by omega)
              go_wp2
              go_region
              all_goals go_wp2
              all_goals go_ret2
              all_goals
                refine ⟨ends_ret hA'.out hB'.out, ?_⟩
                first | exact hb2'.out.drew | exact below_drawn hb2'.out _
          · clear hgo2
            have d1 : decide ((k : Int) + (z : Int) < (n : Int)) = true := decide_eq_true (by omega)
            have d2 : decide ((k : Int) + (z : Int) < (m : Int)) = false := decide_eq_false (by omega)
            go_wp2
            go_region
            all_goals go_wp2
            all_goals go_ret2
            all_goals
              refine ⟨ends_ret hA'.out hB'.out, ?_⟩
              first | exact hb2'.out.drew | exact below_drawn hb2'.out _
        · clear hgo2
          have d1 : decide ((k : Int) + (z : Int) < (n : Int)) = false := decide_eq_false (by omega)
          go_wp2
          go_region
          all_goals go_wp2
          all_goals go_ret2
          all_goals
            refine ⟨ends_ret hA'.out hB'.out, ?_⟩
            first | exact hb2'.out.drew | exact below_drawn hb2'.out _
end Go.Proofs.Ytkjnpdnihfohoaa
