/-
  delta's difference. Conditions: those that each theorem states.
-/
import Derived.Test.YtodncamohimmmaaLow16
import Derived.Test.YtodncamohimmmaaLow1
import Derived.Lib.MinMax
import Derived.Laws.Rows
import Derived.Laws.Tables
import Derived.Laws.CopyOwn
namespace Go.Proofs.Ytodncamohimmmaa
open Go.RowKit Go.Lib Go.Shelf

def N3 (w : World) (g : Nat) (x y z : Int) : Prop := w.heap[g]? = some (.cells #[.int .u64 x, .int .u64 y, .int .u64 z] 150 (0, 0))
section
variable {w w' : World} {g : Nat} {x y z : Int} {S : Nat → Prop}
theorem N3.lt (h : N3 w g x y z) : g < w.heap.size := (Array.getElem?_eq_some_iff.1 h).1
theorem N3.alt (h : N3 w g x y z) (ha : Alt w w' S) (hg : ¬ S g) : N3 w' g x y z := (ha.block g h.lt hg).trans h
theorem N3.later (h : N3 w g x y z) (hb : Below w.heap.size w w') : N3 w' g x y z := (hb.block _ h.lt).trans h
theorem N3.c0 (h : N3 w g x y z) : w.cell? ⟨g, 0, Option.none⟩ = some (.int .u64 x) := by rw [cell_of_row w _ 0 _ _ _ h]; rfl
theorem N3.c1 (h : N3 w g x y z) : w.cell? ⟨g, 1, Option.none⟩ = some (.int .u64 y) := by rw [cell_of_row w _ 1 _ _ _ h]; rfl
theorem N3.c2 (h : N3 w g x y z) : w.cell? ⟨g, 2, Option.none⟩ = some (.int .u64 z) := by rw [cell_of_row w _ 2 _ _ _ h]; rfl
theorem N3.free (h : N3 w g x y z) (k : Nat) : w.frozen? ⟨g, k, Option.none⟩ = false := frozen_of_row w g k _ _ h
theorem N3.set0 (h : N3 w g x y z) (u : Int) : N3 (w.setCell ⟨g, 0, Option.none⟩ (.int .u64 u)) g u y z := heap_setCell_same w g 0 _ _ _ h
theorem N3.set1 (h : N3 w g x y z) (u : Int) : N3 (w.setCell ⟨g, 1, Option.none⟩ (.int .u64 u)) g x u z := heap_setCell_same w g 1 _ _ _ h
theorem N3.set2 (h : N3 w g x y z) (u : Int) : N3 (w.setCell ⟨g, 2, Option.none⟩ (.int .u64 u)) g x y u := heap_setCell_same w g 2 _ _ _ h
end
def d3 (x y z : Nat) : Value := .agg #[.int .u64 (x : Int), .int .u64 (y : Int), .int .u64 (z : Int)]
theorem und3 : ∃ n, Try.prog.underlying 150 = some (.array n 23) := ⟨_, Try.underlying150⟩
theorem info3 : (Try.prog.info? 150).map (·.size) = some 3 := by kernel_rfl
theorem endB_tail (w l : List Hd) (a k n m : Nat) (ha : endA w l = a) (hn : (w.drop a).length = n) (hm : (l.drop a).length = m) (h1 : k ≤ n) (h2 : k ≤ m) (h3 : ∀ j, j < k → (w.drop a)[n - 1 - j]? = (l.drop a)[m - 1 - j]?) (h4 : k = n ∨ k = m ∨ (w.drop a)[n - 1 - k]? ≠ (l.drop a)[m - 1 - k]?) : endB w l = k := by
  unfold endB
  rw [ha]
  refine common_is _ _ k (by rw [List.length_reverse]; omega) (by rw [List.length_reverse]; omega) (fun j hj => ?_) ?_
  · rw [List.getElem?_reverse (by omega), List.getElem?_reverse (by omega), hn, hm]
    exact h3 j hj
  · rw [List.length_reverse, List.length_reverse, hn, hm]
    by_cases e1 : k = n
    · exact .inl e1
    · by_cases e2 : k = m
      · exact .inr (.inl e2)
      · refine .inr (.inr ?_)
        rw [List.getElem?_reverse (by omega), List.getElem?_reverse (by omega), hn, hm]
        rcases h4 with h | h | h
        · exact absurd h e1
        · exact absurd h e2
        · exact h
theorem run_backHI (A : Option Addr) (n c k : Nat) (h : k ≤ n) (hc : n ≤ c) (w : World) : (Instr.sliceAt 22 (.slice A n c) (some (.int .i64 (k : Int))) Option.none Option.none).run Try.prog w = .ok (.slice (if c = k then A else A.map (·.add (k * 2))) (n - k) (c - k)) w := by
  have f3 : (0 : Int) ≤ (k : Int) := by omega
  have f4 : (k : Int) ≤ (n : Int) := by omega
  have f5 : (n : Int) ≤ (c : Int) := by omega
  go_simp
theorem min_ints (n m : Nat) : min (n : Int) (m : Int) = ((min n m : Nat) : Int) := by omega

set_option maxHeartbeats 32000000 in
set_option maxRecDepth 100000 in
theorem diff20_any (A B : Option Addr) (n m c d : Nat) (a l : List Hd) (w : World) (ha : Hds w A n c a) (hl : Hds w B m d l) (hn : n ≤ 1000) (hm : m ≤ 1000) :
    Calls Try.prog 83 #[.slice A n c, .slice B m d] w fun e w' => e = .returned (d3 (endA a l) (endB a l) (m - endA a l - endB a l)) ∧ Below w.heap.size w w' := by
  have hal := Lib.hid ha.len
  have hll := Lib.hid hl.len
  have ha' := Lib.hid ha
  have hl' := Lib.hid hl
  have hca := ha.cap
  have hcl := hl.cap
  have hmin := min_ints n m
  obtain ⟨q, hq⟩ : ∃ q, q = min n m := ⟨_, rfl⟩
  rw [← hq] at hmin
  have hqn : q ≤ n := by omega
  have hqm : q ≤ m := by omega
  have hq' := Lib.hid (show q = n ∨ q = m by omega)
  clear ha hl hq
  go_enter Try.func83, Try.ntmps83
  go_upto_block 0 with fail
  go_cut [5] from 7 to 26 (fun i wr => i = .int .i64 (endA a l) ∧ Below w.heap.size w wr ∧ N3 wr w.heap.size 0 0 0)
  case first =>
    go_wp2_with fail
    go_loopw [5] (fun i wr => ∃ k : Nat, k ≤ q ∧ i = .int .i64 k ∧ (∀ j, j < k → a[j]? = l[j]?) ∧ Below w.heap.size w wr ∧ N3 wr w.heap.size 0 0 0) (fun i _ => n - (RowKit.intOf i).toNat)
    case atStart => exact ⟨0, Nat.zero_le _, rfl, (fun j hj => absurd hj (by omega)), below_box w _, heap_alloc_new w _⟩
    case round =>
      obtain ⟨k, hkq, rfl, hsame, hb, hN⟩ := hrel
      have hsame' := Lib.hid hsame
      have hb' := Lib.hid hb
      have hN' := Lib.hid hN
      clear hsame hb hN
      by_cases hgo : k < q ∧ a[k]? = l[k]?
      · obtain ⟨h0, he⟩ := hgo
        have h1 : k < n := by omega
        have h2 : k < m := by omega
        obtain ⟨ga, oa, rfl, h3, h4⟩ := (ha'.out.later hb'.out).at h1
        obtain ⟨gb, ob, rfl, h5, h6⟩ := (hl'.out.later hb'.out).at h2
        rw [getH (by rw [hal.out]; exact h1), getH (by rw [hll.out]; exact h2)] at he
        injection he with he
        rw [← he] at h5 h6
        have he' := Lib.hid he
        clear he
        generalize (a[k]'(by rw [hal.out]; exact h1)).1 = x at h3 h5
        generalize (a[k]'(by rw [hal.out]; exact h1)).2 = y at h4 h6
        go_wp2
        go_region
        all_goals go_wp2
        all_goals
          go_roundw
          case rel =>
            refine ⟨k + 1, by omega, by go_num, fun j hj => ?_, ?_, ?_⟩
            · by_cases ej : j = k
              · subst ej
                rw [getH (by rw [hal.out]; exact h1), getH (by rw [hll.out]; exact h2), he'.out]
              · exact hsame'.out j (by omega)
            · first | exact hb'.out.drew | exact below_drawn hb'.out _
            · exact hN'.out
          case measure => simp [RowKit.intOf]; omega
      · have hA : endA a l = k := common_is a l k (by rw [hal.out]; omega) (by rw [hll.out]; omega) hsame'.out (by
          rw [hal.out, hll.out]
          by_cases h1 : k = n
          · exact .inl h1
          · by_cases h2 : k = m
            · exact .inr (.inl h2)
            · exact .inr (.inr fun e => hgo ⟨by have := hq'.out; omega, e⟩))
        have hA' := Lib.hid hA
        clear hA
        by_cases h0 : k < q
        · have h1 : k < n := by omega
          have h2 : k < m := by omega
          obtain ⟨ga, oa, rfl, h3, h4⟩ := (ha'.out.later hb'.out).at h1
          obtain ⟨gb, ob, rfl, h5, h6⟩ := (hl'.out.later hb'.out).at h2
          have hw := hd_ways (a[k]'(by rw [hal.out]; exact h1)) (l[k]'(by rw [hll.out]; exact h2))
          have hno : ¬ (a[k]'(by rw [hal.out]; exact h1)) = (l[k]'(by rw [hll.out]; exact h2)) := fun e => hgo ⟨h0, by rw [getH (by rw [hal.out]; exact h1), getH (by rw [hll.out]; exact h2), e]⟩
          generalize (a[k]'(by rw [hal.out]; exact h1)) = x at h3 h4 hw hno
          generalize (l[k]'(by rw [hll.out]; exact h2)) = y at h5 h6 hw hno
          obtain ⟨x1, x2⟩ := x
          obtain ⟨y1, y2⟩ := y
          simp only at h3 h4 h5 h6 hw
          rcases hw with ⟨_, _, e⟩ | ⟨q1, _⟩ | ⟨q1, q2, _⟩
          · exact absurd e hno
          · clear hno hgo
            go_wp2
            go_region
            all_goals go_wp2
            all_goals
              go_meet
              refine ⟨by rw [hA'.out], ?_, hN'.out⟩
              first | exact hb'.out.drew | exact below_drawn hb'.out _
          · clear hno hgo
            go_wp2
            go_region
            all_goals go_wp2
            all_goals
              go_meet
              refine ⟨by rw [hA'.out], ?_, hN'.out⟩
              first | exact hb'.out.drew | exact below_drawn hb'.out _
        · clear hgo
          go_wp2
          go_region
          all_goals go_wp2
          all_goals
            go_meet
            refine ⟨by rw [hA'.out], ?_, hN'.out⟩
            first | exact hb'.out.drew | exact below_drawn hb'.out _
  case rest =>
    obtain ⟨rfl, hb, hN⟩ := hcut
    have hb' := Lib.hid hb
    have hN' := Lib.hid hN
    obtain ⟨k, hk⟩ : ∃ k, k = endA a l := ⟨_, rfl⟩
    have hle := ends_le a l
    rw [hal.out, hll.out] at hle
    rw [← hk] at hle ⊢
    have hA' := Lib.hid hk.symm
    have hkn : k ≤ n := by omega
    have hkm : k ≤ m := by omega
    have hs1 := run_backHI A n c k hkn hca
    have hs2 := run_backHI B m d k hkm hcl
    have ht1 := ha'.out.backAny hkn
    have ht2 := hl'.out.backAny hkm
    obtain ⟨A2, hA2⟩ : ∃ A2, A2 = (if c = k then A else A.map (·.add (k * 2))) := ⟨_, rfl⟩
    obtain ⟨B2, hB2⟩ : ∃ B2, B2 = (if d = k then B else B.map (·.add (k * 2))) := ⟨_, rfl⟩
    obtain ⟨n2, hn2⟩ : ∃ n2, n2 = n - k := ⟨_, rfl⟩
    obtain ⟨m2, hm2⟩ : ∃ m2, m2 = m - k := ⟨_, rfl⟩
    rw [← hA2, ← hn2] at hs1 ht1
    rw [← hB2, ← hm2] at hs2 ht2
    have hm2' := Lib.hid hm2
    obtain ⟨a2, ha2⟩ : ∃ a2, a2 = a.drop k := ⟨_, rfl⟩
    obtain ⟨l2, hl2⟩ : ∃ l2, l2 = l.drop k := ⟨_, rfl⟩
    have ht1' := Lib.hid ht1
    have ht2' := Lib.hid ht2
    have hmin2 := min_ints n2 m2
    obtain ⟨q2, hq2⟩ : ∃ q2, q2 = min n2 m2 := ⟨_, rfl⟩
    rw [← hq2] at hmin2
    have hqn2 : q2 ≤ n2 := by omega
    have hqm2 : q2 ≤ m2 := by omega
    have hn2b : n2 ≤ 1000 := by omega
    have hm2b : m2 ≤ 1000 := by omega
    have hq2' := Lib.hid (show q2 = n2 ∨ q2 = m2 by omega)
    have hend := Lib.hid (fun z h1 h2 h3 h4 => endB_tail a l k z n2 m2 hA'.out ht1'.out.len ht2'.out.len h1 h2 h3 h4)
    rw [← ha2, ← hl2] at hend
    rw [← ha2] at ht1'
    rw [← hl2] at ht2'
    have hal2 := Lib.hid ht1'.out.len
    have hll2 := Lib.hid ht2'.out.len
    clear hb hN hk hle hA2 hB2 hn2 hm2 ht1 ht2 hq2 ha2 hl2 hmin hqn hqm
    go_wp2
    go_region
    all_goals go_wp2
    go_loopw [6] (fun i wr => ∃ z : Nat, z ≤ q2 ∧ i = .int .i64 z ∧ (∀ j, j < z → a2[n2 - 1 - j]? = l2[m2 - 1 - j]?) ∧ Below w.heap.size w wr ∧ N3 wr w.heap.size 0 0 0) (fun i _ => n2 - (RowKit.intOf i).toNat)
    case atStart => exact ⟨0, by omega, rfl, (fun j hj => absurd hj (by omega)), (by first | exact hb'.out | exact hb'.out.drew | exact below_drawn hb'.out _), hN'.out⟩
    case round =>
      obtain ⟨z, hzq, rfl, hsame2, hb2, hN2⟩ := hrel
      have hsame2' := Lib.hid hsame2
      have hb2' := Lib.hid hb2
      have hN2' := Lib.hid hN2
      clear hsame2 hb2 hN2
      by_cases hgo2 : z < q2 ∧ a2[n2 - 1 - z]? = l2[m2 - 1 - z]?
      · obtain ⟨h0, he⟩ := hgo2
        have g1 : n2 - 1 - z < n2 := by omega
        have g2 : m2 - 1 - z < m2 := by omega
        obtain ⟨ga, oa, rfl, h3, h4⟩ := (ht1'.out.later hb2'.out).at g1
        obtain ⟨gb, ob, rfl, h5, h6⟩ := (ht2'.out.later hb2'.out).at g2
        rw [getH (by rw [hal2.out]; exact g1), getH (by rw [hll2.out]; exact g2)] at he
        injection he with he
        rw [← he] at h5 h6
        have he' := Lib.hid he
        clear he
        generalize (a2[n2 - 1 - z]'(by rw [hal2.out]; exact g1)).1 = x at h3 h5
        generalize (a2[n2 - 1 - z]'(by rw [hal2.out]; exact g1)).2 = y at h4 h6
        obtain ⟨p, hp⟩ : ∃ p, p = n2 - 1 - z := ⟨_, rfl⟩
        obtain ⟨r, hr⟩ : ∃ r, r = m2 - 1 - z := ⟨_, rfl⟩
        rw [← hp] at h3 h4
        rw [← hr] at h5 h6
        have f1 : IntKind.i64.wrap ((n2 : Int) - 1) = (n2 : Int) - 1 := IntWalk.i64_in _ ⟨by omega, by omega⟩
        have f2 : IntKind.i64.wrap ((n2 : Int) - 1 - (z : Int)) = (p : Int) := by rw [IntWalk.i64_in _ ⟨by omega, by omega⟩]; omega
        have f3 : IntKind.i64.wrap ((m2 : Int) - 1) = (m2 : Int) - 1 := IntWalk.i64_in _ ⟨by omega, by omega⟩
        have f4 : IntKind.i64.wrap ((m2 : Int) - 1 - (z : Int)) = (r : Int) := by rw [IntWalk.i64_in _ ⟨by omega, by omega⟩]; omega
        have f5 : p < n2 := by omega
        have f6 : r < m2 := by omega
        have d1 : decide (z < q2) = true := decide_eq_true (by omega)
        clear hp hr
        go_wp2
        go_region
        all_goals go_wp2
        all_goals
          go_roundw
          case rel =>
            refine ⟨z + 1, by omega, by go_num, fun j hj => ?_, ?_, hN2'.out⟩
            · by_cases ej : j = z
              · subst ej
                rw [getH (by rw [hal2.out]; exact g1), getH (by rw [hll2.out]; exact g2), he'.out]
              · exact hsame2'.out j (by omega)
            · first | exact hb2'.out.drew | exact below_drawn hb2'.out _
          case measure => simp [RowKit.intOf]; omega
      · have hB : endB a l = z := hend.out z (by omega) (by omega) hsame2'.out (by
          by_cases h1 : z = n2
          · exact .inl h1
          · by_cases h2 : z = m2
            · exact .inr (.inl h2)
            · exact .inr (.inr fun e => hgo2 ⟨by have := hq2'.out; omega, e⟩))
        have hB' := Lib.hid hB
        clear hB
        have hcv : IntKind.i64.wrap ((m2 : Int) - (z : Int)) = ((m2 - z : Nat) : Int) := by rw [IntWalk.i64_in _ ⟨by omega, by omega⟩]; omega
        have wk : IntKind.u64.wrap (k : Int) = (k : Int) := IntWalk.u64_in _ ⟨by omega, by omega⟩
        have wz : IntKind.u64.wrap (z : Int) = (z : Int) := IntWalk.u64_in _ ⟨by omega, by omega⟩
        obtain ⟨mz, hmz⟩ : ∃ mz, mz = m2 - z := ⟨_, rfl⟩
        rw [← hmz] at hcv
        have wmz : IntKind.u64.wrap (mz : Int) = (mz : Int) := IntWalk.u64_in _ ⟨by omega, by omega⟩
        have hfin := Lib.hid (show m - k - z = mz by have := hm2'.out; omega)
        clear hmz
        obtain ⟨u3, hu3⟩ := und3
        replace hu3 := Lib.hid hu3
        have hNa := Lib.hid (show (wr.drew).heap[w.heap.size]? = some (.cells #[.int .u64 0, .int .u64 0, .int .u64 0] 150 (0, 0)) from hN2'.out)
        have hi3 := Lib.hid (show (Try.prog.info? 150).map (·.size) = some (#[.int .u64 (k : Int), .int .u64 (z : Int), .int .u64 (mz : Int)] : Array Value).size from info3)
        have hone := Lib.hid (show (#[.int .u64 (k : Int), .int .u64 (z : Int), .int .u64 (mz : Int)] : Array Value).all (·.oneCell') = true by simp [Value.oneCell'])
        by_cases h0 : z < q2
        · have g1 : n2 - 1 - z < n2 := by omega
          have g2 : m2 - 1 - z < m2 := by omega
          obtain ⟨ga, oa, rfl, h3, h4⟩ := (ht1'.out.later hb2'.out).at g1
          obtain ⟨gb, ob, rfl, h5, h6⟩ := (ht2'.out.later hb2'.out).at g2
          have hw := hd_ways (a2[n2 - 1 - z]'(by rw [hal2.out]; exact g1)) (l2[m2 - 1 - z]'(by rw [hll2.out]; exact g2))
          have hno : ¬ (a2[n2 - 1 - z]'(by rw [hal2.out]; exact g1)) = (l2[m2 - 1 - z]'(by rw [hll2.out]; exact g2)) := fun e => hgo2 ⟨h0, by rw [getH (by rw [hal2.out]; exact g1), getH (by rw [hll2.out]; exact g2), e]⟩
          generalize (a2[n2 - 1 - z]'(by rw [hal2.out]; exact g1)) = x at h3 h4 hw hno
          generalize (l2[m2 - 1 - z]'(by rw [hll2.out]; exact g2)) = y at h5 h6 hw hno
          obtain ⟨x1, x2⟩ := x
          obtain ⟨y1, y2⟩ := y
          simp only at h3 h4 h5 h6 hw
          rcases hw with ⟨_, _, e⟩ | ⟨q1, _⟩ | ⟨q1, q2', _⟩
          · exact absurd e hno
          · clear hno hgo2
            obtain ⟨p, hp⟩ : ∃ p, p = n2 - 1 - z := ⟨_, rfl⟩
            obtain ⟨r, hr⟩ : ∃ r, r = m2 - 1 - z := ⟨_, rfl⟩
            rw [← hp] at h3 h4
            rw [← hr] at h5 h6
            have f1 : IntKind.i64.wrap ((n2 : Int) - 1) = (n2 : Int) - 1 := IntWalk.i64_in _ ⟨by omega, by omega⟩
            have f2 : IntKind.i64.wrap ((n2 : Int) - 1 - (z : Int)) = (p : Int) := by rw [IntWalk.i64_in _ ⟨by omega, by omega⟩]; omega
            have f3 : IntKind.i64.wrap ((m2 : Int) - 1) = (m2 : Int) - 1 := IntWalk.i64_in _ ⟨by omega, by omega⟩
            have f4 : IntKind.i64.wrap ((m2 : Int) - 1 - (z : Int)) = (r : Int) := by rw [IntWalk.i64_in _ ⟨by omega, by omega⟩]; omega
            have f5 : p < n2 := by omega
            have f6 : r < m2 := by omega
            have d1 : decide (z < q2) = true := decide_eq_true (by omega)
            clear hp hr
            go_wp2
            go_region
            all_goals go_wp2_with (with_reducible refine wpList_store_row rfl _ _ _ rfl w.heap.size #[.int .u64 (k : Int), .int .u64 (z : Int), .int .u64 (mz : Int)] rfl rfl 150 #[.int .u64 0, .int .u64 0, .int .u64 0] hNa.out hi3.out (Eq.refl _) hone.out ?_)
            rw [hA'.out, hB'.out, hfin.out]
            exact bodyPost_ret (results_cell_row rfl _ _ w.heap.size _ _ _ _ rfl (setRow_heap _ _ _ _ _ _ hNa.out) hu3.out rfl info3) rfl ⟨rfl, below_setRow (by first | exact hb2'.out.drew | exact below_drawn hb2'.out _) (Nat.le_refl _) _⟩
          · clear hno hgo2
            obtain ⟨p, hp⟩ : ∃ p, p = n2 - 1 - z := ⟨_, rfl⟩
            obtain ⟨r, hr⟩ : ∃ r, r = m2 - 1 - z := ⟨_, rfl⟩
            rw [← hp] at h3 h4
            rw [← hr] at h5 h6
            have f1 : IntKind.i64.wrap ((n2 : Int) - 1) = (n2 : Int) - 1 := IntWalk.i64_in _ ⟨by omega, by omega⟩
            have f2 : IntKind.i64.wrap ((n2 : Int) - 1 - (z : Int)) = (p : Int) := by rw [IntWalk.i64_in _ ⟨by omega, by omega⟩]; omega
            have f3 : IntKind.i64.wrap ((m2 : Int) - 1) = (m2 : Int) - 1 := IntWalk.i64_in _ ⟨by omega, by omega⟩
            have f4 : IntKind.i64.wrap ((m2 : Int) - 1 - (z : Int)) = (r : Int) := by rw [IntWalk.i64_in _ ⟨by omega, by omega⟩]; omega
            have f5 : p < n2 := by omega
            have f6 : r < m2 := by omega
            have d1 : decide (z < q2) = true := decide_eq_true (by omega)
            clear hp hr
            go_wp2
            go_region
            all_goals go_wp2_with (with_reducible refine wpList_store_row rfl _ _ _ rfl w.heap.size #[.int .u64 (k : Int), .int .u64 (z : Int), .int .u64 (mz : Int)] rfl rfl 150 #[.int .u64 0, .int .u64 0, .int .u64 0] hNa.out hi3.out (Eq.refl _) hone.out ?_)
            rw [hA'.out, hB'.out, hfin.out]
            exact bodyPost_ret (results_cell_row rfl _ _ w.heap.size _ _ _ _ rfl (setRow_heap _ _ _ _ _ _ hNa.out) hu3.out rfl info3) rfl ⟨rfl, below_setRow (by first | exact hb2'.out.drew | exact below_drawn hb2'.out _) (Nat.le_refl _) _⟩
        · clear hgo2
          have d1 : decide (z < q2) = false := decide_eq_false (by omega)
          go_wp2
          go_region
          all_goals go_wp2_with (with_reducible refine wpList_store_row rfl _ _ _ rfl w.heap.size #[.int .u64 (k : Int), .int .u64 (z : Int), .int .u64 (mz : Int)] rfl rfl 150 #[.int .u64 0, .int .u64 0, .int .u64 0] hNa.out hi3.out (Eq.refl _) hone.out ?_)
          rw [hA'.out, hB'.out, hfin.out]
          exact bodyPost_ret (results_cell_row rfl _ _ w.heap.size _ _ _ _ rfl (setRow_heap _ _ _ _ _ _ hNa.out) hu3.out rfl info3) rfl ⟨rfl, below_setRow (by first | exact hb2'.out.drew | exact below_drawn hb2'.out _) (Nat.le_refl _) _⟩
end Go.Proofs.Ytodncamohimmmaa
