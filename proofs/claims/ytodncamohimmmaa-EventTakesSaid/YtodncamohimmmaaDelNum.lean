/-
  delta's takeNumbers and check. Conditions: those that each theorem states.
-/
import Derived.Test.YtodncamohimmmaaDelEnds
import Derived.Test.YtodncamohimmmaaLow10
import Derived.Test.YtodncamohimmmaaDelRefTake
import Derived.ChangeKeysEq
namespace Go.Proofs.Ytodncamohimmmaa
open Go.RowKit Go.Lib Go.Maps Go.WideMaps Leb

theorem results_cell2 {fn : Func} {p u v : Tmp} {ty : TypeId} (h : fn.results = #[.cell p ty, .tmp u, .tmp v]) (tmps : Array Value) (P : Program) (w : World) :
    (results fn tmps).run P w = ((asAddr (tmps.getD p undef)).run P w).andThen fun a w₁ => ((loadVar ty a).run P w₁).andThen fun x w₂ => .ok (.tuple #[x, tmps.getD u undef, tmps.getD v undef]) w₂ := by
  simp only [results, h]
  simp [Sem.run_bind, Result.andThen]
set_option maxRecDepth 100000 in
theorem tn_result {tmps : Array Value} {w : World} {g : Nat} {x y z q e : Int} (hp : tmps.getD 4 undef = .pointer (some ⟨g, 0, Option.none⟩)) (hq : tmps.getD 5 undef = .int .i64 q) (he : tmps.getD 6 undef = .int .i64 e) (hg : w.heap[g]? = some (.cells #[.int .u64 x, .int .u64 y, .int .u64 z] 150 (0, 0))) :
    (results Try.f90 tmps).run Try.prog w = .ok (.tuple #[.agg #[.int .u64 x, .int .u64 y, .int .u64 z], .int .i64 q, .int .i64 e]) w := by
  rw [results_cell2 (fn := Try.f90) (p := 4) (u := 5) (v := 6) (ty := 150) rfl, hp, hq, he]
  obtain ⟨u3, hu3⟩ := und3
  have h := run_loadVar_row w g 150 150 #[.int .u64 x, .int .u64 y, .int .u64 z] (0, 0) (.array u3 23) hg hu3 rfl info3
  simp [asAddr, Result.andThen, h]
theorem below_set3 {w wr : World} (h : Below w.heap.size w wr) (k : Nat) (v : Value) : Below w.heap.size w (wr.setCell ⟨w.heap.size, k, Option.none⟩ v) :=
  below_alt h (alt_set wr ⟨w.heap.size, k, Option.none⟩ v (S := fun j => j = w.heap.size) rfl) h.size fun j e => by omega
theorem one3 (x y z : Int) : (#[.int .u64 x, .int .u64 y, .int .u64 z] : Array Value).all (·.oneCell') = true := by simp [Value.oneCell']
set_option maxRecDepth 100000 in
theorem run_equal3 (w : World) (x y z x' y' z' : Int) : (Op.equal 150 (.agg #[.int .u64 x, .int .u64 y, .int .u64 z]) (.agg #[.int .u64 x', .int .u64 y', .int .u64 z'])).run Try.prog w = .ok (x == x' && (y == y' && z == z')) w := by
  obtain ⟨i, hi⟩ : ∃ i, Try.prog.info? 23 = some i := Option.isSome_iff_exists.1 (show (Try.prog.info? 23).isSome = true by kernel_rfl)
  show (Op.equalIn (9999 + 1) _ _ _).run _ _ = _
  rw [run_equalIn_array w 9999 _ _ Try.underlying150 hi]
  have hc : Try.prog.cellsOf 23 = 1 := by kernel_rfl
  rw [hc]
  have hr : List.range 3 = [0, 1, 2] := by decide
  rw [hr]
  have hp : ∀ (j : Nat) (v : Value) (cs : Array Value), cs[j]? = some v → (part 23 cs j).run Try.prog w = .ok v w := fun j v cs h => by
    simp [part, h, Sem.run_bind]
  have he : ∀ a b : Int, (Op.equalIn 9999 23 (.int .u64 a) (.int .u64 b)).run Try.prog w = .ok (a == b) w := fun a b => run_equalIn_int w 9998 _ _ _ _ _ Try.underlying23
  simp only [Op.eqItems]
  cases hx : x == x' <;> cases hy : y == y' <;> cases hz : z == z' <;> simp [hp, he, hx, hy, hz]
theorem run_neq3 (w : World) (x y z x' y' z' : Int) : (binOp .neq 150 (.agg #[.int .u64 x, .int .u64 y, .int .u64 z]) (.agg #[.int .u64 x', .int .u64 y', .int .u64 z'])).run Try.prog w = .ok (.bool (!(x == x' && (y == y' && z == z')))) w := by
  have h := run_equal3 w x y z x' y' z'
  simp [binOp, h]
def TNum (w : World) (x y z : Nat) (q e : Int) (en : Ending) (w' : World) : Prop := en = .returned (.tuple #[d3 x y z, .int .i64 q, .int .i64 e]) ∧ Below w.heap.size w w'
section
variable (A : Option Addr) (n c : Nat) (X : List Int) (p : Int) (w : World)
set_option maxHeartbeats 32000000 in
set_option maxRecDepth 100000 in
theorem tnum_e1 {a : Nat} {q1 e : Int} (h1 : take X p = (a, q1, e)) (he : e ≠ 0) (hX : Holds w A n c X) : Calls Try.prog 90 #[.slice A n c, .int .i64 p] w (TNum w 0 0 0 0 e) := by
  have hk1 := Lib.hid (fun W hW => take_is (w := W) (hX.later hW) h1)
  have hz := eq0_false he
  obtain ⟨u3, hu3⟩ := und3
  replace hu3 := Lib.hid hu3
  clear hX h1
  go_enter Try.func90, Try.ntmps90
  go_wp2
  go_loopw [5, 9] (fun pv i wr => Below w.heap.size w wr ∧ ((i = .int .i64 0 ∧ pv = .int .i64 p ∧ N3 wr w.heap.size 0 0 0))) (fun _ i _ => 3 - (RowKit.intOf i).toNat)
  case atStart => exact ⟨below_box w _, ⟨rfl, rfl, heap_alloc_new w _⟩⟩
  case round =>
    obtain ⟨hB, hrel⟩ := hrel
    have hB := Lib.hid hB
    obtain ⟨rfl, rfl, hN⟩ := hrel
    have c0 := hN.c0
    have f0 := hN.free 0
    have hN' := Lib.hid (hN.set0 (a : Nat))
    clear hN
    have hNa := Lib.hid (show (wr.setCell ⟨w.heap.size, 0, Option.none⟩ (.int .u64 (a : Int))).heap[w.heap.size]? = some (.cells #[.int .u64 (a : Int), .int .u64 0, .int .u64 0] 150 (0, 0)) from hN'.out)
    have hi3 := Lib.hid (show (Try.prog.info? 150).map (·.size) = some (#[.int .u64 0, .int .u64 0, .int .u64 0] : Array Value).size from info3)
    have hone := Lib.hid (one3 0 0 0)
    go_wp2_with (first
      | (go_at_call 54; refine (hk1.out wr hB.out).mono ?_; rintro e9 w9 ⟨rfl, hw9⟩; subst hw9)
      | (with_reducible refine wpList_store_row rfl _ _ _ rfl w.heap.size #[.int .u64 0, .int .u64 0, .int .u64 0] rfl rfl 150 #[.int .u64 (a : Int), .int .u64 0, .int .u64 0] hNa.out hi3.out (Eq.refl _) hone.out ?_))
    exact bodyPost_ret (tn_result (g := w.heap.size) rfl rfl rfl (setRow_heap _ _ _ _ _ _ hNa.out)) rfl ⟨rfl, below_setRow (below_set3 hB.out _ _) (Nat.le_refl _) _⟩
set_option maxHeartbeats 32000000 in
set_option maxRecDepth 100000 in
theorem tnum_e2 {a a2 : Nat} {q1 q2 e : Int} (h1 : take X p = (a, q1, 0)) (h2 : take X q1 = (a2, q2, e)) (he : e ≠ 0) (hX : Holds w A n c X) : Calls Try.prog 90 #[.slice A n c, .int .i64 p] w (TNum w 0 0 0 0 e) := by
  have hk1 := Lib.hid (fun W hW => take_is (w := W) (hX.later hW) h1)
  have hk2 := Lib.hid (fun W hW => take_is (w := W) (hX.later hW) h2)
  have hz := eq0_false he
  obtain ⟨u3, hu3⟩ := und3
  replace hu3 := Lib.hid hu3
  clear hX h1 h2
  go_enter Try.func90, Try.ntmps90
  go_wp2
  go_loopw [5, 9] (fun pv i wr => Below w.heap.size w wr ∧ ((i = .int .i64 0 ∧ pv = .int .i64 p ∧ N3 wr w.heap.size 0 0 0) ∨ (i = .int .i64 1 ∧ pv = .int .i64 q1 ∧ N3 wr w.heap.size (a : Nat) 0 0))) (fun _ i _ => 3 - (RowKit.intOf i).toNat)
  case atStart => exact ⟨below_box w _, .inl ⟨rfl, rfl, heap_alloc_new w _⟩⟩
  case round =>
    obtain ⟨hB, hrel⟩ := hrel
    have hB := Lib.hid hB
    rcases hrel with ⟨rfl, rfl, hN⟩ | ⟨rfl, rfl, hN⟩
    · have c0 := hN.c0
      have f0 := hN.free 0
      have hN' := Lib.hid (hN.set0 (a : Nat))
      clear hN
      go_wp2_with (go_at_call 54; refine (hk1.out wr hB.out).mono ?_; rintro e9 w9 ⟨rfl, hw9⟩; subst hw9)
      go_roundw
      case rel => exact ⟨below_set3 hB.out _ _, .inr (⟨by go_num, rfl, hN'.out⟩)⟩
      case measure => simp [RowKit.intOf]
    · have c1 := hN.c1
      have f1 := hN.free 1
      have hN' := Lib.hid (hN.set1 (a2 : Nat))
      clear hN
      have hNa := Lib.hid (show (wr.setCell ⟨w.heap.size, 1, Option.none⟩ (.int .u64 (a2 : Int))).heap[w.heap.size]? = some (.cells #[.int .u64 (a : Int), .int .u64 (a2 : Int), .int .u64 0] 150 (0, 0)) from hN'.out)
      have hi3 := Lib.hid (show (Try.prog.info? 150).map (·.size) = some (#[.int .u64 0, .int .u64 0, .int .u64 0] : Array Value).size from info3)
      have hone := Lib.hid (one3 0 0 0)
      go_wp2_with (first
        | (go_at_call 54; refine (hk2.out wr hB.out).mono ?_; rintro e9 w9 ⟨rfl, hw9⟩; subst hw9)
        | (with_reducible refine wpList_store_row rfl _ _ _ rfl w.heap.size #[.int .u64 0, .int .u64 0, .int .u64 0] rfl rfl 150 #[.int .u64 (a : Int), .int .u64 (a2 : Int), .int .u64 0] hNa.out hi3.out (Eq.refl _) hone.out ?_))
      exact bodyPost_ret (tn_result (g := w.heap.size) rfl rfl rfl (setRow_heap _ _ _ _ _ _ hNa.out)) rfl ⟨rfl, below_setRow (below_set3 hB.out _ _) (Nat.le_refl _) _⟩
set_option maxHeartbeats 32000000 in
set_option maxRecDepth 100000 in
theorem tnum_e3 {a a2 a3 : Nat} {q1 q2 q3 e : Int} (h1 : take X p = (a, q1, 0)) (h2 : take X q1 = (a2, q2, 0)) (h3 : take X q2 = (a3, q3, e)) (he : e ≠ 0) (hX : Holds w A n c X) : Calls Try.prog 90 #[.slice A n c, .int .i64 p] w (TNum w 0 0 0 0 e) := by
  have hk1 := Lib.hid (fun W hW => take_is (w := W) (hX.later hW) h1)
  have hk2 := Lib.hid (fun W hW => take_is (w := W) (hX.later hW) h2)
  have hk3 := Lib.hid (fun W hW => take_is (w := W) (hX.later hW) h3)
  have hz := eq0_false he
  obtain ⟨u3, hu3⟩ := und3
  replace hu3 := Lib.hid hu3
  clear hX h1 h2 h3
  go_enter Try.func90, Try.ntmps90
  go_wp2
  go_loopw [5, 9] (fun pv i wr => Below w.heap.size w wr ∧ ((i = .int .i64 0 ∧ pv = .int .i64 p ∧ N3 wr w.heap.size 0 0 0) ∨ (i = .int .i64 1 ∧ pv = .int .i64 q1 ∧ N3 wr w.heap.size (a : Nat) 0 0) ∨ (i = .int .i64 2 ∧ pv = .int .i64 q2 ∧ N3 wr w.heap.size (a : Nat) (a2 : Nat) 0))) (fun _ i _ => 3 - (RowKit.intOf i).toNat)
  case atStart => exact ⟨below_box w _, .inl ⟨rfl, rfl, heap_alloc_new w _⟩⟩
  case round =>
    obtain ⟨hB, hrel⟩ := hrel
    have hB := Lib.hid hB
    rcases hrel with ⟨rfl, rfl, hN⟩ | ⟨rfl, rfl, hN⟩ | ⟨rfl, rfl, hN⟩
    · have c0 := hN.c0
      have f0 := hN.free 0
      have hN' := Lib.hid (hN.set0 (a : Nat))
      clear hN
      go_wp2_with (go_at_call 54; refine (hk1.out wr hB.out).mono ?_; rintro e9 w9 ⟨rfl, hw9⟩; subst hw9)
      go_roundw
      case rel => exact ⟨below_set3 hB.out _ _, .inr (.inl ⟨by go_num, rfl, hN'.out⟩)⟩
      case measure => simp [RowKit.intOf]
    · have c1 := hN.c1
      have f1 := hN.free 1
      have hN' := Lib.hid (hN.set1 (a2 : Nat))
      clear hN
      go_wp2_with (go_at_call 54; refine (hk2.out wr hB.out).mono ?_; rintro e9 w9 ⟨rfl, hw9⟩; subst hw9)
      go_roundw
      case rel => exact ⟨below_set3 hB.out _ _, .inr (.inr (⟨by go_num, rfl, hN'.out⟩))⟩
      case measure => simp [RowKit.intOf]
    · have c2 := hN.c2
      have f2 := hN.free 2
      have hN' := Lib.hid (hN.set2 (a3 : Nat))
      clear hN
      have hNa := Lib.hid (show (wr.setCell ⟨w.heap.size, 2, Option.none⟩ (.int .u64 (a3 : Int))).heap[w.heap.size]? = some (.cells #[.int .u64 (a : Int), .int .u64 (a2 : Int), .int .u64 (a3 : Int)] 150 (0, 0)) from hN'.out)
      have hi3 := Lib.hid (show (Try.prog.info? 150).map (·.size) = some (#[.int .u64 0, .int .u64 0, .int .u64 0] : Array Value).size from info3)
      have hone := Lib.hid (one3 0 0 0)
      go_wp2_with (first
        | (go_at_call 54; refine (hk3.out wr hB.out).mono ?_; rintro e9 w9 ⟨rfl, hw9⟩; subst hw9)
        | (with_reducible refine wpList_store_row rfl _ _ _ rfl w.heap.size #[.int .u64 0, .int .u64 0, .int .u64 0] rfl rfl 150 #[.int .u64 (a : Int), .int .u64 (a2 : Int), .int .u64 (a3 : Int)] hNa.out hi3.out (Eq.refl _) hone.out ?_))
      exact bodyPost_ret (tn_result (g := w.heap.size) rfl rfl rfl (setRow_heap _ _ _ _ _ _ hNa.out)) rfl ⟨rfl, below_setRow (below_set3 hB.out _ _) (Nat.le_refl _) _⟩
set_option maxHeartbeats 32000000 in
set_option maxRecDepth 100000 in
theorem tnum_ok {a a2 a3 : Nat} {q1 q2 q3 : Int} (h1 : take X p = (a, q1, 0)) (h2 : take X q1 = (a2, q2, 0)) (h3 : take X q2 = (a3, q3, 0)) (hX : Holds w A n c X) : Calls Try.prog 90 #[.slice A n c, .int .i64 p] w (TNum w a a2 a3 q3 0) := by
  have hk1 := Lib.hid (fun W hW => take_is (w := W) (hX.later hW) h1)
  have hk2 := Lib.hid (fun W hW => take_is (w := W) (hX.later hW) h2)
  have hk3 := Lib.hid (fun W hW => take_is (w := W) (hX.later hW) h3)
  obtain ⟨u3, hu3⟩ := und3
  replace hu3 := Lib.hid hu3
  clear hX h1 h2 h3
  go_enter Try.func90, Try.ntmps90
  go_wp2
  go_loopw [5, 9] (fun pv i wr => Below w.heap.size w wr ∧ ((i = .int .i64 0 ∧ pv = .int .i64 p ∧ N3 wr w.heap.size 0 0 0) ∨ (i = .int .i64 1 ∧ pv = .int .i64 q1 ∧ N3 wr w.heap.size (a : Nat) 0 0) ∨ (i = .int .i64 2 ∧ pv = .int .i64 q2 ∧ N3 wr w.heap.size (a : Nat) (a2 : Nat) 0) ∨ (i = .int .i64 3 ∧ pv = .int .i64 q3 ∧ N3 wr w.heap.size (a : Nat) (a2 : Nat) (a3 : Nat)))) (fun _ i _ => 3 - (RowKit.intOf i).toNat)
  case atStart => exact ⟨below_box w _, .inl ⟨rfl, rfl, heap_alloc_new w _⟩⟩
  case round =>
    obtain ⟨hB, hrel⟩ := hrel
    have hB := Lib.hid hB
    rcases hrel with ⟨rfl, rfl, hN⟩ | ⟨rfl, rfl, hN⟩ | ⟨rfl, rfl, hN⟩ | ⟨rfl, rfl, hN⟩
    · have c0 := hN.c0
      have f0 := hN.free 0
      have hN' := Lib.hid (hN.set0 (a : Nat))
      clear hN
      go_wp2_with (go_at_call 54; refine (hk1.out wr hB.out).mono ?_; rintro e9 w9 ⟨rfl, hw9⟩; subst hw9)
      go_roundw
      case rel => exact ⟨below_set3 hB.out _ _, .inr (.inl ⟨by go_num, rfl, hN'.out⟩)⟩
      case measure => simp [RowKit.intOf]
    · have c1 := hN.c1
      have f1 := hN.free 1
      have hN' := Lib.hid (hN.set1 (a2 : Nat))
      clear hN
      go_wp2_with (go_at_call 54; refine (hk2.out wr hB.out).mono ?_; rintro e9 w9 ⟨rfl, hw9⟩; subst hw9)
      go_roundw
      case rel => exact ⟨below_set3 hB.out _ _, .inr (.inr (.inl ⟨by go_num, rfl, hN'.out⟩))⟩
      case measure => simp [RowKit.intOf]
    · have c2 := hN.c2
      have f2 := hN.free 2
      have hN' := Lib.hid (hN.set2 (a3 : Nat))
      clear hN
      go_wp2_with (go_at_call 54; refine (hk3.out wr hB.out).mono ?_; rintro e9 w9 ⟨rfl, hw9⟩; subst hw9)
      go_roundw
      case rel => exact ⟨below_set3 hB.out _ _, .inr (.inr (.inr (⟨by go_num, rfl, hN'.out⟩)))⟩
      case measure => simp [RowKit.intOf]
    · have hNa := Lib.hid (show wr.heap[w.heap.size]? = some (.cells #[.int .u64 (a : Int), .int .u64 (a2 : Int), .int .u64 (a3 : Int)] 150 (0, 0)) from hN)
      have hi3 := Lib.hid (show (Try.prog.info? 150).map (·.size) = some (#[.int .u64 (a : Int), .int .u64 (a2 : Int), .int .u64 (a3 : Int)] : Array Value).size from info3)
      have hone := Lib.hid (one3 a a2 a3)
      clear hN
      go_wp2_with (first
        | (with_reducible refine wpList_load_row rfl _ _ rfl w.heap.size rfl 150 #[.int .u64 (a : Int), .int .u64 (a2 : Int), .int .u64 (a3 : Int)] (0, 0) (.array u3 23) hNa.out hu3.out rfl hi3.out ?_)
        | (with_reducible refine wpList_store_row rfl _ _ _ rfl w.heap.size #[.int .u64 (a : Int), .int .u64 (a2 : Int), .int .u64 (a3 : Int)] rfl rfl 150 #[.int .u64 (a : Int), .int .u64 (a2 : Int), .int .u64 (a3 : Int)] hNa.out hi3.out (Eq.refl _) hone.out ?_))
      exact bodyPost_ret (tn_result (g := w.heap.size) rfl rfl rfl (setRow_heap _ _ _ _ _ _ hNa.out)) rfl ⟨rfl, below_setRow hB.out (Nat.le_refl _) _⟩
set_option maxHeartbeats 8000000 in
set_option maxRecDepth 100000 in
theorem check_n1 {a a2 a3 m : Nat} (g1 : m < a) (w : World) : Calls Try.prog 91 #[d3 a a2 a3, .int .u64 (m : Int)] w fun e w' => e = .returned (.int .i64 5) ∧ Below w.heap.size w w' := by
  have d1 : decide (m < a) = true := decide_eq_true (by omega)
  have d1i : decide ((m : Int) < (a : Int)) = true := decide_eq_true (by omega)
  have hN : N3 (w.alloc (.cells #[.int .u64 (a : Int), .int .u64 (a2 : Int), .int .u64 (a3 : Int)] 150)) w.heap.size a a2 a3 := heap_alloc_new w _
  have c0 := hN.c0
  have c1 := hN.c1
  have c2 := hN.c2
  clear hN
  unfold d3
  go_enter Try.func91, Try.ntmps91
  go_wp2
  go_ret
  exact ⟨rfl, below_box w _⟩
set_option maxHeartbeats 8000000 in
set_option maxRecDepth 100000 in
theorem check_n2 {a a2 a3 m : Nat} (hm : m ≤ 1000) (g1 : a ≤ m) (g2 : m < a + a2) (w : World) : Calls Try.prog 91 #[d3 a a2 a3, .int .u64 (m : Int)] w fun e w' => e = .returned (.int .i64 5) ∧ Below w.heap.size w w' := by
  have d1 : decide (m < a) = false := decide_eq_false (by omega)
  have d1i : decide ((m : Int) < (a : Int)) = false := decide_eq_false (by omega)
  obtain ⟨nd, hnd⟩ : ∃ nd, nd = m - a := ⟨_, rfl⟩
  have wnd : IntKind.u64.wrap ((m : Int) - (a : Int)) = (nd : Int) := by rw [IntWalk.u64_in _ ⟨by omega, by omega⟩]; omega
  have d2 : decide (nd < a2) = true := decide_eq_true (by omega)
  have d2i : decide ((nd : Int) < (a2 : Int)) = true := decide_eq_true (by omega)
  clear hnd
  have hN : N3 (w.alloc (.cells #[.int .u64 (a : Int), .int .u64 (a2 : Int), .int .u64 (a3 : Int)] 150)) w.heap.size a a2 a3 := heap_alloc_new w _
  have c0 := hN.c0
  have c1 := hN.c1
  have c2 := hN.c2
  clear hN
  unfold d3
  go_enter Try.func91, Try.ntmps91
  go_wp2
  go_ret
  exact ⟨rfl, below_box w _⟩
set_option maxHeartbeats 8000000 in
set_option maxRecDepth 100000 in
theorem check_o1 {a a2 a3 m : Nat} (hm : m ≤ 1000) (g1 : a + a2 ≤ m) (g2 : 25 < a + a2) (w : World) : Calls Try.prog 91 #[d3 a a2 a3, .int .u64 (m : Int)] w fun e w' => e = .returned (.int .i64 2) ∧ Below w.heap.size w w' := by
  have d1 : decide (m < a) = false := decide_eq_false (by omega)
  have d1i : decide ((m : Int) < (a : Int)) = false := decide_eq_false (by omega)
  obtain ⟨nd, hnd⟩ : ∃ nd, nd = m - a := ⟨_, rfl⟩
  have wnd : IntKind.u64.wrap ((m : Int) - (a : Int)) = (nd : Int) := by rw [IntWalk.u64_in _ ⟨by omega, by omega⟩]; omega
  have d2 : decide (nd < a2) = false := decide_eq_false (by omega)
  have d2i : decide ((nd : Int) < (a2 : Int)) = false := decide_eq_false (by omega)
  clear hnd
  have hsum : IntKind.u64.wrap ((a : Int) + (a2 : Int)) = ((a + a2 : Nat) : Int) := by rw [IntWalk.u64_in _ ⟨by omega, by omega⟩]; omega
  obtain ⟨kp, hkp⟩ : ∃ kp, kp = a + a2 := ⟨_, rfl⟩
  rw [← hkp] at hsum
  have d3' : decide (25 < kp) = true := decide_eq_true (by omega)
  have d3i : decide ((25 : Int) < (kp : Int)) = true := decide_eq_true (by omega)
  clear hkp
  have hN : N3 (w.alloc (.cells #[.int .u64 (a : Int), .int .u64 (a2 : Int), .int .u64 (a3 : Int)] 150)) w.heap.size a a2 a3 := heap_alloc_new w _
  have c0 := hN.c0
  have c1 := hN.c1
  have c2 := hN.c2
  clear hN
  unfold d3
  go_enter Try.func91, Try.ntmps91
  go_wp2
  go_ret
  exact ⟨rfl, below_box w _⟩
set_option maxHeartbeats 8000000 in
set_option maxRecDepth 100000 in
theorem check_o2 {a a2 a3 m : Nat} (hm : m ≤ 1000) (g1 : a + a2 ≤ m) (g2 : a + a2 ≤ 25) (g3 : 25 < a + a2 + a3) (w : World) : Calls Try.prog 91 #[d3 a a2 a3, .int .u64 (m : Int)] w fun e w' => e = .returned (.int .i64 2) ∧ Below w.heap.size w w' := by
  have d1 : decide (m < a) = false := decide_eq_false (by omega)
  have d1i : decide ((m : Int) < (a : Int)) = false := decide_eq_false (by omega)
  obtain ⟨nd, hnd⟩ : ∃ nd, nd = m - a := ⟨_, rfl⟩
  have wnd : IntKind.u64.wrap ((m : Int) - (a : Int)) = (nd : Int) := by rw [IntWalk.u64_in _ ⟨by omega, by omega⟩]; omega
  have d2 : decide (nd < a2) = false := decide_eq_false (by omega)
  have d2i : decide ((nd : Int) < (a2 : Int)) = false := decide_eq_false (by omega)
  clear hnd
  have hsum : IntKind.u64.wrap ((a : Int) + (a2 : Int)) = ((a + a2 : Nat) : Int) := by rw [IntWalk.u64_in _ ⟨by omega, by omega⟩]; omega
  obtain ⟨kp, hkp⟩ : ∃ kp, kp = a + a2 := ⟨_, rfl⟩
  rw [← hkp] at hsum
  have d3' : decide (25 < kp) = false := decide_eq_false (by omega)
  have d3i : decide ((25 : Int) < (kp : Int)) = false := decide_eq_false (by omega)
  obtain ⟨tb, htb⟩ : ∃ tb, tb = 25 - kp := ⟨_, rfl⟩
  have wtb : IntKind.u64.wrap (25 - (kp : Int)) = (tb : Int) := by rw [IntWalk.u64_in _ ⟨by omega, by omega⟩]; omega
  have d4 : decide (tb < a3) = true := decide_eq_true (by omega)
  have d4i : decide ((tb : Int) < (a3 : Int)) = true := decide_eq_true (by omega)
  clear htb
  clear hkp
  have hN : N3 (w.alloc (.cells #[.int .u64 (a : Int), .int .u64 (a2 : Int), .int .u64 (a3 : Int)] 150)) w.heap.size a a2 a3 := heap_alloc_new w _
  have c0 := hN.c0
  have c1 := hN.c1
  have c2 := hN.c2
  clear hN
  unfold d3
  go_enter Try.func91, Try.ntmps91
  go_wp2
  go_ret
  exact ⟨rfl, below_box w _⟩
set_option maxHeartbeats 8000000 in
set_option maxRecDepth 100000 in
theorem check_ok {a a2 a3 m : Nat} (hm : m ≤ 1000) (g1 : a + a2 ≤ m) (g3 : a + a2 + a3 ≤ 25) (w : World) : Calls Try.prog 91 #[d3 a a2 a3, .int .u64 (m : Int)] w fun e w' => e = .returned (.int .i64 0) ∧ Below w.heap.size w w' := by
  have d1 : decide (m < a) = false := decide_eq_false (by omega)
  have d1i : decide ((m : Int) < (a : Int)) = false := decide_eq_false (by omega)
  obtain ⟨nd, hnd⟩ : ∃ nd, nd = m - a := ⟨_, rfl⟩
  have wnd : IntKind.u64.wrap ((m : Int) - (a : Int)) = (nd : Int) := by rw [IntWalk.u64_in _ ⟨by omega, by omega⟩]; omega
  have d2 : decide (nd < a2) = false := decide_eq_false (by omega)
  have d2i : decide ((nd : Int) < (a2 : Int)) = false := decide_eq_false (by omega)
  clear hnd
  have hsum : IntKind.u64.wrap ((a : Int) + (a2 : Int)) = ((a + a2 : Nat) : Int) := by rw [IntWalk.u64_in _ ⟨by omega, by omega⟩]; omega
  obtain ⟨kp, hkp⟩ : ∃ kp, kp = a + a2 := ⟨_, rfl⟩
  rw [← hkp] at hsum
  have d3' : decide (25 < kp) = false := decide_eq_false (by omega)
  have d3i : decide ((25 : Int) < (kp : Int)) = false := decide_eq_false (by omega)
  obtain ⟨tb, htb⟩ : ∃ tb, tb = 25 - kp := ⟨_, rfl⟩
  have wtb : IntKind.u64.wrap (25 - (kp : Int)) = (tb : Int) := by rw [IntWalk.u64_in _ ⟨by omega, by omega⟩]; omega
  have d4 : decide (tb < a3) = false := decide_eq_false (by omega)
  have d4i : decide ((tb : Int) < (a3 : Int)) = false := decide_eq_false (by omega)
  clear htb
  clear hkp
  have hN : N3 (w.alloc (.cells #[.int .u64 (a : Int), .int .u64 (a2 : Int), .int .u64 (a3 : Int)] 150)) w.heap.size a a2 a3 := heap_alloc_new w _
  have c0 := hN.c0
  have c1 := hN.c1
  have c2 := hN.c2
  clear hN
  unfold d3
  go_enter Try.func91, Try.ntmps91
  go_wp2
  go_ret
  exact ⟨rfl, below_box w _⟩
end
end Go.Proofs.Ytodncamohimmmaa
