/-
  delta's Take, where it refuses ahead of the headers. Conditions: those that each theorem states.
-/
import Derived.Test.YtkjnpdnihfohoaaDelTab
import Derived.Test.YtkjnpdnihfohoaaDelNum
import Derived.Test.YtkjnpdnihfohoaaDelCat
import Derived.Test.YtkjnpdnihfohoaaDelHds
import Derived.Test.YtkjnpdnihfohoaaDelRefTakeM
namespace Go.Proofs.Ytkjnpdnihfohoaa
open Go.RowKit Go.Lib Go.Maps Go.WideMaps Leb

/-- The end of Take: the headers, in memory of the call's own, the place, the error; and the table. -/
def DTook (w : World) (b : Nat) (S : Nat → Prop) (r : (List Hd × Int × Int) × List (List UInt8)) (en : Ending) (w' : World) : Prop :=
  ∃ v S', en = .returned (.tuple #[v, .int .i64 r.1.2.1, .int .i64 r.1.2.2]) ∧ OwnsH w' w.heap.size v r.1.1 ∧ PStep w w' b S S' r.2
section
variable (b : Nat) (T : List (List UInt8)) (S : Nat → Prop) (A : Option Addr) (n c : Nat) (X : List Int) (p : Int) (Aw : Option Addr) (nw cw : Nat) (was : List Hd) (w : World)
set_option maxHeartbeats 32000000 in
set_option maxRecDepth 100000 in
theorem dtake20_e1 {a : Nat} {q1 e : Int} (h1 : take X p = (a, q1, e)) (he : e ≠ 0) (h : PTab w b T S) (hX : Holds w A n c X) : Calls Try.prog 10 #[.slice A n c, .int .i64 p, .pointer (some ⟨b, 0, Option.none⟩), .slice Aw nw cw] w (DTook w b S (([], 0, e), T)) := by
  have hR := Lib.hid h
  have htn := Lib.hid (tnum_e1 A n c X p w h1 he hX)
  obtain ⟨u3, hu3⟩ := und3
  replace hu3 := Lib.hid hu3
  have hz := eq0_false he
  clear h hX h1
  go_enter Try.func10, Try.ntmps10
  go_wp2_with (first
    | (go_at_call 22; refine htn.out.mono ?_; rintro e0 w1 ⟨rfl, hb1⟩; have hb1' := Lib.hid hb1; clear hb1; rw [show d3 0 0 0 = .agg #[.int .u64 0, .int .u64 0, .int .u64 0] from rfl]; obtain ⟨W1, hW1⟩ : ∃ W1, W1 = (w1.alloc (.cells #[.int .u64 0, .int .u64 0, .int .u64 0] 46)).setRow w1.heap.size #[.int .u64 0, .int .u64 0, .int .u64 0] := ⟨_, rfl⟩; have hNa := Lib.hid (heap_alloc_new w1 (.cells #[.int .u64 0, .int .u64 0, .int .u64 0] 46)); have hi3 := Lib.hid (show (Try.prog.info? 46).map (·.size) = some (#[.int .u64 0, .int .u64 0, .int .u64 0] : Array Value).size from info3); have hone := Lib.hid (one3 0 0 0); have hN1 := Lib.hid (show N3 W1 w1.heap.size 0 0 0 by rw [hW1]; exact setRow_heap _ _ _ _ _ _ hNa.out); have hBW := Lib.hid (show Below w.heap.size w W1 by rw [hW1]; exact below_setRow (below_then hb1'.out (below_box w1 _)) hb1'.out.size _); have hsz1 := Lib.hid hb1'.out.size; have hNb := Lib.hid (show W1.heap[w1.heap.size]? = some (.cells #[.int .u64 0, .int .u64 0, .int .u64 0] 46 (0, 0)) from hN1.out); have hW1' := Lib.hid hW1; clear hW1)
    | (with_reducible refine wpList_store_row rfl _ _ _ rfl w1.heap.size #[.int .u64 0, .int .u64 0, .int .u64 0] rfl rfl 46 #[.int .u64 0, .int .u64 0, .int .u64 0] hNa.out hi3.out (Eq.refl _) hone.out ?_; rw [← hW1'.out]; clear hNa hW1'))
  go_ret3
  exact ⟨.slice Option.none 0 0, S, rfl, World.ownsRow_nil _ _ _ _, PStep.same hR.out hBW.out⟩
set_option maxHeartbeats 32000000 in
set_option maxRecDepth 100000 in
theorem dtake20_e2 {a a2 : Nat} {q1 q2 e : Int} (h1 : take X p = (a, q1, 0)) (h2 : take X q1 = (a2, q2, e)) (he : e ≠ 0) (h : PTab w b T S) (hX : Holds w A n c X) : Calls Try.prog 10 #[.slice A n c, .int .i64 p, .pointer (some ⟨b, 0, Option.none⟩), .slice Aw nw cw] w (DTook w b S (([], 0, e), T)) := by
  have hR := Lib.hid h
  have htn := Lib.hid (tnum_e2 A n c X p w h1 h2 he hX)
  obtain ⟨u3, hu3⟩ := und3
  replace hu3 := Lib.hid hu3
  have hz := eq0_false he
  clear h hX h1 h2
  go_enter Try.func10, Try.ntmps10
  go_wp2_with (first
    | (go_at_call 22; refine htn.out.mono ?_; rintro e0 w1 ⟨rfl, hb1⟩; have hb1' := Lib.hid hb1; clear hb1; rw [show d3 0 0 0 = .agg #[.int .u64 0, .int .u64 0, .int .u64 0] from rfl]; obtain ⟨W1, hW1⟩ : ∃ W1, W1 = (w1.alloc (.cells #[.int .u64 0, .int .u64 0, .int .u64 0] 46)).setRow w1.heap.size #[.int .u64 0, .int .u64 0, .int .u64 0] := ⟨_, rfl⟩; have hNa := Lib.hid (heap_alloc_new w1 (.cells #[.int .u64 0, .int .u64 0, .int .u64 0] 46)); have hi3 := Lib.hid (show (Try.prog.info? 46).map (·.size) = some (#[.int .u64 0, .int .u64 0, .int .u64 0] : Array Value).size from info3); have hone := Lib.hid (one3 0 0 0); have hN1 := Lib.hid (show N3 W1 w1.heap.size 0 0 0 by rw [hW1]; exact setRow_heap _ _ _ _ _ _ hNa.out); have hBW := Lib.hid (show Below w.heap.size w W1 by rw [hW1]; exact below_setRow (below_then hb1'.out (below_box w1 _)) hb1'.out.size _); have hsz1 := Lib.hid hb1'.out.size; have hNb := Lib.hid (show W1.heap[w1.heap.size]? = some (.cells #[.int .u64 0, .int .u64 0, .int .u64 0] 46 (0, 0)) from hN1.out); have hW1' := Lib.hid hW1; clear hW1)
    | (with_reducible refine wpList_store_row rfl _ _ _ rfl w1.heap.size #[.int .u64 0, .int .u64 0, .int .u64 0] rfl rfl 46 #[.int .u64 0, .int .u64 0, .int .u64 0] hNa.out hi3.out (Eq.refl _) hone.out ?_; rw [← hW1'.out]; clear hNa hW1'))
  go_ret3
  exact ⟨.slice Option.none 0 0, S, rfl, World.ownsRow_nil _ _ _ _, PStep.same hR.out hBW.out⟩
set_option maxHeartbeats 32000000 in
set_option maxRecDepth 100000 in
theorem dtake20_e3 {a a2 a3 : Nat} {q1 q2 q3 e : Int} (h1 : take X p = (a, q1, 0)) (h2 : take X q1 = (a2, q2, 0)) (h3 : take X q2 = (a3, q3, e)) (he : e ≠ 0) (h : PTab w b T S) (hX : Holds w A n c X) : Calls Try.prog 10 #[.slice A n c, .int .i64 p, .pointer (some ⟨b, 0, Option.none⟩), .slice Aw nw cw] w (DTook w b S (([], 0, e), T)) := by
  have hR := Lib.hid h
  have htn := Lib.hid (tnum_e3 A n c X p w h1 h2 h3 he hX)
  obtain ⟨u3, hu3⟩ := und3
  replace hu3 := Lib.hid hu3
  have hz := eq0_false he
  clear h hX h1 h2 h3
  go_enter Try.func10, Try.ntmps10
  go_wp2_with (first
    | (go_at_call 22; refine htn.out.mono ?_; rintro e0 w1 ⟨rfl, hb1⟩; have hb1' := Lib.hid hb1; clear hb1; rw [show d3 0 0 0 = .agg #[.int .u64 0, .int .u64 0, .int .u64 0] from rfl]; obtain ⟨W1, hW1⟩ : ∃ W1, W1 = (w1.alloc (.cells #[.int .u64 0, .int .u64 0, .int .u64 0] 46)).setRow w1.heap.size #[.int .u64 0, .int .u64 0, .int .u64 0] := ⟨_, rfl⟩; have hNa := Lib.hid (heap_alloc_new w1 (.cells #[.int .u64 0, .int .u64 0, .int .u64 0] 46)); have hi3 := Lib.hid (show (Try.prog.info? 46).map (·.size) = some (#[.int .u64 0, .int .u64 0, .int .u64 0] : Array Value).size from info3); have hone := Lib.hid (one3 0 0 0); have hN1 := Lib.hid (show N3 W1 w1.heap.size 0 0 0 by rw [hW1]; exact setRow_heap _ _ _ _ _ _ hNa.out); have hBW := Lib.hid (show Below w.heap.size w W1 by rw [hW1]; exact below_setRow (below_then hb1'.out (below_box w1 _)) hb1'.out.size _); have hsz1 := Lib.hid hb1'.out.size; have hNb := Lib.hid (show W1.heap[w1.heap.size]? = some (.cells #[.int .u64 0, .int .u64 0, .int .u64 0] 46 (0, 0)) from hN1.out); have hW1' := Lib.hid hW1; clear hW1)
    | (with_reducible refine wpList_store_row rfl _ _ _ rfl w1.heap.size #[.int .u64 0, .int .u64 0, .int .u64 0] rfl rfl 46 #[.int .u64 0, .int .u64 0, .int .u64 0] hNa.out hi3.out (Eq.refl _) hone.out ?_; rw [← hW1'.out]; clear hNa hW1'))
  go_ret3
  exact ⟨.slice Option.none 0 0, S, rfl, World.ownsRow_nil _ _ _ _, PStep.same hR.out hBW.out⟩
set_option maxHeartbeats 32000000 in
set_option maxRecDepth 100000 in
theorem dtake20_n1 {a a2 a3 : Nat} {q1 q2 q3 : Int} (h1 : take X p = (a, q1, 0)) (h2 : take X q1 = (a2, q2, 0)) (h3 : take X q2 = (a3, q3, 0)) (hnw : nw ≤ 1000) (g1 : nw < a) (h : PTab w b T S) (hX : Holds w A n c X) : Calls Try.prog 10 #[.slice A n c, .int .i64 p, .pointer (some ⟨b, 0, Option.none⟩), .slice Aw nw cw] w (DTook w b S (([], 0, 5), T)) := by
  have hR := Lib.hid h
  have htn := Lib.hid (tnum_ok A n c X p w h1 h2 h3 hX)
  obtain ⟨u3, hu3⟩ := und3
  replace hu3 := Lib.hid hu3
  have hck := Lib.hid (fun W => check_n1 (a := a) (a2 := a2) (a3 := a3) (m := nw) g1 W)
  unfold d3 at hck
  have hwn : IntKind.u64.wrap (nw : Int) = nw := wrap_of (show U64 nw by unfold U64; omega)
  clear h hX h1 h2 h3
  go_enter Try.func10, Try.ntmps10
  go_wp2_with (first
    | (go_at_call 22; refine htn.out.mono ?_; rintro e0 w1 ⟨rfl, hb1⟩; have hb1' := Lib.hid hb1; clear hb1; dsimp only [d3]; obtain ⟨W1, hW1⟩ : ∃ W1, W1 = (w1.alloc (.cells #[.int .u64 0, .int .u64 0, .int .u64 0] 46)).setRow w1.heap.size #[.int .u64 (a : Int), .int .u64 (a2 : Int), .int .u64 (a3 : Int)] := ⟨_, rfl⟩; have hNa := Lib.hid (heap_alloc_new w1 (.cells #[.int .u64 0, .int .u64 0, .int .u64 0] 46)); have hi3 := Lib.hid (show (Try.prog.info? 46).map (·.size) = some (#[.int .u64 (a : Int), .int .u64 (a2 : Int), .int .u64 (a3 : Int)] : Array Value).size from info3); have hone := Lib.hid (one3 a a2 a3); have hN1 := Lib.hid (show N3 W1 w1.heap.size a a2 a3 by rw [hW1]; exact setRow_heap _ _ _ _ _ _ hNa.out); have hBW := Lib.hid (show Below w.heap.size w W1 by rw [hW1]; exact below_setRow (below_then hb1'.out (below_box w1 _)) hb1'.out.size _); have hsz1 := Lib.hid hb1'.out.size; have hNb := Lib.hid (show W1.heap[w1.heap.size]? = some (.cells #[.int .u64 (a : Int), .int .u64 (a2 : Int), .int .u64 (a3 : Int)] 46 (0, 0)) from hN1.out); have hW1' := Lib.hid hW1; clear hW1)
    | (with_reducible refine wpList_store_row rfl _ _ _ rfl w1.heap.size #[.int .u64 (a : Int), .int .u64 (a2 : Int), .int .u64 (a3 : Int)] rfl rfl 46 #[.int .u64 0, .int .u64 0, .int .u64 0] hNa.out hi3.out (Eq.refl _) hone.out ?_; rw [← hW1'.out]; clear hNa hW1')
    | (with_reducible refine wpList_load_row rfl _ _ rfl w1.heap.size rfl 46 #[.int .u64 (a : Int), .int .u64 (a2 : Int), .int .u64 (a3 : Int)] (0, 0) (.array u3 45) hNb.out hu3.out rfl hi3.out ?_)
    | (go_at_call 23; refine (hck.out W1).mono ?_; rintro e w2 ⟨rfl, hb2⟩; have hb2' := Lib.hid (below_then hBW.out hb2); clear hb2))
  go_ret3
  exact ⟨.slice Option.none 0 0, S, rfl, World.ownsRow_nil _ _ _ _, PStep.same hR.out hb2'.out⟩
set_option maxHeartbeats 32000000 in
set_option maxRecDepth 100000 in
theorem dtake20_n2 {a a2 a3 : Nat} {q1 q2 q3 : Int} (h1 : take X p = (a, q1, 0)) (h2 : take X q1 = (a2, q2, 0)) (h3 : take X q2 = (a3, q3, 0)) (hnw : nw ≤ 1000) (g1 : a ≤ nw) (g2 : nw < a + a2) (h : PTab w b T S) (hX : Holds w A n c X) : Calls Try.prog 10 #[.slice A n c, .int .i64 p, .pointer (some ⟨b, 0, Option.none⟩), .slice Aw nw cw] w (DTook w b S (([], 0, 5), T)) := by
  have hR := Lib.hid h
  have htn := Lib.hid (tnum_ok A n c X p w h1 h2 h3 hX)
  obtain ⟨u3, hu3⟩ := und3
  replace hu3 := Lib.hid hu3
  have hck := Lib.hid (fun W => check_n2 (a := a) (a2 := a2) (a3 := a3) (m := nw) hnw g1 g2 W)
  unfold d3 at hck
  have hwn : IntKind.u64.wrap (nw : Int) = nw := wrap_of (show U64 nw by unfold U64; omega)
  clear h hX h1 h2 h3
  go_enter Try.func10, Try.ntmps10
  go_wp2_with (first
    | (go_at_call 22; refine htn.out.mono ?_; rintro e0 w1 ⟨rfl, hb1⟩; have hb1' := Lib.hid hb1; clear hb1; dsimp only [d3]; obtain ⟨W1, hW1⟩ : ∃ W1, W1 = (w1.alloc (.cells #[.int .u64 0, .int .u64 0, .int .u64 0] 46)).setRow w1.heap.size #[.int .u64 (a : Int), .int .u64 (a2 : Int), .int .u64 (a3 : Int)] := ⟨_, rfl⟩; have hNa := Lib.hid (heap_alloc_new w1 (.cells #[.int .u64 0, .int .u64 0, .int .u64 0] 46)); have hi3 := Lib.hid (show (Try.prog.info? 46).map (·.size) = some (#[.int .u64 (a : Int), .int .u64 (a2 : Int), .int .u64 (a3 : Int)] : Array Value).size from info3); have hone := Lib.hid (one3 a a2 a3); have hN1 := Lib.hid (show N3 W1 w1.heap.size a a2 a3 by rw [hW1]; exact setRow_heap _ _ _ _ _ _ hNa.out); have hBW := Lib.hid (show Below w.heap.size w W1 by rw [hW1]; exact below_setRow (below_then hb1'.out (below_box w1 _)) hb1'.out.size _); have hsz1 := Lib.hid hb1'.out.size; have hNb := Lib.hid (show W1.heap[w1.heap.size]? = some (.cells #[.int .u64 (a : Int), .int .u64 (a2 : Int), .int .u64 (a3 : Int)] 46 (0, 0)) from hN1.out); have hW1' := Lib.hid hW1; clear hW1)
    | (with_reducible refine wpList_store_row rfl _ _ _ rfl w1.heap.size #[.int .u64 (a : Int), .int .u64 (a2 : Int), .int .u64 (a3 : Int)] rfl rfl 46 #[.int .u64 0, .int .u64 0, .int .u64 0] hNa.out hi3.out (Eq.refl _) hone.out ?_; rw [← hW1'.out]; clear hNa hW1')
    | (with_reducible refine wpList_load_row rfl _ _ rfl w1.heap.size rfl 46 #[.int .u64 (a : Int), .int .u64 (a2 : Int), .int .u64 (a3 : Int)] (0, 0) (.array u3 45) hNb.out hu3.out rfl hi3.out ?_)
    | (go_at_call 23; refine (hck.out W1).mono ?_; rintro e w2 ⟨rfl, hb2⟩; have hb2' := Lib.hid (below_then hBW.out hb2); clear hb2))
  go_ret3
  exact ⟨.slice Option.none 0 0, S, rfl, World.ownsRow_nil _ _ _ _, PStep.same hR.out hb2'.out⟩
set_option maxHeartbeats 32000000 in
set_option maxRecDepth 100000 in
theorem dtake20_o1 {a a2 a3 : Nat} {q1 q2 q3 : Int} (h1 : take X p = (a, q1, 0)) (h2 : take X q1 = (a2, q2, 0)) (h3 : take X q2 = (a3, q3, 0)) (hnw : nw ≤ 1000) (g1 : a + a2 ≤ nw) (g2 : 25 < a + a2) (h : PTab w b T S) (hX : Holds w A n c X) : Calls Try.prog 10 #[.slice A n c, .int .i64 p, .pointer (some ⟨b, 0, Option.none⟩), .slice Aw nw cw] w (DTook w b S (([], 0, 2), T)) := by
  have hR := Lib.hid h
  have htn := Lib.hid (tnum_ok A n c X p w h1 h2 h3 hX)
  obtain ⟨u3, hu3⟩ := und3
  replace hu3 := Lib.hid hu3
  have hck := Lib.hid (fun W => check_o1 (a := a) (a2 := a2) (a3 := a3) (m := nw) hnw g1 g2 W)
  unfold d3 at hck
  have hwn : IntKind.u64.wrap (nw : Int) = nw := wrap_of (show U64 nw by unfold U64; omega)
  clear h hX h1 h2 h3
  go_enter Try.func10, Try.ntmps10
  go_wp2_with (first
    | (go_at_call 22; refine htn.out.mono ?_; rintro e0 w1 ⟨rfl, hb1⟩; have hb1' := Lib.hid hb1; clear hb1; dsimp only [d3]; obtain ⟨W1, hW1⟩ : ∃ W1, W1 = (w1.alloc (.cells #[.int .u64 0, .int .u64 0, .int .u64 0] 46)).setRow w1.heap.size #[.int .u64 (a : Int), .int .u64 (a2 : Int), .int .u64 (a3 : Int)] := ⟨_, rfl⟩; have hNa := Lib.hid (heap_alloc_new w1 (.cells #[.int .u64 0, .int .u64 0, .int .u64 0] 46)); have hi3 := Lib.hid (show (Try.prog.info? 46).map (·.size) = some (#[.int .u64 (a : Int), .int .u64 (a2 : Int), .int .u64 (a3 : Int)] : Array Value).size from info3); have hone := Lib.hid (one3 a a2 a3); have hN1 := Lib.hid (show N3 W1 w1.heap.size a a2 a3 by rw [hW1]; exact setRow_heap _ _ _ _ _ _ hNa.out); have hBW := Lib.hid (show Below w.heap.size w W1 by rw [hW1]; exact below_setRow (below_then hb1'.out (below_box w1 _)) hb1'.out.size _); have hsz1 := Lib.hid hb1'.out.size; have hNb := Lib.hid (show W1.heap[w1.heap.size]? = some (.cells #[.int .u64 (a : Int), .int .u64 (a2 : Int), .int .u64 (a3 : Int)] 46 (0, 0)) from hN1.out); have hW1' := Lib.hid hW1; clear hW1)
    | (with_reducible refine wpList_store_row rfl _ _ _ rfl w1.heap.size #[.int .u64 (a : Int), .int .u64 (a2 : Int), .int .u64 (a3 : Int)] rfl rfl 46 #[.int .u64 0, .int .u64 0, .int .u64 0] hNa.out hi3.out (Eq.refl _) hone.out ?_; rw [← hW1'.out]; clear hNa hW1')
    | (with_reducible refine wpList_load_row rfl _ _ rfl w1.heap.size rfl 46 #[.int .u64 (a : Int), .int .u64 (a2 : Int), .int .u64 (a3 : Int)] (0, 0) (.array u3 45) hNb.out hu3.out rfl hi3.out ?_)
    | (go_at_call 23; refine (hck.out W1).mono ?_; rintro e w2 ⟨rfl, hb2⟩; have hb2' := Lib.hid (below_then hBW.out hb2); clear hb2))
  go_ret3
  exact ⟨.slice Option.none 0 0, S, rfl, World.ownsRow_nil _ _ _ _, PStep.same hR.out hb2'.out⟩
set_option maxHeartbeats 32000000 in
set_option maxRecDepth 100000 in
theorem dtake20_o2 {a a2 a3 : Nat} {q1 q2 q3 : Int} (h1 : take X p = (a, q1, 0)) (h2 : take X q1 = (a2, q2, 0)) (h3 : take X q2 = (a3, q3, 0)) (hnw : nw ≤ 1000) (g1 : a + a2 ≤ nw) (g2 : a + a2 ≤ 25) (g3 : 25 < a + a2 + a3) (h : PTab w b T S) (hX : Holds w A n c X) : Calls Try.prog 10 #[.slice A n c, .int .i64 p, .pointer (some ⟨b, 0, Option.none⟩), .slice Aw nw cw] w (DTook w b S (([], 0, 2), T)) := by
  have hR := Lib.hid h
  have htn := Lib.hid (tnum_ok A n c X p w h1 h2 h3 hX)
  obtain ⟨u3, hu3⟩ := und3
  replace hu3 := Lib.hid hu3
  have hck := Lib.hid (fun W => check_o2 (a := a) (a2 := a2) (a3 := a3) (m := nw) hnw g1 g2 g3 W)
  unfold d3 at hck
  have hwn : IntKind.u64.wrap (nw : Int) = nw := wrap_of (show U64 nw by unfold U64; omega)
  clear h hX h1 h2 h3
  go_enter Try.func10, Try.ntmps10
  go_wp2_with (first
    | (go_at_call 22; refine htn.out.mono ?_; rintro e0 w1 ⟨rfl, hb1⟩; have hb1' := Lib.hid hb1; clear hb1; dsimp only [d3]; obtain ⟨W1, hW1⟩ : ∃ W1, W1 = (w1.alloc (.cells #[.int .u64 0, .int .u64 0, .int .u64 0] 46)).setRow w1.heap.size #[.int .u64 (a : Int), .int .u64 (a2 : Int), .int .u64 (a3 : Int)] := ⟨_, rfl⟩; have hNa := Lib.hid (heap_alloc_new w1 (.cells #[.int .u64 0, .int .u64 0, .int .u64 0] 46)); have hi3 := Lib.hid (show (Try.prog.info? 46).map (·.size) = some (#[.int .u64 (a : Int), .int .u64 (a2 : Int), .int .u64 (a3 : Int)] : Array Value).size from info3); have hone := Lib.hid (one3 a a2 a3); have hN1 := Lib.hid (show N3 W1 w1.heap.size a a2 a3 by rw [hW1]; exact setRow_heap _ _ _ _ _ _ hNa.out); have hBW := Lib.hid (show Below w.heap.size w W1 by rw [hW1]; exact below_setRow (below_then hb1'.out (below_box w1 _)) hb1'.out.size _); have hsz1 := Lib.hid hb1'.out.size; have hNb := Lib.hid (show W1.heap[w1.heap.size]? = some (.cells #[.int .u64 (a : Int), .int .u64 (a2 : Int), .int .u64 (a3 : Int)] 46 (0, 0)) from hN1.out); have hW1' := Lib.hid hW1; clear hW1)
    | (with_reducible refine wpList_store_row rfl _ _ _ rfl w1.heap.size #[.int .u64 (a : Int), .int .u64 (a2 : Int), .int .u64 (a3 : Int)] rfl rfl 46 #[.int .u64 0, .int .u64 0, .int .u64 0] hNa.out hi3.out (Eq.refl _) hone.out ?_; rw [← hW1'.out]; clear hNa hW1')
    | (with_reducible refine wpList_load_row rfl _ _ rfl w1.heap.size rfl 46 #[.int .u64 (a : Int), .int .u64 (a2 : Int), .int .u64 (a3 : Int)] (0, 0) (.array u3 45) hNb.out hu3.out rfl hi3.out ?_)
    | (go_at_call 23; refine (hck.out W1).mono ?_; rintro e w2 ⟨rfl, hb2⟩; have hb2' := Lib.hid (below_then hBW.out hb2); clear hb2))
  go_ret3
  exact ⟨.slice Option.none 0 0, S, rfl, World.ownsRow_nil _ _ _ _, PStep.same hR.out hb2'.out⟩
end
end Go.Proofs.Ytkjnpdnihfohoaa
