/-
  What memo asks of single entries: is one live, what is its key, does it let another. No condition.
-/
import Derived.Test.YthojnhdnflakiaaMemoRM
namespace Go.Proofs.Ythojnhdnflakiaa
open Go.RowKit Go.Lib Go.Shelf

/-- Block g begins with the six cells of x. -/
def Six (W : World) (g : Nat) (x : Ent) : Prop := W.cell? ⟨g, 0, Option.none⟩ = some (.string x.fr) ∧ W.cell? ⟨g, 1, Option.none⟩ = some (.string x.at_) ∧ W.cell? ⟨g, 2, Option.none⟩ = some (.bool x.cred) ∧ W.cell? ⟨g, 3, Option.none⟩ = some (.string x.me) ∧ W.cell? ⟨g, 4, Option.none⟩ = some (.string x.he) ∧ W.cell? ⟨g, 5, Option.none⟩ = some (.int .i64 x.til)
theorem Six.later {W W' : World} {g : Nat} {x : Ent} (h : Six W g x) (hb : Below W.heap.size W W') : Six W' g x :=
  ⟨cell_later hb h.1, cell_later hb h.2.1, cell_later hb h.2.2.1, cell_later hb h.2.2.2.1, cell_later hb h.2.2.2.2.1, cell_later hb h.2.2.2.2.2⟩
theorem six_new (w : World) (x : Ent) (t : TypeId) : Six (w.alloc (.cells (ecell x).toArray t)) w.heap.size x := box_six w x t
theorem six_old (w : World) (x : Ent) (t : TypeId) (o : Obj) : Six ((w.alloc (.cells (ecell x).toArray t)).alloc o) w.heap.size x := (six_new w x t).later (below_box _ o)
theorem six_two (w : World) (x : Ent) (t : TypeId) (o : Obj) : Six ((w.alloc o).alloc (.cells (ecell x).toArray t)) (w.heap.size + 1) x := by
  have := six_new (w.alloc o) x t
  simpa using this
/-- Memory that has grown, by boxes alone. -/
theorem below_box2 (w : World) (o o' : Obj) : Below w.heap.size w ((w.alloc o).alloc o') := below_then (below_box w o) (below_box _ o')

set_option maxHeartbeats 8000000 in
set_option maxRecDepth 100000 in
theorem live_any (y : Ent) (now : Int) (w : World) : Calls Try.prog 21 #[evalue y, .int .i64 now] w fun e w' => e = .returned (.bool (decide (now < y.til))) ∧ Below w.heap.size w w' := by
  obtain ⟨y1, y2, y3, y4, y5, y6⟩ := y
  unfold evalue
  simp only
  by_cases h : now < y6
  · go_enter Try.func21, Try.ntmps21
    go_wp2
    go_ret
    exact ⟨ret_bool (by simp [h]), below_box _ _⟩
  · go_enter Try.func21, Try.ntmps21
    go_wp2
    go_ret
    exact ⟨ret_bool (by simp [h]), below_box _ _⟩

set_option maxHeartbeats 8000000 in
set_option maxRecDepth 100000 in
theorem isAny_any (y : Ent) (s : ByteArray) (w : World) : Calls Try.prog 35 #[evalue y, .string s] w fun e w' => e = .returned (.bool (!y.cred && (s.toList == [42]))) ∧ Below w.heap.size w w' := by
  obtain ⟨y1, y2, y3, y4, y5, y6⟩ := y
  unfold evalue
  simp only
  cases y3 with
  | true =>
    go_enter Try.func35, Try.ntmps35
    go_wp2
    go_ret
    exact ⟨ret_bool (by simp), below_box _ _⟩
  | false =>
    rcases Bool.eq_false_or_eq_true (s.toList == [42]) with q | q
    · go_enter Try.func35, Try.ntmps35
      go_wp2
      go_ret
      exact ⟨ret_bool (by simp [q]), below_box _ _⟩
    · go_enter Try.func35, Try.ntmps35
      go_wp2
      go_ret
      exact ⟨ret_bool (by simp [q]), below_box _ _⟩

set_option maxHeartbeats 8000000 in
set_option maxRecDepth 100000 in
theorem allowsM_any (y : Ent) (s : ByteArray) (w : World) : Calls Try.prog 31 #[evalue y, .string s] w fun e w' => e = .returned (.bool (fits y y.me s true)) ∧ Below w.heap.size w w' := by
  have hany := Lib.hid (fun W => isAny_any y y.me W)
  obtain ⟨y1, y2, y3, y4, y5, y6⟩ := y
  unfold evalue at hany ⊢
  unfold fits
  simp only at hany ⊢
  rcases Bool.eq_false_or_eq_true (y4.toList == s.toList) with q1 | q1
  · go_enter Try.func31, Try.ntmps31
    go_wp2
    go_ret
    exact ⟨ret_bool (by simp [q1]), below_box _ _⟩
  generalize hr : (!y3 && (y4.toList == [42])) = r at hany
  have hr' := Lib.hid hr
  clear hr
  have hfin := Lib.hid (below_box w (.cells #[.string y1, .string y2, .bool y3, .string y4, .string y5, .int .i64 y6] 32))
  have e0 : ∀ z : Bool, (!y3 && ((y4.toList == [42]) && z)) = (r && z) := fun z => by rw [← Bool.and_assoc, hr'.out]
  have e0' := Lib.hid e0
  clear e0
  cases r with
  | false =>
    go_enter Try.func31, Try.ntmps31
    go_wp2_with (go_at_call 35; (with_reducible refine (hany.out _).mono ?_); rintro e1 w1 ⟨rfl, hb1⟩)
    go_ret
    exact ⟨ret_bool (by rw [q1, e0'.out]; simp), below_then hfin.out hb1⟩
  | true =>
    rcases Bool.eq_false_or_eq_true (s.toList == []) with q2 | q2
    · go_enter Try.func31, Try.ntmps31
      go_wp2_with (go_at_call 35; (with_reducible refine (hany.out _).mono ?_); rintro e1 w1 ⟨rfl, hb1⟩)
      go_ret
      exact ⟨ret_bool (by rw [q1, e0'.out]; simp [q2]), below_then hfin.out hb1⟩
    · go_enter Try.func31, Try.ntmps31
      go_wp2_with (go_at_call 35; (with_reducible refine (hany.out _).mono ?_); rintro e1 w1 ⟨rfl, hb1⟩)
      go_ret
      exact ⟨ret_bool (by rw [q1, e0'.out]; simp [q2]), below_then hfin.out hb1⟩

set_option maxHeartbeats 8000000 in
set_option maxRecDepth 100000 in
theorem allowsH_any (y : Ent) (s : ByteArray) (w : World) : Calls Try.prog 32 #[evalue y, .string s] w fun e w' => e = .returned (.bool (fits y y.he s (!(s.toList == [97, 117, 116, 104, 111, 114, 105, 122, 97, 116, 105, 111, 110])))) ∧ Below w.heap.size w w' := by
  have hany := Lib.hid (fun W => isAny_any y y.he W)
  obtain ⟨y1, y2, y3, y4, y5, y6⟩ := y
  unfold evalue at hany ⊢
  unfold fits
  simp only at hany ⊢
  rcases Bool.eq_false_or_eq_true (y5.toList == s.toList) with q1 | q1
  · go_enter Try.func32, Try.ntmps32
    go_wp2
    go_ret
    exact ⟨ret_bool (by simp [q1]), below_box _ _⟩
  generalize hr : (!y3 && (y5.toList == [42])) = r at hany
  have hr' := Lib.hid hr
  clear hr
  have hfin := Lib.hid (below_box w (.cells #[.string y1, .string y2, .bool y3, .string y4, .string y5, .int .i64 y6] 32))
  have e0 : ∀ z : Bool, (!y3 && ((y5.toList == [42]) && z)) = (r && z) := fun z => by rw [← Bool.and_assoc, hr'.out]
  have e0' := Lib.hid e0
  clear e0
  cases r with
  | false =>
    go_enter Try.func32, Try.ntmps32
    go_wp2_with (go_at_call 35; (with_reducible refine (hany.out _).mono ?_); rintro e1 w1 ⟨rfl, hb1⟩)
    go_ret
    exact ⟨ret_bool (by rw [q1, e0'.out]; simp), below_then hfin.out hb1⟩
  | true =>
    rcases Bool.eq_false_or_eq_true (s.toList == []) with q2 | q2
    · go_enter Try.func32, Try.ntmps32
      go_wp2_with (go_at_call 35; (with_reducible refine (hany.out _).mono ?_); rintro e1 w1 ⟨rfl, hb1⟩)
      go_ret
      exact ⟨ret_bool (by rw [q1, e0'.out]; simp [q2]), below_then hfin.out hb1⟩
    rcases Bool.eq_false_or_eq_true (s.toList == [97, 117, 116, 104, 111, 114, 105, 122, 97, 116, 105, 111, 110]) with q3 | q3
    · go_enter Try.func32, Try.ntmps32
      go_wp2_with (go_at_call 35; (with_reducible refine (hany.out _).mono ?_); rintro e1 w1 ⟨rfl, hb1⟩)
      go_ret
      exact ⟨ret_bool (by rw [q1, e0'.out]; simp [q2, q3]), below_then hfin.out hb1⟩
    · go_enter Try.func32, Try.ntmps32
      go_wp2_with (go_at_call 35; (with_reducible refine (hany.out _).mono ?_); rintro e1 w1 ⟨rfl, hb1⟩)
      go_ret
      exact ⟨ret_bool (by rw [q1, e0'.out]; simp [q2, q3]), below_then hfin.out hb1⟩

set_option maxHeartbeats 8000000 in
set_option maxRecDepth 100000 in
theorem allows_any (y x : Ent) (w : World) : Calls Try.prog 22 #[evalue y, evalue x] w fun e w' =>
    e = .returned (.bool ((y.fr.toList == x.fr.toList) && ((y.at_.toList == x.at_.toList) && ((!x.cred || y.cred) && (fits y y.me x.me true && fits y y.he x.he (!(x.he.toList == [97, 117, 116, 104, 111, 114, 105, 122, 97, 116, 105, 111, 110]))))))) ∧ Below w.heap.size w w' := by
  have hm := Lib.hid (fun W => allowsM_any y x.me W)
  have hh := Lib.hid (fun W => allowsH_any y x.he W)
  have hz := Lib.hid (six_old w y 32 (.cells (ecell x).toArray 32))
  have hk := Lib.hid (six_two w x 32 (.cells (ecell y).toArray 32))
  generalize fits y y.me x.me true = r1 at hm ⊢
  generalize fits y y.he x.he (!(x.he.toList == [97, 117, 116, 104, 111, 114, 105, 122, 97, 116, 105, 111, 110])) = r2 at hh ⊢
  obtain ⟨y1, y2, y3, y4, y5, y6⟩ := y
  obtain ⟨x1, x2, x3, x4, x5, x6⟩ := x
  unfold evalue at hm hh ⊢
  simp only at hm hh ⊢
  rcases Bool.eq_false_or_eq_true (y1.toList == x1.toList) with q1 | q1
  rotate_left
  · go_enter Try.func22, Try.ntmps22
    go_wp2
    go_ret
    exact ⟨ret_bool (by simp [q1]), below_box2 _ _ _⟩
  rcases Bool.eq_false_or_eq_true (y2.toList == x2.toList) with q2 | q2
  rotate_left
  · go_enter Try.func22, Try.ntmps22
    go_wp2
    go_ret
    exact ⟨ret_bool (by simp [q1, q2]), below_box2 _ _ _⟩
  cases y3 with
  | true =>
    cases r1 with
    | false =>
      go_enter Try.func22, Try.ntmps22
      go_wp2_with (go_at_call 31; (with_reducible refine (hm.out _).mono ?_); rintro e1 w1 ⟨rfl, hb1⟩; obtain ⟨z1, z2, z3, z4, z5, z6⟩ := hz.out.later hb1; obtain ⟨k1, k2, k3, k4, k5, k6⟩ := hk.out.later hb1; simp only at z1 z2 z3 z4 z5 z6 k1 k2 k3 k4 k5 k6)
      go_ret
      exact ⟨ret_bool (by simp [q1, q2]), below_then (below_box2 _ _ _) hb1⟩
    | true =>
      go_enter Try.func22, Try.ntmps22
      go_wp2_with (first
          | (go_at_call 31; (with_reducible refine (hm.out _).mono ?_); rintro e1 w1 ⟨rfl, hb1⟩; obtain ⟨z1, z2, z3, z4, z5, z6⟩ := hz.out.later hb1; obtain ⟨k1, k2, k3, k4, k5, k6⟩ := hk.out.later hb1; simp only at z1 z2 z3 z4 z5 z6 k1 k2 k3 k4 k5 k6)
          | (go_at_call 32; (with_reducible refine (hh.out _).mono ?_); rintro e2 w2 ⟨rfl, hb2⟩))
      go_ret
      exact ⟨ret_bool (by simp [q1, q2]), below_then (below_then (below_box2 _ _ _) hb1) hb2⟩
  | false =>
    cases x3 with
    | true =>
      go_enter Try.func22, Try.ntmps22
      go_wp2
      go_ret
      exact ⟨ret_bool (by simp [q1, q2]), below_box2 _ _ _⟩
    | false =>
      cases r1 with
      | false =>
        go_enter Try.func22, Try.ntmps22
        go_wp2_with (go_at_call 31; (with_reducible refine (hm.out _).mono ?_); rintro e1 w1 ⟨rfl, hb1⟩; obtain ⟨z1, z2, z3, z4, z5, z6⟩ := hz.out.later hb1; obtain ⟨k1, k2, k3, k4, k5, k6⟩ := hk.out.later hb1; simp only at z1 z2 z3 z4 z5 z6 k1 k2 k3 k4 k5 k6)
        go_ret
        exact ⟨ret_bool (by simp [q1, q2]), below_then (below_box2 _ _ _) hb1⟩
      | true =>
        go_enter Try.func22, Try.ntmps22
        go_wp2_with (first
            | (go_at_call 31; (with_reducible refine (hm.out _).mono ?_); rintro e1 w1 ⟨rfl, hb1⟩; obtain ⟨z1, z2, z3, z4, z5, z6⟩ := hz.out.later hb1; obtain ⟨k1, k2, k3, k4, k5, k6⟩ := hk.out.later hb1; simp only at z1 z2 z3 z4 z5 z6 k1 k2 k3 k4 k5 k6)
            | (go_at_call 32; (with_reducible refine (hh.out _).mono ?_); rintro e2 w2 ⟨rfl, hb2⟩))
        go_ret
        exact ⟨ret_bool (by simp [q1, q2]), below_then (below_then (below_box2 _ _ _) hb1) hb2⟩

set_option maxHeartbeats 8000000 in
set_option maxRecDepth 100000 in
theorem key_result {tmps : Array Value} {w : World} {g : Nat} {x : Ent} (hp : tmps.getD 2 undef = .pointer (some ⟨g, 0, Option.none⟩)) (h : Six w g x) :
    (results Try.f34 tmps).run Try.prog w = .ok (evalue x) w := by
  obtain ⟨h0, h1, h2, h3, h4, h5⟩ := h
  have hr : Try.f34.results = #[.cell 2 32] := rfl
  obtain ⟨x1, x2, x3, x4, x5, x6⟩ := x
  simp only at h0 h1 h2 h3 h4 h5
  unfold evalue
  rw [Array.getD_eq_getD_getElem?] at hp
  simp only [results, hr]
  simp [go_sem, hp, h0, h1, h2, h3, h4, h5]

set_option maxHeartbeats 8000000 in
set_option maxRecDepth 100000 in
theorem key_any (x : Ent) (w : World) : Calls Try.prog 34 #[evalue x] w fun e w' => e = .returned (evalue { x with til := 0 }) ∧ Below w.heap.size w w' := by
  obtain ⟨x1, x2, x3, x4, x5, x6⟩ := x
  unfold evalue
  simp only
  go_enter Try.func34, Try.ntmps34
  go_wp2
  exact bodyPost_ret (key_result rfl (six_two w ⟨x1, x2, x3, x4, x5, 0⟩ _ _)) rfl ⟨rfl, below_box2 _ _ _⟩
end Go.Proofs.Ythojnhdnflakiaa
