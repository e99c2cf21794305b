/-
  head.Set as the program has it. Conditions: those that each theorem states.
-/
import Derived.Test.YtklbikafkdjgpaaDoorHeadCat
import Derived.WalkSmall
namespace Go.Proofs.YtklbikafkdjgpaaDoor
open Go.RowKit Go.Lib Go.Shelf

section
variable {P : Program} {ops : Array Oper} {Q : Exit → Act → World → Prop} {i : Nat} {o : Oper} {a : Act} {w : World} {K : Act → World → Prop}
theorem wpOp_field (ho : ops[i]? = some o) (hw : Region.wanted o (yielded ops a.tmps) = true) (t : TypeId) (x : Operand) (k : Nat) (hop : o.op = .fieldAddr t x k) (u v : Value) (hx : a.eval x = u) (hr : (Instr.fieldAt t u k).run P w = .ok v w) (hK : K (a.put o.dst v) w) : wpOp P ops Q i K a w :=
  wpOp_value ho hw (v := v) (w' := w) (by simp only [execOp, hop, hx, Sem.run_bind, hr]; rfl) hK
end

theorem run_frontH (w : World) (A : Option Addr) (n c k : Nat) (h : k ≤ n) (hc : n ≤ c) : (Instr.sliceAt 22 (.slice A n c) Option.none (some (.int .i64 (k : Int))) Option.none).run Tryd.prog w = .ok (.slice A k c) w := by
  have f3 : (0 : Int) ≤ (k : Int) := by omega
  have f5 : (k : Int) ≤ (c : Int) := by omega
  go_simp
theorem run_backH (w : World) (A : Option Addr) (n c k : Nat) (h : k ≤ n) (hc : n ≤ c) : (Instr.sliceAt 22 (.slice A n c) (some (.int .i64 (k : Int))) Option.none Option.none).run Tryd.prog w = .ok (.slice (if c = k then A else A.map (·.add (k * 2))) (n - k) (c - k)) w := by
  have f3 : (0 : Int) ≤ (k : Int) := by omega
  have f4 : (k : Int) ≤ (n : Int) := by omega
  have f5 : (n : Int) ≤ (c : Int) := by omega
  go_simp
theorem run_loadH (w : World) (g o : Nat) (x y : ByteArray) (h1 : w.cell? ⟨g, o, Option.none⟩ = some (.string x)) (h2 : w.cell? ⟨g, o + 1, Option.none⟩ = some (.string y)) : (Instr.loadAt 29 (.pointer (some ⟨g, o, Option.none⟩))).run Tryd.prog w = .ok (.agg #[.string x, .string y]) w := by go_simp
theorem run_load9 (w : World) (g k : Nat) (x : ByteArray) (h : w.cell? ⟨g, k, Option.none⟩ = some (.string x)) : (Instr.loadAt 9 (.pointer (some ⟨g, k, Option.none⟩))).run Tryd.prog w = .ok (.string x) w := by go_simp
theorem run_field0 (w : World) (g o : Nat) : (Instr.fieldAt 29 (.pointer (some ⟨g, o, Option.none⟩)) 0).run Tryd.prog w = .ok (.pointer (some ⟨g, o, Option.none⟩)) w := by go_simp
theorem run_field1 (w : World) (g o : Nat) : (Instr.fieldAt 29 (.pointer (some ⟨g, o, Option.none⟩)) 1).run Tryd.prog w = .ok (.pointer (some ⟨g, o + 1, Option.none⟩)) w := by go_simp
theorem run_buildH (w : World) (x y : ByteArray) : (Instr.buildSlice 22 1 #[(0, .agg #[.string x, .string y])]).run Tryd.prog w = .ok (.slice (some ⟨w.heap.size, 0, Option.none⟩) 1 1) (w.alloc (.cells #[.string x, .string y] 29)) := by go_simp
theorem run_build9 (w : World) (x : ByteArray) : (Instr.buildSlice 30 1 #[(0, .string x)]).run Tryd.prog w = .ok (.slice (some ⟨w.heap.size, 0, Option.none⟩) 1 1) (w.alloc (.cells #[.string x] 9)) := by go_simp
theorem enters_drop (vs : Array Value) (w : World) : (callFunc 19 vs).run Tryd.prog w = .ok (.enter 19 vs) w := by kernel_rfl
theorem enters_concat (vs : Array Value) (w : World) : (callFunc 30 vs).run Tryd.prog w = .ok (.enter 30 vs) w := by kernel_rfl

/-- A slice value. -/
def Flat (v : Value) : Prop := ∃ A n c, v = .slice A n c
theorem HH.flat {l : List Hd} {v : Value} {w : World} (h : HH l v w) : Flat v := by
  obtain ⟨A, n, c, e, _⟩ := h
  exact ⟨A, n, c, e⟩
theorem run_build3 (w : World) (v1 v2 v3 : Value) (h1 : Flat v1) (h2 : Flat v2) (h3 : Flat v3) : (Instr.buildSlice 59 3 #[(0, v1), (1, v2), (2, v3)]).run Tryd.prog w = .ok (.slice (some ⟨w.heap.size, 0, Option.none⟩) 3 3) (w.alloc (.cells #[v1, v2, v3] 22)) := by
  obtain ⟨A1, n1, c1, rfl⟩ := h1
  obtain ⟨A2, n2, c2, rfl⟩ := h2
  obtain ⟨A3, n3, c3, rfl⟩ := h3
  go_simp

theorem Hds.backAny {w : World} {A : Option Addr} {n c : Nat} {l : List Hd} (h : Hds w A n c l) {k : Nat} (hk : k ≤ n) : Hds w (if c = k then A else A.map (·.add (k * 2))) (n - k) (c - k) (l.drop k) := by
  have hcap := h.cap
  by_cases hp : 0 < n - k
  · obtain ⟨b, off, e, _, _⟩ := h.cell (by omega)
    subst e
    rw [if_neg (by omega)]
    have := h.back hk
    simpa [addr_add] using this
  · refine ⟨by rw [List.length_drop, h.len], by omega, by have := h.room; omega, fun e => ?_, fun hq => absurd hq hp⟩
    by_cases hc : c = k
    · omega
    · rw [if_neg hc] at e
      have : A = Option.none := by cases A with | none => rfl | some a => cases e
      have := h.bare this
      omega
/-- A new block of headers. -/
theorem hds_new (w : World) (cs : Array Value) (l : List Hd) (hcs : cs = (hcells l).toArray) (hm : l.length ≤ maxLen) : Hds (w.alloc (.cells cs 29)) (some ⟨w.heap.size, 0, Option.none⟩) l.length l.length l :=
  ⟨rfl, Nat.le_refl _, hm, (fun e => by cases e), fun _ => ⟨w.heap.size, 0, rfl, by simp, fun j hj => by
    rw [cell_of_row (w.alloc (.cells cs 29)) w.heap.size (0 + j) cs 29 (0, 0) (heap_alloc_new w _), hcs]
    simp⟩⟩
theorem Short.drop {B : Nat} {l : List Hd} (h : Short B l) (k : Nat) : Short B (l.drop k) := fun x hx => h x (List.mem_of_mem_drop hx)

/-- A slice of three slices of headers. -/
def T3 (l1 l2 l3 : List Hd) (v : Value) (w : World) : Prop := ∃ g v1 v2 v3, v = .slice (some ⟨g, 0, Option.none⟩) 3 3 ∧ Three w g v1 v2 v3 l1 l2 l3
theorem T3.keeps {l1 l2 l3 : List Hd} {v : Value} {w w' : World} (h : T3 l1 l2 l3 v w) (hk : Keeps w w') : T3 l1 l2 l3 v w' := by
  obtain ⟨g, v1, v2, v3, e, t⟩ := h
  exact ⟨g, v1, v2, v3, e, hk.cell _ _ t.c1, hk.cell _ _ t.c2, hk.cell _ _ t.c3, t.h1.keeps hk, t.h2.keeps hk, t.h3.keeps hk⟩
theorem three_new (w : World) (v1 v2 v3 : Value) (l1 l2 l3 : List Hd) (h1 : HH l1 v1 w) (h2 : HH l2 v2 w) (h3 : HH l3 v3 w) : T3 l1 l2 l3 (.slice (some ⟨w.heap.size, 0, Option.none⟩) 3 3) (w.alloc (.cells #[v1, v2, v3] 22)) := by
  have hk : Keeps w (w.alloc (.cells #[v1, v2, v3] 22)) := below_keeps (below_box w _)
  have hc := fun j => cell_of_row (w.alloc (.cells #[v1, v2, v3] 22)) w.heap.size j #[v1, v2, v3] 22 (0, 0) (heap_alloc_new w _)
  exact ⟨w.heap.size, v1, v2, v3, rfl, by rw [hc]; rfl, by rw [hc]; rfl, by rw [hc]; rfl, h1.keeps hk, h2.keeps hk, h3.keeps hk⟩

/-- What the slots of the last statement of Set hold. -/
def hsF (A : Option Addr) (n c p : Nat) (x y : ByteArray) (l : List Hd) (g : Nat) (j : Nat) (v : Value) (w : World) : Prop :=
  match j with
  | 0 => v = .slice A n c
  | 1 => v = .int .i64 (p : Int)
  | 2 => HH (l.take p) v w
  | 3 => v = .agg #[.string x, .string y]
  | 4 => HH [(x, y)] v w
  | 5 => v = .slice A n c
  | 6 => v = .int .i64 (p : Int)
  | 7 => HH (l.drop p) v w
  | 8 => v = .pointer (some ⟨g, 0, Option.none⟩)
  | 9 => v = .string x
  | 10 => SS [x] v w
  | 11 => HH (without [x] (l.drop p)) v w
  | 12 => T3 (l.take p) [(x, y)] (without [x] (l.drop p)) v w
  | 13 => HH (setOf l (x, y)) v w
  | 14 => HH (setOf l (x, y)) v w
  | _ => True
theorem hsF_later {A : Option Addr} {n c p : Nat} {x y : ByteArray} {l : List Hd} {g : Nat} : Outlives (hsF A n c p x y l g) := by
  intro j v w w' h hk
  unfold hsF at h ⊢
  split at h
  all_goals first | exact h.keeps hk | exact h

set_option maxHeartbeats 4000000 in
set_option maxRecDepth 100000 in
theorem set_any (A : Option Addr) (n c : Nat) (l : List Hd) (x y : ByteArray) (w : World) (h : Hds w A n c l) (hn : n ≤ 900) (hB : Short maxLen l) (hs : x.size ≤ maxLen) :
    Calls Tryd.prog 17 #[.slice A n c, .agg #[.string x, .string y]] w (ReadsH w (setOf l (x, y))) := by
  obtain ⟨p, hp⟩ : ∃ p, p = placeOf x l := ⟨_, rfl⟩
  have hl := Lib.hid h.len
  have hpn : p ≤ n := by rw [hp, ← h.len]; exact place_le _ _
  have hnc := h.cap
  have H := Lib.hid h
  have hB' := Lib.hid hB
  have hs1 : Hid (∀ z ∈ [x], z.size ≤ maxLen) := Lib.hid fun z hz => by simp at hz; subst hz; exact hs
  have hset := Lib.hid (show l.take p ++ [(x, y)] ++ without [x] (l.drop p) = setOf l (x, y) by rw [hp]; unfold setOf; simp)
  have hw3 := Lib.hid (show (without [x] (l.drop p)).length ≤ 1000 by have := without_len [x] (l.drop p); rw [List.length_drop, h.len] at this; omega)
  have hidx := Lib.hid (show idxOf x l = if p < n then (p : Int) else -1 by unfold idxOf; rw [h.len, hp])
  have hmat := Lib.hid (fun W g (hg : g = W.heap.size) => matching_any (some ⟨g, 0, Option.none⟩) 1 1 [x] _ (strs_one W x g hg) (by omega) hs1.out)
  have hind := Lib.hid (fun g W (hb : Below w.heap.size w W) (hL : Lowers W g [x]) => indexFunc_any A n c l x g W (H.out.later hb) hB'.out hL)
  clear h hB hp
  have hlt : Hid (p < n) ∨ Hid (p = n) := by rcases Nat.lt_or_ge p n with h | h; exact .inl (Lib.hid h); exact .inr (Lib.hid (by omega))
  rcases hlt with hlt | hlt
  · have hi : idxOf x l = p := by rw [hidx.out, if_pos hlt.out]
    rw [hi] at hind
    have hp0 : ¬ ((p : Int) < 0) := by omega
    clear hi hidx
    go_enter Tryd.func17, Tryd.ntmps17
    go_wp2_with (first
      | (go_at_call 27; refine (hmat.out (w.alloc (.cells #[.string x, .string y] 29)) (w.heap.size + 1) (by simp)).mono ?_; rintro e w1 ⟨g, rfl, hg, hL, hb1⟩)
      | (go_at_call 29; refine (hind.out g w1 (below_then (below_then (below_box w _) (below_box _ _)) hb1) hL).mono ?_; rintro e w4 ⟨rfl, hb2⟩))
    have hx4 : w4.cell? ⟨w.heap.size, 0, Option.none⟩ = some (.string x) := cell_later hb2 (cell_later hb1 (by simp))
    have hy4 : w4.cell? ⟨w.heap.size, 0 + 1, Option.none⟩ = some (.string y) := cell_later hb2 (cell_later hb1 (by simp))
    have hb4 := Lib.hid (below_then (below_then (below_then (below_box w _) (below_box _ _)) hb1) hb2)
    have H4 := Lib.hid (H.out.later hb4.out)
    clear hb1 hb2 hL hmat hind hg
    have h5 : Hid (Value.int .i64 (p : Int) = .int .i64 (p : Int)) := Lib.hid rfl
    refine wp_region_each (RInv 30 [16, 17, 18, 19, 20, 21, 22, 23, 24, 25, 26, 27, 28, 29, 4] _ (hsF A n c p x y l w.heap.size) w4 NoMore) (by kernel_rfl) (by kernel_rfl) (RInv.start rfl trivial (Below.refl _ _).drew) ?_ ?_
    · intro i hi D a w1 hI hcl hnd hpre
      have hi' : i < 15 := hi
      have hcase : i = 0 ∨ i = 1 ∨ i = 2 ∨ i = 3 ∨ i = 4 ∨ i = 5 ∨ i = 6 ∨ i = 7 ∨ i = 8 ∨ i = 9 ∨ i = 10 ∨ i = 11 ∨ i = 12 ∨ i = 13 ∨ i = 14 := by omega
      have hF := hI.fact
      rcases hcase with rfl | rfl | rfl | rfl | rfl | rfl | rfl | rfl | rfl | rfl | rfl | rfl | rfl | rfl | rfl
      · exact wpOp_move rfl (wanted_free rfl) _ rfl _ (hI.same 0 (by decide)) (hI.add (by decide) hsF_later (by decide) (Below.refl _ _) rfl)
      · exact wpOp_move rfl (wanted_free rfl) _ rfl _ ((hI.same 5 (by decide)).trans h5.out) (hI.add (by decide) hsF_later (by decide) (Below.refl _ _) rfl)
      · exact wpOp_slice rfl (wanted_free rfl) _ _ _ _ _ rfl _ _ Option.none (some (.int .i64 (p : Int))) Option.none (hF 0 (hpre 0 (by kernel_rfl))) rfl (congrArg some (hF 1 (hpre 1 (by kernel_rfl)))) rfl (run_frontH w1 A n c p hpn hnc) (hI.add (by decide) hsF_later (by decide) (Below.refl _ _) ⟨_, _, _, rfl, (H4.out.later hI.below).front hpn⟩)
      · exact wpOp_load rfl (wanted_free rfl) _ _ rfl _ _ (hI.same 3 (by decide)) (run_loadH w1 w.heap.size 0 x y (cell_later hI.below hx4) (cell_later hI.below hy4)) (hI.add (by decide) hsF_later (by decide) (Below.refl _ _) rfl)
      · have h1 : a.eval (.tmp 19) = _ := (hF 3 (hpre 3 (by kernel_rfl)))
        exact wpOp_build rfl (wanted_free rfl) _ _ _ rfl #[(0, .agg #[.string x, .string y])] (by simp [h1]) _ (run_buildH w1 x y) (hI.add (by decide) hsF_later (by decide) ((Below.refl _ _).alloc (Nat.le_refl _) _) ⟨_, _, _, rfl, hds_new w1 _ [(x, y)] rfl (by simp [maxLen])⟩)
      · exact wpOp_move rfl (wanted_free rfl) _ rfl _ (hI.same 0 (by decide)) (hI.add (by decide) hsF_later (by decide) (Below.refl _ _) rfl)
      · exact wpOp_move rfl (wanted_free rfl) _ rfl _ ((hI.same 5 (by decide)).trans h5.out) (hI.add (by decide) hsF_later (by decide) (Below.refl _ _) rfl)
      · exact wpOp_slice rfl (wanted_free rfl) _ _ _ _ _ rfl _ _ (some (.int .i64 (p : Int))) Option.none Option.none (hF 5 (hpre 5 (by kernel_rfl))) (congrArg some (hF 6 (hpre 6 (by kernel_rfl)))) rfl rfl (run_backH w1 A n c p hpn hnc) (hI.add (by decide) hsF_later (by decide) (Below.refl _ _) ⟨_, _, _, rfl, (H4.out.later hI.below).backAny hpn⟩)
      · exact wpOp_field rfl (wanted_free rfl) _ _ _ rfl _ _ (hI.same 3 (by decide)) (run_field0 w1 w.heap.size 0) (hI.add (by decide) hsF_later (by decide) (Below.refl _ _) rfl)
      · exact wpOp_load rfl (wanted_free rfl) _ _ rfl _ _ (hF 8 (hpre 8 (by kernel_rfl))) (run_load9 w1 w.heap.size 0 x (cell_later hI.below hx4)) (hI.add (by decide) hsF_later (by decide) (Below.refl _ _) rfl)
      · have h1 : a.eval (.tmp 25) = _ := (hF 9 (hpre 9 (by kernel_rfl)))
        exact wpOp_build rfl (wanted_free rfl) _ _ _ rfl #[(0, .string x)] (by simp [h1]) _ (run_build9 w1 x) (hI.add (by decide) hsF_later (by decide) ((Below.refl _ _).alloc (Nat.le_refl _) _) ⟨_, _, _, rfl, strs_new w1 _ [x] rfl (by simp [maxLen])⟩)
      · obtain ⟨B1, m1, d1, h1, T1⟩ := (hF 7 (hpre 7 (by kernel_rfl)))
        obtain ⟨B2, m2, d2, h2, T2⟩ := (hF 10 (hpre 10 (by kernel_rfl)))
        have em := T1.len
        rw [List.length_drop, H4.out.len] at em
        have em2 : m2 = 1 := T2.len.symm
        refine wpOp_call2 rfl (wanted_free rfl) 19 _ _ _ rfl _ _ h1 h2 (enters_drop _ _) (drop_any B1 B2 m1 d1 m2 d2 (l.drop p) [x] w1 T1 T2 (by omega) (by omega) (hB'.out.drop p) hs1.out) (fun e w' h => ?_)
        obtain ⟨v, rfl, ho, hb⟩ := h
        exact ⟨_, rfl, hI.add (by decide) hsF_later (by decide) hb ho.hh⟩
      · have q1 := (hF 2 (hpre 2 (by kernel_rfl)))
        have q2 := (hF 4 (hpre 4 (by kernel_rfl)))
        have q3 := (hF 11 (hpre 11 (by kernel_rfl)))
        exact wpOp_build rfl (wanted_free rfl) _ _ _ rfl #[(0, a.eval (.tmp 18)), (1, a.eval (.tmp 20)), (2, a.eval (.tmp 27))] (by simp) _ (run_build3 w1 _ _ _ q1.flat q2.flat q3.flat) (hI.add (by decide) hsF_later (by decide) ((Below.refl _ _).alloc (Nat.le_refl _) _) (three_new w1 _ _ _ _ _ _ q1 q2 q3))
      · obtain ⟨g3, v1, v2, v3, h1, T⟩ := (hF 12 (hpre 12 (by kernel_rfl)))
        refine wpOp_call1 rfl (wanted_free rfl) 30 _ _ rfl _ h1 (enters_concat _ _) (concat_any g3 v1 v2 v3 _ _ _ w1 T (by simp) (by rw [List.length_take]; omega) (by simp) hw3.out) (fun e w' h => ?_)
        obtain ⟨v, rfl, ho, hb⟩ := h
        rw [hset.out] at ho
        exact ⟨_, rfl, hI.add (by decide) hsF_later (by decide) hb ho.hh⟩
      · exact wpOp_assign rfl (wanted_free rfl) _ rfl _ rfl (hI.add (by decide) hsF_later (by decide) (Below.refl _ _) (hF 13 (hpre 13 (by kernel_rfl))))
    · intro D a w1 hI hall
      have fz := hI.fact 14 (hall 14 (by decide))
      have hd := hI.defs
      have hB := hI.below
      clear hall
      go_wp2
      exact bodyPost_ret (results_tmp rfl a.tmps _ _) hd ⟨_, rfl, fz, below_then hb4.out hB⟩
  · have hi : idxOf x l = -1 := by rw [hidx.out, if_neg (by have := hlt.out; omega)]
    rw [hi] at hind
    clear hi hidx
    go_enter Tryd.func17, Tryd.ntmps17
    go_wp2_with (first
      | (go_at_call 27; refine (hmat.out (w.alloc (.cells #[.string x, .string y] 29)) (w.heap.size + 1) (by simp)).mono ?_; rintro e w1 ⟨g, rfl, hg, hL, hb1⟩)
      | (go_at_call 29; refine (hind.out g w1 (below_then (below_then (below_box w _) (below_box _ _)) hb1) hL).mono ?_; rintro e w4 ⟨rfl, hb2⟩))
    have hx4 : w4.cell? ⟨w.heap.size, 0, Option.none⟩ = some (.string x) := cell_later hb2 (cell_later hb1 (by simp))
    have hy4 : w4.cell? ⟨w.heap.size, 0 + 1, Option.none⟩ = some (.string y) := cell_later hb2 (cell_later hb1 (by simp))
    have hb4 := Lib.hid (below_then (below_then (below_then (below_box w _) (below_box _ _)) hb1) hb2)
    have H4 := Lib.hid (H.out.later hb4.out)
    clear hb1 hb2 hL hmat hind hg
    have h5 : Hid (Value.int .i64 (n : Int) = .int .i64 (p : Int)) := Lib.hid (by rw [hlt.out])
    refine wp_region_each (RInv 30 [16, 17, 18, 19, 20, 21, 22, 23, 24, 25, 26, 27, 28, 29, 4] _ (hsF A n c p x y l w.heap.size) w4 NoMore) (by kernel_rfl) (by kernel_rfl) (RInv.start rfl trivial (Below.refl _ _).drew) ?_ ?_
    · intro i hi D a w1 hI hcl hnd hpre
      have hi' : i < 15 := hi
      have hcase : i = 0 ∨ i = 1 ∨ i = 2 ∨ i = 3 ∨ i = 4 ∨ i = 5 ∨ i = 6 ∨ i = 7 ∨ i = 8 ∨ i = 9 ∨ i = 10 ∨ i = 11 ∨ i = 12 ∨ i = 13 ∨ i = 14 := by omega
      have hF := hI.fact
      rcases hcase with rfl | rfl | rfl | rfl | rfl | rfl | rfl | rfl | rfl | rfl | rfl | rfl | rfl | rfl | rfl
      · exact wpOp_move rfl (wanted_free rfl) _ rfl _ (hI.same 0 (by decide)) (hI.add (by decide) hsF_later (by decide) (Below.refl _ _) rfl)
      · exact wpOp_move rfl (wanted_free rfl) _ rfl _ ((hI.same 5 (by decide)).trans h5.out) (hI.add (by decide) hsF_later (by decide) (Below.refl _ _) rfl)
      · exact wpOp_slice rfl (wanted_free rfl) _ _ _ _ _ rfl _ _ Option.none (some (.int .i64 (p : Int))) Option.none (hF 0 (hpre 0 (by kernel_rfl))) rfl (congrArg some (hF 1 (hpre 1 (by kernel_rfl)))) rfl (run_frontH w1 A n c p hpn hnc) (hI.add (by decide) hsF_later (by decide) (Below.refl _ _) ⟨_, _, _, rfl, (H4.out.later hI.below).front hpn⟩)
      · exact wpOp_load rfl (wanted_free rfl) _ _ rfl _ _ (hI.same 3 (by decide)) (run_loadH w1 w.heap.size 0 x y (cell_later hI.below hx4) (cell_later hI.below hy4)) (hI.add (by decide) hsF_later (by decide) (Below.refl _ _) rfl)
      · have h1 : a.eval (.tmp 19) = _ := (hF 3 (hpre 3 (by kernel_rfl)))
        exact wpOp_build rfl (wanted_free rfl) _ _ _ rfl #[(0, .agg #[.string x, .string y])] (by simp [h1]) _ (run_buildH w1 x y) (hI.add (by decide) hsF_later (by decide) ((Below.refl _ _).alloc (Nat.le_refl _) _) ⟨_, _, _, rfl, hds_new w1 _ [(x, y)] rfl (by simp [maxLen])⟩)
      · exact wpOp_move rfl (wanted_free rfl) _ rfl _ (hI.same 0 (by decide)) (hI.add (by decide) hsF_later (by decide) (Below.refl _ _) rfl)
      · exact wpOp_move rfl (wanted_free rfl) _ rfl _ ((hI.same 5 (by decide)).trans h5.out) (hI.add (by decide) hsF_later (by decide) (Below.refl _ _) rfl)
      · exact wpOp_slice rfl (wanted_free rfl) _ _ _ _ _ rfl _ _ (some (.int .i64 (p : Int))) Option.none Option.none (hF 5 (hpre 5 (by kernel_rfl))) (congrArg some (hF 6 (hpre 6 (by kernel_rfl)))) rfl rfl (run_backH w1 A n c p hpn hnc) (hI.add (by decide) hsF_later (by decide) (Below.refl _ _) ⟨_, _, _, rfl, (H4.out.later hI.below).backAny hpn⟩)
      · exact wpOp_field rfl (wanted_free rfl) _ _ _ rfl _ _ (hI.same 3 (by decide)) (run_field0 w1 w.heap.size 0) (hI.add (by decide) hsF_later (by decide) (Below.refl _ _) rfl)
      · exact wpOp_load rfl (wanted_free rfl) _ _ rfl _ _ (hF 8 (hpre 8 (by kernel_rfl))) (run_load9 w1 w.heap.size 0 x (cell_later hI.below hx4)) (hI.add (by decide) hsF_later (by decide) (Below.refl _ _) rfl)
      · have h1 : a.eval (.tmp 25) = _ := (hF 9 (hpre 9 (by kernel_rfl)))
        exact wpOp_build rfl (wanted_free rfl) _ _ _ rfl #[(0, .string x)] (by simp [h1]) _ (run_build9 w1 x) (hI.add (by decide) hsF_later (by decide) ((Below.refl _ _).alloc (Nat.le_refl _) _) ⟨_, _, _, rfl, strs_new w1 _ [x] rfl (by simp [maxLen])⟩)
      · obtain ⟨B1, m1, d1, h1, T1⟩ := (hF 7 (hpre 7 (by kernel_rfl)))
        obtain ⟨B2, m2, d2, h2, T2⟩ := (hF 10 (hpre 10 (by kernel_rfl)))
        have em := T1.len
        rw [List.length_drop, H4.out.len] at em
        have em2 : m2 = 1 := T2.len.symm
        refine wpOp_call2 rfl (wanted_free rfl) 19 _ _ _ rfl _ _ h1 h2 (enters_drop _ _) (drop_any B1 B2 m1 d1 m2 d2 (l.drop p) [x] w1 T1 T2 (by omega) (by omega) (hB'.out.drop p) hs1.out) (fun e w' h => ?_)
        obtain ⟨v, rfl, ho, hb⟩ := h
        exact ⟨_, rfl, hI.add (by decide) hsF_later (by decide) hb ho.hh⟩
      · have q1 := (hF 2 (hpre 2 (by kernel_rfl)))
        have q2 := (hF 4 (hpre 4 (by kernel_rfl)))
        have q3 := (hF 11 (hpre 11 (by kernel_rfl)))
        exact wpOp_build rfl (wanted_free rfl) _ _ _ rfl #[(0, a.eval (.tmp 18)), (1, a.eval (.tmp 20)), (2, a.eval (.tmp 27))] (by simp) _ (run_build3 w1 _ _ _ q1.flat q2.flat q3.flat) (hI.add (by decide) hsF_later (by decide) ((Below.refl _ _).alloc (Nat.le_refl _) _) (three_new w1 _ _ _ _ _ _ q1 q2 q3))
      · obtain ⟨g3, v1, v2, v3, h1, T⟩ := (hF 12 (hpre 12 (by kernel_rfl)))
        refine wpOp_call1 rfl (wanted_free rfl) 30 _ _ rfl _ h1 (enters_concat _ _) (concat_any g3 v1 v2 v3 _ _ _ w1 T (by simp) (by rw [List.length_take]; omega) (by simp) hw3.out) (fun e w' h => ?_)
        obtain ⟨v, rfl, ho, hb⟩ := h
        rw [hset.out] at ho
        exact ⟨_, rfl, hI.add (by decide) hsF_later (by decide) hb ho.hh⟩
      · exact wpOp_assign rfl (wanted_free rfl) _ rfl _ rfl (hI.add (by decide) hsF_later (by decide) (Below.refl _ _) (hF 13 (hpre 13 (by kernel_rfl))))
    · intro D a w1 hI hall
      have fz := hI.fact 14 (hall 14 (by decide))
      have hd := hI.defs
      have hB := hI.below
      clear hall
      go_wp2
      exact bodyPost_ret (results_tmp rfl a.tmps _ _) hd ⟨_, rfl, fz, below_then hb4.out hB⟩
end Go.Proofs.YtklbikafkdjgpaaDoor
