/-
  memo's Put. Conditions: those that each theorem states.
-/
import Derived.Test.YthojnhdnflakiaaMemoTurn
namespace Go.Proofs.Ythojnhdnflakiaa
open Go.RowKit Go.Lib Go.Shelf

set_option maxRecDepth 100000 in
theorem run_fieldP (w : World) (b : Nat) : (Instr.fieldAt 47 (.pointer (some ⟨b, 0, Option.none⟩)) 1).run Try.prog w = .ok (.pointer (some ⟨b, 1, Option.none⟩)) w := by go_simp
set_option maxRecDepth 100000 in
theorem run_storeP (w : World) (b : Nat) (A : Option Addr) (n c : Nat) (u : Value) (h : w.cell? ⟨b, 1, Option.none⟩ = some u) (hf : w.frozen? ⟨b, 1, Option.none⟩ = false) : (Instr.storeAt 39 (.pointer (some ⟨b, 1, Option.none⟩)) (.slice A n c)).run Try.prog w = .ok () (w.setCell ⟨b, 1, Option.none⟩ (.slice A n c)) := by go_simp
set_option maxRecDepth 100000 in
theorem run_buildE (w : World) (x : Ent) : (Instr.buildSlice 39 1 #[(0, evalue x)]).run Try.prog w = .ok (.slice (some ⟨w.heap.size, 0, Option.none⟩) 1 1) (w.alloc (.cells (ecells [x]).toArray 32)) := by
  obtain ⟨x1, x2, x3, x4, x5, x6⟩ := x
  unfold evalue
  simp only [ecells, List.flatMap_cons, List.flatMap_nil, ecell, List.append_nil]
  go_simp
theorem Six.block {w W : World} {g : Nat} {x : Ent} (h : Six w g x) (hb : W.heap[g]? = w.heap[g]?) : Six W g x := by
  have key : ∀ o, W.cell? ⟨g, o, Option.none⟩ = w.cell? ⟨g, o, Option.none⟩ := fun o => World.cell?_of_block (a := ⟨g, o, Option.none⟩) hb
  unfold Six at h ⊢
  rw [key, key, key, key, key, key]
  exact h
theorem box_at2 (w : World) (x : Ent) (now : Int) : ((w.alloc (.cells (ecell x).toArray 32)).alloc (.cells #[.int .i64 now] 3)).cell? ⟨w.heap.size + 1, 0, Option.none⟩ = some (.int .i64 now) := by
  have hsz : (w.alloc (.cells (ecell x).toArray 32)).heap.size = w.heap.size + 1 := by simp
  rw [← hsz, cell_of_row _ _ 0 _ _ _ (heap_alloc_new _ _)]
  rfl

/-- What the slots of the statement hold that appends. -/
def paF (b : Nat) (A : Option Addr) (n c : Nat) (x : Ent) (j : Nat) (v : Value) (_ : World) : Prop :=
  match j with
  | 0 => v = .pointer (some ⟨b, 0, Option.none⟩)
  | 1 => v = .pointer (some ⟨b, 0, Option.none⟩)
  | 2 => v = .pointer (some ⟨b, 0, Option.none⟩)
  | 3 => v = .pointer (some ⟨b, 1, Option.none⟩)
  | 4 => v = .slice A n c
  | 5 => v = evalue x
  | _ => True
theorem paF_any {b : Nat} {A : Option Addr} {n c : Nat} {x : Ent} {j : Nat} {v : Value} {w w' : World} (h : paF b A n c x j v w) : paF b A n c x j v w' := by
  unfold paF at h ⊢
  split at h
  all_goals exact h
/-- The memory, while the statement that appends runs: unchanged but for boxes, till the entry is appended. -/
structure PX (wr : World) (b : Nat) (v : Value) (l : List Ent) (x : Ent) (D : Nat → Prop) (a : Act) (w : World) : Prop where
  calm : ¬ D 7 → Below wr.heap.size wr w
  one : D 6 → ¬ D 7 → ∃ gx, a.eval (.tmp 51) = .slice (some ⟨gx, 0, Option.none⟩) 1 1 ∧ Eds w (some ⟨gx, 0, Option.none⟩) 1 1 [x]
  full : D 7 → ∃ v', a.eval (.tmp 52) = v' ∧ OwnsE w (b + 1) v' (l ++ [x]) ∧ wr.grownBy w v.ownBlock ∧ Moved wr v v'
theorem PX.pure {wr : World} {b : Nat} {v : Value} {l : List Ent} {x : Ent} {D : Nat → Prop} {a : Act} {w : World} (h : PX wr b v l x D a w) {i s : Nat} (u : Value) (h6 : i ≠ 6) (h7 : i ≠ 7) (hs1 : s ≠ 51) (hs2 : s ≠ 52) : PX wr b v l x (fun j => D j ∨ j = i) (a.put (some s) u) w :=
  ⟨fun hn => h.calm (fun h' => hn (.inl h')), fun hd hn => by
    obtain ⟨gx, e, hE⟩ := h.one (hd.resolve_right (fun e => h6 e.symm)) (fun h' => hn (.inl h'))
    exact ⟨gx, by rw [eval_put_other _ _ (Ne.symm hs1)]; exact e, hE⟩, fun hd => by
    obtain ⟨v', e, r⟩ := h.full (hd.resolve_right (fun e => h7 e.symm))
    exact ⟨v', by rw [eval_put_other _ _ (Ne.symm hs2)]; exact e, r⟩⟩

set_option maxHeartbeats 16000000 in
set_option maxRecDepth 100000 in
/-- The way on which there is an entry of the key. -/
theorem putOld_any (b most : Nat) (v : Value) (l : List Ent) (x : Ent) (now : Int) (w : World) (h : PM w b most v l) (hm : 1 ≤ most) (hsp : spot l x < l.length) :
    Calls Try.prog 13 #[.pointer (some ⟨b, 0, Option.none⟩), evalue x, .int .i64 now] w fun e w' =>
      e = .returned (.tuple #[]) ∧ ∃ v', PM w' b most v' (l.set (spot l x) x) ∧ v'.ownBlock = v.ownBlock ∧ Turned2 w w' b v := by
  have hset := Lib.hid (set_til hsp (spot_at hsp))
  have hf : firstOf (fun y => sameKey y x) l = ((spot l x : Nat) : Int) := by unfold firstOf; exact if_pos hsp
  have hM0 := Lib.hid h
  have hb0 := Lib.hid (below_box2 w (.cells (ecell x).toArray 32) (.cells #[.int .i64 now] 3))
  have hz0 := Lib.hid (six_old w x 32 (.cells #[.int .i64 now] 3))
  have hn0 := Lib.hid (box_at2 w x now)
  have hpl := Lib.hid (place_any b most v l x _ (h.later hb0.out))
  have hltb := Lib.hid h.lt
  have hown := Lib.hid (fun k (hk : v.ownBlock = some k) => (World.ownsRow.lt h.own k hk).2)
  rw [hf] at hpl
  clear hf
  obtain ⟨k, hk⟩ : ∃ k, k = spot l x := ⟨_, rfl⟩
  obtain ⟨n, hn⟩ : ∃ n, n = l.length := ⟨_, rfl⟩
  rw [← hk] at hpl hset hsp ⊢
  rw [← hn] at hsp
  obtain ⟨gs, cap, rfl, hgB, hgl, hrow⟩ := h.own.form hn.symm (by omega)
  have hkn := hsp
  have hl := Lib.hid hn.symm
  clear hrow hsp hk hn hn0
  have hk0 : (0 : Int) ≤ (k : Int) := by omega
  have hmz : ((most : Int) == 0) = false := beq_eq_false_iff_ne.2 (by omega)
  obtain ⟨x1, x2, x3, x4, x5, x6⟩ := x
  have m0 : ((w.alloc (.cells #[.string x1, .string x2, .bool x3, .string x4, .string x5, .int .i64 x6] 32)).alloc (.cells #[.int .i64 now] 3)).cell? ⟨b, 0, Option.none⟩ = some (.int .i64 (most : Int)) := cell_later hb0.out h.cells.1
  have hz1 : Hid (Six ((w.alloc (.cells #[.string x1, .string x2, .bool x3, .string x4, .string x5, .int .i64 x6] 32)).alloc (.cells #[.int .i64 now] 3)) w.heap.size ⟨x1, x2, x3, x4, x5, x6⟩) := hz0
  obtain ⟨z1, z2, z3, z4, z5, z6⟩ := hz1.out
  unfold evalue at hpl ⊢
  simp only at z1 z2 z3 z4 z5 z6 hpl ⊢
  clear h
  go_enter Try.func13, Try.ntmps13
  go_wp2_with (go_at_call 23; refine hpl.out.mono ?_; rintro e w1 ⟨rfl, hb1⟩; have hbw := Lib.hid (below_then hb0.out hb1); have m1 := (hM0.out.later hbw.out).cells.2; have k6 := cell_later hb1 z6; have hM1 := Lib.hid (hM0.out.later hbw.out))
  refine wp_region_tail 9 12 (by decide) (by kernel_rfl) (RInv 55 [21, 22, 23, 24, 25, 26, 27, 28, 29] _ (ptF b k w.heap.size gs n cap x6) w1 NoMore) (by kernel_rfl) (by kernel_rfl) (RInv.start rfl trivial (Below.refl _ _).drew) ?_ ?_
  · intro i hi D a wy hI hcl hnd hpre
    have hi' : i < 9 := hi
    have hcase : i = 0 ∨ i = 1 ∨ i = 2 ∨ i = 3 ∨ i = 4 ∨ i = 5 ∨ i = 6 ∨ i = 7 ∨ i = 8 := by omega
    have hF := hI.fact
    rcases hcase with rfl | rfl | rfl | rfl | rfl | rfl | rfl | rfl | rfl
    · exact wpOp_move rfl (wanted_free rfl) _ rfl _ (hI.same 0 (by decide)) (hI.add (by decide) ptF_later (by decide) (Below.refl _ _) rfl)
    · exact wpOp_nil rfl (wanted_free rfl) _ rfl _ (hF 0 (hpre 0 (by kernel_rfl))) (hI.add (by decide) ptF_later (by decide) (Below.refl _ _) rfl)
    · exact wpOp_field rfl (wanted_free rfl) _ _ _ rfl _ _ (hF 1 (hpre 1 (by kernel_rfl))) (run_fieldP wy b) (hI.add (by decide) ptF_later (by decide) (Below.refl _ _) rfl)
    · exact wpOp_load rfl (wanted_free rfl) _ _ rfl _ _ (hF 2 (hpre 2 (by kernel_rfl))) (run_loadM wy b 1 _ _ _ (cell_later hI.below m1)) (hI.add (by decide) ptF_later (by decide) (Below.refl _ _) rfl)
    · exact wpOp_move rfl (wanted_free rfl) _ rfl _ (hI.same 6 (by decide)) (hI.add (by decide) ptF_later (by decide) (Below.refl _ _) rfl)
    · exact wpOp_field rfl (wanted_free rfl) _ _ _ rfl _ _ (hI.same 4 (by decide)) (run_field5 wy w.heap.size 0) (hI.add (by decide) ptF_later (by decide) (Below.refl _ _) rfl)
    · exact wpOp_load rfl (wanted_free rfl) _ _ rfl _ _ (hF 5 (hpre 5 (by kernel_rfl))) (run_loadI wy w.heap.size 5 _ (cell_later hI.below k6)) (hI.add (by decide) ptF_later (by decide) (Below.refl _ _) rfl)
    · exact wpOp_index rfl (wanted_free rfl) _ _ _ rfl _ _ _ (hF 3 (hpre 3 (by kernel_rfl))) (hF 4 (hpre 4 (by kernel_rfl))) (run_idxE wy gs 0 n cap k hkn) (hI.add (by decide) ptF_later (by decide) (Below.refl _ _) rfl)
    · exact wpOp_field rfl (wanted_free rfl) _ _ _ rfl _ _ (hF 7 (hpre 7 (by kernel_rfl))) (run_field5 wy gs _) (hI.add (by decide) ptF_later (by decide) (Below.refl _ _) rfl)
  · intro D a wy hI hall
    have hBy := Lib.hid hI.below
    have e29 : a.eval (.tmp 29) = .pointer (some ⟨gs, 0 + k * 6 + 5, Option.none⟩) := hI.fact 8 (hall 8 (by decide))
    have e27 : a.eval (.tmp 27) = .int .i64 x6 := hI.fact 6 (hall 6 (by decide))
    have hd := hI.defs
    clear hall
    have hMy := hM1.out.later hBy.out
    have hrowy : World.ownsRow wy (b + 1) 32 6 (.slice (some ⟨gs, 0, Option.none⟩) n cap) n (ecells l) := by
      have := hMy.own
      unfold OwnsE at this
      rwa [hl.out] at this
    have hcell := World.ownsRow.cellAt hrowy (0 + k * 6 + 5) (by omega)
    obtain ⟨u, hu⟩ : ∃ u, (ecells l)[0 + k * 6 + 5]? = some u := ⟨_, List.getElem?_eq_getElem (by rw [ecells_len, hl.out]; omega)⟩
    rw [hu] at hcell
    show wpOps _ _ _ [9] a wy
    rw [wpOps_cons]
    refine wpOp_store rfl (wanted_free rfl) _ _ _ rfl _ _ e29 e27 (run_storeI wy gs _ _ u hcell (World.ownsRow.frozenAt hrowy _)) ?_
    rw [wpOps]
    have hst := World.ownsRow.stored hrowy (0 + k * 6 + 5) (.int .i64 x6)
    have hfin : OwnsE (wy.setCell ⟨gs, 0 + k * 6 + 5, Option.none⟩ (.int .i64 x6)) (b + 1) (.slice (some ⟨gs, 0, Option.none⟩) n cap) (l.set k ⟨x1, x2, x3, x4, x5, x6⟩) := by
      unfold OwnsE
      rw [List.length_set, hl.out]
      have h1 := hst.1
      have h2 := hset.out
      rw [Nat.zero_add] at h1 ⊢
      rw [h2] at h1
      exact h1
    clear hI e29 e27
    go_wp2
    simp only [Nat.zero_add] at hfin hst ⊢
    refine bodyPost_ret (results_none rfl _ _ _) hd ⟨rfl, _, ⟨?_, hfin⟩, rfl, ?_⟩
    · exact (heap_setCell_other wy ⟨gs, k * 6 + 5, Option.none⟩ b _ (by show b ≠ gs; omega)).trans hMy.blk
    · have hB := below_then hbw.out hBy.out
      exact ⟨hst.2.os.trans hB.os, hst.2.tape.trans hB.tape, hst.2.output.trans hB.output, Nat.le_trans hB.size hst.2.size, fun j hj h1 h2 => (hst.2.block j (Nat.lt_of_lt_of_le hj hB.size) (Ne.symm h2)).trans (hB.block j hj)⟩

end Go.Proofs.Ythojnhdnflakiaa
