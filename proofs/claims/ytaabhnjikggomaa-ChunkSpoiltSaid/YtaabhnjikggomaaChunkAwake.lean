/-
  The fixed fact at the head of each statement of layer 3 holds, whatever memory it is asked in; nothing that was there is changed.
-/
import Derived.Test.YtaabhnjikggomaaChunkFacts
namespace Go.Proofs.Ytaabhnjikggomaa
open Go.RowKit Leb

theorem reach_has {ops : Array Oper} {D : Nat → Prop} (f i k : Nat) (h : (reach ops f i).contains k = true) (hcl : ∀ j, D j → ∀ k, (predsAt ops j).contains k = true → D k) (hi : D i) : D k :=
  reach_done hcl f i hi k (by simpa using h)
theorem run_front (w : World) (g n c k : Nat) (h : k ≤ n) (hc : n ≤ c) : (Instr.sliceAt 24 (.slice (some ⟨g, 0, Option.none⟩) n c) Option.none (some (.int .i64 (k : Int))) Option.none).run Try.prog w = .ok (.slice (some ⟨g, 0, Option.none⟩) k c) w := by
  have f3 : (0 : Int) ≤ (k : Int) := by omega
  have f5 : (k : Int) ≤ (c : Int) := by omega
  go_simp

theorem grown_set (W : World) (b i : Nat) (v : Value) : W.grownBy (W.setCell ⟨b, i, Option.none⟩ v) (some b) :=
  ⟨rfl, rfl, rfl, (KeepsWalks.setCell W _ v).size, fun k _ hk => Below.heap_setCell _ _ _ k (fun e => hk (by rw [e]))⟩
theorem text_abc : (strOfNums [97, 98, 99]).toList = [97, 98, 99] := by rw [Go.Lib.strOfNums_toList]; rfl

/-- A slot holds a slice that reads as l, in a block from B on. -/
def BA (B : Nat) (l : List Int) (v : Value) (w : World) : Prop := ∃ A c, v = .slice A l.length c ∧ Holds w A l.length c l ∧ ∀ b off, A = some ⟨b, off, Option.none⟩ → B ≤ b
theorem BA.keeps {B : Nat} {l : List Int} {v : Value} {w w' : World} (h : BA B l v w) (hk : Keeps w w') : BA B l v w' := by
  obtain ⟨A, c, h1, h2, h3⟩ := h
  exact ⟨A, c, h1, h2.keeps hk, h3⟩
theorem ba_of {B base : Nat} {l : List Int} {v : Value} {w : World} (h : Owns w base 5 v l) (hB : B ≤ base) : BA B l v w := by
  obtain ⟨A, c, rfl, h2⟩ := h.holds
  exact ⟨A, c, rfl, h2, fun b off e => Nat.le_trans hB (owns_at h b off e).1⟩
/-- A slot holds what Unpack gives, the bytes in a block from B on. -/
def UA (B : Nat) (r : List Int × Int × Int) (v : Value) (w : World) : Prop := ∃ u, v = .tuple #[u, .int .i64 r.2.1, .int .i64 r.2.2] ∧ BA B r.1 u w
theorem UA.keeps {B : Nat} {r : List Int × Int × Int} {v : Value} {w w' : World} (h : UA B r v w) (hk : Keeps w w') : UA B r v w' := by
  obtain ⟨u, h1, h2⟩ := h
  exact ⟨u, h1, h2.keeps hk⟩

/-- What the slots of the first reading hold. -/
def a3F (B gs cs : Nat) (j : Nat) (v : Value) (w : World) : Prop :=
  match j with
  | 0 => v = .agg (cells32 tab0).toArray
  | 1 => True
  | 2 => v = .slice (some ⟨gs, 0, Option.none⟩) 13 cs
  | 3 => BB ([7] ++ [3, 97, 98, 99, 34, 232, 148, 249, 0, 141, 239, 2, 210]) v w
  | 4 => UA B ([97, 98, 99], 14, 0) v w
  | 5 => UA B ([97, 98, 99], 14, 0) v w
  | 6 => BA B [97, 98, 99] v w
  | 7 => v = .int .i64 14
  | 8 => v = .int .i64 0
  | 9 => BA B [97, 98, 99] v w
  | 10 => v = .int .i64 14
  | 11 => v = .int .i64 0
  | _ => True
theorem a3F_later {B gs cs : Nat} : Outlives (a3F B gs cs) := by
  intro j v w w' h hk
  unfold a3F at h ⊢
  split at h
  all_goals first | exact h.keeps hk | exact h

/-- The literal, while it is of use. -/
def a3X (B : Nat) (D : Nat → Prop) (a : Act) (w : World) : Prop := D 1 → ¬ D 3 → Owns w B 5 (a.eval (.tmp 19)) [7]
theorem a3X_keep {B : Nat} {D : Nat → Prop} {a : Act} {w w' : World} {i d : Nat} {v : Value} (h : a3X B D a w) (hb : Below w.heap.size w w') (hi : i ≠ 1) (hd : 19 ≠ d) : a3X B (fun j => D j ∨ j = i) (a.put (some d) v) w' := fun h1 h3 => by
  rw [eval_put_other _ _ hd]
  exact (h (h1.resolve_right (Ne.symm hi)) (fun h' => h3 (.inl h'))).kept hb (Nat.le_refl _)
/-- What the slots of the last reading hold. -/
def a8F (gs cs : Nat) (j : Nat) (v : Value) (w : World) : Prop :=
  match j with
  | 0 => v = .agg (cells32 tab0).toArray
  | 1 => v = .slice (some ⟨gs, 0, Option.none⟩) 13 cs
  | 2 => v = .slice (some ⟨gs, 0, Option.none⟩) 3 cs
  | 3 => UP ([], 0, 7) v w
  | 4 => UP ([], 0, 7) v w
  | 5 => BB [] v w
  | 6 => v = .int .i64 0
  | 7 => v = .int .i64 7
  | 8 => BB [] v w
  | 9 => v = .int .i64 0
  | 10 => v = .int .i64 7
  | _ => True
theorem a8F_later {gs cs : Nat} : Outlives (a8F gs cs) := by
  intro j v w w' h hk
  unfold a8F at h ⊢
  split at h
  all_goals first | exact h.keeps hk | exact h

set_option maxRecDepth 100000 in
set_option maxHeartbeats 1600000 in
theorem awake3_any (w : World) : Calls Try.prog 8 #[] w (Yes w) := by
  obtain ⟨i0, hi0, hz0, hz1, hz2⟩ := info_parts Try.info8
  go_enter Try.func8, Try.ntmps8
  go_wp2_with fail
  refine (table_said w).mono ?_
  rintro e wt ⟨rfl, hbt⟩
  have HiT := Lib.hid (show (Try.prog.info? 25).map (·.size) = some (cells32 tab0).toArray.size by rw [info32]; simp [length_cells32])
  go_wp2_with (first
    | (with_reducible refine wpList_table rfl _ _ rfl rfl wt.heap.size rfl tab0 rfl rfl ?_; intro w2 ht0 hg2 hb2; have HiT' := HiT.out; obtain ⟨T, hT⟩ : ∃ T, T = (cells32 tab0).toArray := ⟨_, rfl⟩; rw [← hT] at hg2 HiT'; have HT := Lib.hid hT; have Ht0 := Lib.hid ht0; clear hT ht0 HiT)
    | (with_reducible refine wpList_load_row rfl _ _ rfl wt.heap.size rfl 25 T (0, 0) _ hg2 Try.underlying25 rfl HiT' ?_)
    | (with_reducible refine wpList_mark rfl 24 5 Try.underlying24 Try.underlying5 (.tmp 14) rfl w2.heap.size 3 3 rfl ?_; intro w3 hk3 hm3))
  have hb02 : Below w.heap.size w w2 := hbt.trans (hb2.mono hbt.size)
  have hb23 : Below w2.heap.size w2 w3 := hm3 _ _ ((Below.refl _ _).alloc (Nat.le_refl _) _) (Nat.le_refl _)
  have hpk := pack_any tab0 tab0_lt (some ⟨w2.heap.size, 0, Option.none⟩) 3 3 [97, 98, 99] w3 ((holds_new w2 5 #[.int .u8 97, .int .u8 98, .int .u8 99] [97, 98, 99] rfl (bytes_all (by decide)) (by simp [maxLen])).keeps hk3) (by omega)
  rw [← HT.out, pack_abc] at hpk
  refine hpk.mono ?_
  rintro e w4 ⟨v4, rfl, hown4, hb34⟩
  have hb24 : Below w2.heap.size w2 w4 := hb23.trans (hb34.mono hb23.size)
  have hbw4 : Below w.heap.size w w4 := hb02.trans (hb24.mono hb02.size)
  have hgl : wt.heap.size < w2.heap.size := (Array.getElem?_eq_some_iff.1 hg2).1
  have HtW := Lib.hid (fun c (hc : c < 256) => cell_later hb24 (Ht0.out c hc))
  have HgW := Lib.hid ((hb24.block _ hgl).trans hg2)
  have hbase : w.heap.size ≤ w2.heap.size ∧ w2.heap.size ≤ w3.heap.size := ⟨hb02.size, hb23.size⟩
  obtain ⟨As, cs, rfl, hs4⟩ := hown4.holds
  obtain ⟨gs, rfl, hcs4, hfs4⟩ := owns_cells hown4 (by simp)
  have hgsl := owns_at hown4 gs 0 rfl
  have HsW : Hid (Holds w4 (some ⟨gs, 0, Option.none⟩) 13 cs [3, 97, 98, 99, 34, 232, 148, 249, 0, 141, 239, 2, 210]) := hs4
  have Hcs : Hid (13 ≤ cs) := hs4.cap
  have Hown4 := Lib.hid hown4
  have Hcell := Lib.hid (hcs4 2 (by simp))
  have Hfr := Lib.hid (hfs4 2)
  clear hpk hk3 hm3 hown4 hcs4 hfs4 hs4 hb34 hb23 hb2 hbt hg2 Ht0 hb02 hb24
  generalize wt.heap.size = g at *
  go_wp2_with fail
  refine wp_region_each (RInv 74 [18, 19, 20, 21, 22, 17, 23, 24, 25, 3, 4, 5] _ (a3F w4.heap.size gs cs) w4 (a3X w4.heap.size)) (by kernel_rfl) (by kernel_rfl) (RInv.start rfl (fun h => h.elim) (Below.refl _ _).drew) ?_ ?_
  · intro i hi D a w1 hI hcl hnd hpre
    have hi' : i < 12 := hi
    have hcase : i = 0 ∨ i = 1 ∨ i = 2 ∨ i = 3 ∨ i = 4 ∨ i = 5 ∨ i = 6 ∨ i = 7 ∨ i = 8 ∨ i = 9 ∨ i = 10 ∨ i = 11 := by omega
    have hF := hI.fact
    rcases hcase with rfl | rfl | rfl | rfl | rfl | rfl | rfl | rfl | rfl | rfl | rfl | rfl
    · exact wpOp_load rfl (wanted_free rfl) _ _ rfl _ _ (hI.same 1 (by decide)) (run_loadTab w1 g tab0 (fun c hc => below_cells hI.below (HtW.out c hc))) (hI.put (by decide) (by decide) (fun j _ _ h => a3F_later j _ _ _ h (below_keeps (Below.refl _ _))) rfl (a3X_keep hI.more (Below.refl _ _) (by decide) (by decide)) (hI.below.trans ((Below.refl _ _).mono hI.below.size)))
    · have hb : Below w1.heap.size w1 (w1.alloc (.cells #[.int .u8 7] 5)) := (Below.refl _ _).alloc (Nat.le_refl _) _
      refine wpOp_build rfl (wanted_free rfl) _ _ _ rfl #[(0, .int .u8 7)] (by simp [Act.eval]) _ (run_build1 w1 _) (hI.put (by decide) (by decide) (fun j _ _ h => a3F_later j _ _ _ h (below_keeps hb)) trivial (fun _ _ => ?_) (hI.below.trans (hb.mono hI.below.size)))
      rw [show slotAt [18, 19, 20, 21, 22, 17, 23, 24, 25, 3, 4, 5] 1 = 19 by rfl, eval_put_same _ _ _ (by rw [hI.size]; decide)]
      exact owns_lit w1 w4.heap.size 5 #[.int .u8 7] [7] rfl (bytes_all (by decide)) (by simp [maxLen]) hI.below.size
    · exact wpOp_move rfl (wanted_free rfl) _ rfl _ (hI.same 2 (by decide)) (hI.put (by decide) (by decide) (fun j _ _ h => a3F_later j _ _ _ h (below_keeps (Below.refl _ _))) rfl (a3X_keep hI.more (Below.refl _ _) (by decide) (by decide)) (hI.below.trans ((Below.refl _ _).mono hI.below.size)))
    · have hsz := hI.below.size
      have hO := hI.more (hpre 1 (by kernel_rfl)) hnd
      refine wpOp_append rfl (wanted_free rfl) (.tmp 19) (.tmp 20) 24 rfl w4.heap.size 5 i0 Try.underlying24 hi0 hz0 hz1 hz2 _ [7] rfl hO _ _ _ _ (hF 2 (hpre 2 (by kernel_rfl))) (HsW.out.later hI.below) (by simp) hsz ?_
      intro v' w' hown' hg' _
      refine hI.put (by decide) (by decide) (fun j hj hne h => ?_) hown'.holds (fun _ h3 => absurd (.inr rfl) h3) (below_own hI.below hO hg' hsz)
      have hj' : j < 12 := hI.few j hj
      have hjc : j = 0 ∨ j = 1 ∨ j = 2 ∨ j = 3 ∨ j = 4 ∨ j = 5 ∨ j = 6 ∨ j = 7 ∨ j = 8 ∨ j = 9 ∨ j = 10 ∨ j = 11 := by omega
      rcases hjc with rfl | rfl | rfl | rfl | rfl | rfl | rfl | rfl | rfl | rfl | rfl | rfl
      · exact h
      · exact h
      · exact h
      · exact absurd rfl hne
      · exact absurd (reach_has 6 4 3 (by kernel_rfl) hcl hj) hnd
      · exact absurd (reach_has 6 5 3 (by kernel_rfl) hcl hj) hnd
      · exact absurd (reach_has 6 6 3 (by kernel_rfl) hcl hj) hnd
      · exact absurd (reach_has 6 7 3 (by kernel_rfl) hcl hj) hnd
      · exact absurd (reach_has 6 8 3 (by kernel_rfl) hcl hj) hnd
      · exact absurd (reach_has 6 9 3 (by kernel_rfl) hcl hj) hnd
      · exact absurd (reach_has 6 10 3 (by kernel_rfl) hcl hj) hnd
      · exact absurd (reach_has 6 11 3 (by kernel_rfl) hcl hj) hnd
    · obtain ⟨A1, c1, hv, hH⟩ := (hF 3 (hpre 3 (by kernel_rfl)))
      refine wpOp_call3 rfl (wanted_free rfl) 13 _ _ _ _ rfl _ _ _ (hF 0 (hpre 0 (by kernel_rfl))) hv rfl (enters_unpack _ _) (unpack_any tab0 tab0_lt _ _ _ _ 1 w1 hH (by simp)) (fun e w' h => ?_)
      obtain ⟨v, rfl, ho, hb⟩ := h
      rw [unpack_abc] at ho ⊢
      exact ⟨_, rfl, (hI.put (by decide) (by decide) (fun j _ _ h => a3F_later j _ _ _ h (below_keeps hb)) ⟨v, rfl, ba_of ho hI.below.size⟩ (a3X_keep hI.more hb (by decide) (by decide)) (hI.below.trans (hb.mono hI.below.size)))⟩
    · exact wpOp_move rfl (wanted_free rfl) _ rfl _ rfl (hI.put (by decide) (by decide) (fun j _ _ h => a3F_later j _ _ _ h (below_keeps (Below.refl _ _))) (hF 4 (hpre 4 (by kernel_rfl))) (a3X_keep hI.more (Below.refl _ _) (by decide) (by decide)) (hI.below.trans ((Below.refl _ _).mono hI.below.size)))
    · obtain ⟨u, hu, hB⟩ := (hF 5 (hpre 5 (by kernel_rfl)))
      exact wpOp_extract rfl (wanted_free rfl) _ _ rfl _ _ hu (run_extract0 w1 _ _ _) (hI.put (by decide) (by decide) (fun j _ _ h => a3F_later j _ _ _ h (below_keeps (Below.refl _ _))) hB (a3X_keep hI.more (Below.refl _ _) (by decide) (by decide)) (hI.below.trans ((Below.refl _ _).mono hI.below.size)))
    · obtain ⟨u, hu, hB⟩ := (hF 5 (hpre 5 (by kernel_rfl)))
      exact wpOp_extract rfl (wanted_free rfl) _ _ rfl _ _ hu (run_extract1 w1 _ _ _) (hI.put (by decide) (by decide) (fun j _ _ h => a3F_later j _ _ _ h (below_keeps (Below.refl _ _))) rfl (a3X_keep hI.more (Below.refl _ _) (by decide) (by decide)) (hI.below.trans ((Below.refl _ _).mono hI.below.size)))
    · obtain ⟨u, hu, hB⟩ := (hF 5 (hpre 5 (by kernel_rfl)))
      exact wpOp_extract rfl (wanted_free rfl) _ _ rfl _ _ hu (run_extract2 w1 _ _ _) (hI.put (by decide) (by decide) (fun j _ _ h => a3F_later j _ _ _ h (below_keeps (Below.refl _ _))) rfl (a3X_keep hI.more (Below.refl _ _) (by decide) (by decide)) (hI.below.trans ((Below.refl _ _).mono hI.below.size)))
    · exact wpOp_assign rfl (wanted_free rfl) _ rfl _ rfl (hI.put (by decide) (by decide) (fun j _ _ h => a3F_later j _ _ _ h (below_keeps (Below.refl _ _))) (hF 6 (hpre 6 (by kernel_rfl))) (a3X_keep hI.more (Below.refl _ _) (by decide) (by decide)) (hI.below.trans ((Below.refl _ _).mono hI.below.size)))
    · exact wpOp_assign rfl (wanted_free rfl) _ rfl _ rfl (hI.put (by decide) (by decide) (fun j _ _ h => a3F_later j _ _ _ h (below_keeps (Below.refl _ _))) (hF 7 (hpre 7 (by kernel_rfl))) (a3X_keep hI.more (Below.refl _ _) (by decide) (by decide)) (hI.below.trans ((Below.refl _ _).mono hI.below.size)))
    · exact wpOp_assign rfl (wanted_free rfl) _ rfl _ rfl (hI.put (by decide) (by decide) (fun j _ _ h => a3F_later j _ _ _ h (below_keeps (Below.refl _ _))) (hF 8 (hpre 8 (by kernel_rfl))) (a3X_keep hI.more (Below.refl _ _) (by decide) (by decide)) (hI.below.trans ((Below.refl _ _).mono hI.below.size)))
  · intro D a w5 hI hall
    obtain ⟨fs, rfl, hf⟩ := hI.done (by decide) rfl hall
    have hB := hI.below
    obtain ⟨A3, c3, h3, H3, HA3⟩ := hf 9 (by decide)
    have h3' : fs 3 = .slice A3 3 c3 := h3
    have h4' : fs 4 = .int .i64 14 := hf 10 (by decide)
    have h5' : fs 5 = .int .i64 0 := hf 11 (by decide)
    have H3' := Lib.hid H3
    have hbw5 : Below w.heap.size w w5 := hbw4.trans (hB.mono hbw4.size)
    have Hown5 := Lib.hid (Hown4.out.kept hB (Nat.le_refl _))
    have hc5 : w5.cell? ⟨gs, 2, Option.none⟩ = some (.int .u8 98) := cell_later hB Hcell.out
    have hf5 : w5.frozen? ⟨gs, 2, Option.none⟩ = false := by
      obtain ⟨g', e, _, hfr⟩ := owns_cells Hown5.out (by simp)
      injection e with e
      injection e with e
      subst e
      exact hfr 2
    have hgs5 : gs < w5.heap.size := Nat.lt_of_lt_of_le hgsl.2 hB.size
    have hg5 : w5.heap[g]? = some (.cells T 25 (0, 0)) := (hB.block _ (by omega)).trans HgW.out
    have hx : bits .xor .u8 98 1 = 99 := by kernel_rfl
    have hst := owns_stored Hown5.out 2 99 (by omega)
    have hb56 : Below w4.heap.size w4 w5 := hB
    clear hI hall hf hB h3 H3 Hcell Hfr HsW
    simp only [putAll, List.map_cons, List.map_nil, Act.put, List.setIfInBounds_toArray, List.set_cons_zero, List.set_cons_succ, h3', h4', h5']
    clear h3' h4' h5'
    generalize fs 18 = y18
    generalize fs 19 = y19
    generalize fs 20 = y20
    generalize fs 21 = y21
    generalize fs 22 = y22
    generalize fs 17 = y17
    generalize fs 23 = y23
    generalize fs 24 = y24
    generalize fs 25 = y25
    have hgd : g ≠ gs := by omega
    have hg6 : (w5.setCell ⟨gs, 2, Option.none⟩ (.int .u8 99)).heap[g]? = some (.cells T 25 (0, 0)) := by rw [heap_setCell_other _ _ _ _ (by simp; omega), hg5]
    have Hs6 : Hid (Holds (w5.setCell ⟨gs, 2, Option.none⟩ (.int .u8 99)) (some ⟨gs, 0, Option.none⟩) 13 cs [3, 97, 99, 99, 34, 232, 148, 249, 0, 141, 239, 2, 210]) := by
      obtain ⟨A', c', e, h⟩ := hst.1.holds
      injection e with e1 e2 e3
      subst e1
      subst e3
      exact h
    have hb6 : Below w.heap.size w (w5.setCell ⟨gs, 2, Option.none⟩ (.int .u8 99)) := hbw5.setCell (p := ⟨gs, 2, Option.none⟩) (by simp; omega) _
    have H36 : Hid (Holds (w5.setCell ⟨gs, 2, Option.none⟩ (.int .u8 99)) A3 3 c3 [97, 98, 99]) := by
      refine holds_grown H3'.out (grown_set w5 gs 2 (.int .u8 99)) (fun b off e1 e2 => ?_)
      have := HA3 b off e1
      injection e2 with e2
      omega
    clear hst hg5 Hown5 Hown4
    have Hun := Lib.hid (unpack_any tab0 tab0_lt (some ⟨gs, 0, Option.none⟩) 13 cs _ 0 _ Hs6.out (by omega))
    rw [← HT.out, unpack_acc] at Hun
    go_wp2_with (with_reducible refine wpList_load_row rfl _ _ rfl g rfl 25 T (0, 0) _ hg6 Try.underlying25 rfl HiT' ?_)
    refine Hun.out.mono ?_
    rintro e w7 ⟨v7, rfl, ho7, hb7⟩
    obtain ⟨A7, c7, rfl, _⟩ := ho7.holds
    have hb67 : Below w.heap.size w w7 := hb6.trans (hb7.mono hb6.size)
    have hs6 : g < (w5.setCell ⟨gs, 2, Option.none⟩ (.int .u8 99)).heap.size := (Array.getElem?_eq_some_iff.1 hg6).1
    have Hg7 := Lib.hid ((hb7.block _ hs6).trans hg6)
    have Ht8 := Lib.hid (fun c (hc : c < 256) => (show w7.cell? ⟨g, c, Option.none⟩ = some (.int .u32 (tab0 c)) by
      rw [cell_of_row _ g c _ _ (0, 0) Hg7.out, HT.out]
      simpa using cells32_at tab0 hc))
    have Hs8 : Hid (Holds w7 (some ⟨gs, 0, Option.none⟩) 3 cs [3, 97, 99]) := (Hs6.out.later hb7).front (k := 3) (by omega)
    have H37 := Lib.hid (H36.out.later hb7)
    clear hc5 hf5 hgs5 hb56 hg6 Hs6 hb6 H36 Hun ho7 hb7 hs6 H3' hbw5 hbw4 hx
    go_wp2_with fail
    refine wp_region_each (RInv 74 [42, 43, 44, 45, 41, 46, 47, 48, 9, 10, 11] _ (a8F gs cs) w7 NoMore) (by kernel_rfl) (by kernel_rfl) (RInv.start rfl trivial (Below.refl _ _).drew) ?_ ?_
    · intro i hi D a w1 hI hcl hnd hpre
      have hi' : i < 11 := hi
      have hcase : i = 0 ∨ i = 1 ∨ i = 2 ∨ i = 3 ∨ i = 4 ∨ i = 5 ∨ i = 6 ∨ i = 7 ∨ i = 8 ∨ i = 9 ∨ i = 10 := by omega
      have hF := hI.fact
      rcases hcase with rfl | rfl | rfl | rfl | rfl | rfl | rfl | rfl | rfl | rfl | rfl
      · exact wpOp_load rfl (wanted_free rfl) _ _ rfl _ _ (hI.same 1 (by decide)) (run_loadTab w1 g tab0 (fun c hc => below_cells hI.below (Ht8.out c hc))) (hI.add (by decide) a8F_later (by decide) (Below.refl _ _) rfl)
      · exact wpOp_move rfl (wanted_free rfl) _ rfl _ (hI.same 2 (by decide)) (hI.add (by decide) a8F_later (by decide) (Below.refl _ _) rfl)
      · exact wpOp_slice rfl (wanted_free rfl) _ _ _ _ _ rfl _ _ _ _ _ (hF 1 (hpre 1 (by kernel_rfl))) rfl rfl rfl (run_front w1 gs 13 cs 3 (by omega) Hcs.out) (hI.add (by decide) a8F_later (by decide) (Below.refl _ _) rfl)
      · refine wpOp_call3 rfl (wanted_free rfl) 13 _ _ _ _ rfl _ _ _ (hF 0 (hpre 0 (by kernel_rfl))) (hF 2 (hpre 2 (by kernel_rfl))) rfl (enters_unpack _ _) (unpack_any tab0 tab0_lt _ _ _ [3, 97, 99] 0 w1 (Hs8.out.later hI.below) (by omega)) (fun e w' h => ?_)
        obtain ⟨v, rfl, ho, hb⟩ := h
        rw [unpack_cut] at ho ⊢
        exact ⟨_, rfl, (hI.add (by decide) a8F_later (by decide) hb ⟨v, rfl, ho.holds⟩)⟩
      · exact wpOp_move rfl (wanted_free rfl) _ rfl _ rfl (hI.add (by decide) a8F_later (by decide) (Below.refl _ _) (hF 3 (hpre 3 (by kernel_rfl))))
      · obtain ⟨u, hu, hB⟩ := (hF 4 (hpre 4 (by kernel_rfl)))
        exact wpOp_extract rfl (wanted_free rfl) _ _ rfl _ _ hu (run_extract0 w1 _ _ _) (hI.add (by decide) a8F_later (by decide) (Below.refl _ _) hB)
      · obtain ⟨u, hu, hB⟩ := (hF 4 (hpre 4 (by kernel_rfl)))
        exact wpOp_extract rfl (wanted_free rfl) _ _ rfl _ _ hu (run_extract1 w1 _ _ _) (hI.add (by decide) a8F_later (by decide) (Below.refl _ _) rfl)
      · obtain ⟨u, hu, hB⟩ := (hF 4 (hpre 4 (by kernel_rfl)))
        exact wpOp_extract rfl (wanted_free rfl) _ _ rfl _ _ hu (run_extract2 w1 _ _ _) (hI.add (by decide) a8F_later (by decide) (Below.refl _ _) rfl)
      · exact wpOp_assign rfl (wanted_free rfl) _ rfl _ rfl (hI.add (by decide) a8F_later (by decide) (Below.refl _ _) (hF 5 (hpre 5 (by kernel_rfl))))
      · exact wpOp_assign rfl (wanted_free rfl) _ rfl _ rfl (hI.add (by decide) a8F_later (by decide) (Below.refl _ _) (hF 6 (hpre 6 (by kernel_rfl))))
      · exact wpOp_assign rfl (wanted_free rfl) _ rfl _ rfl (hI.add (by decide) a8F_later (by decide) (Below.refl _ _) (hF 7 (hpre 7 (by kernel_rfl))))
    · intro D a w8 hI hall
      obtain ⟨gs8, rfl, hf⟩ := hI.done (by decide) rfl hall
      have hB := hI.below
      have h11 : gs8 11 = .int .i64 7 := hf 10 (by decide)
      have hbw8 : Below w.heap.size w w8 := hb67.trans (hB.mono hb67.size)
      have hg8 : w8.heap[g]? = some (.cells T 25 (0, 0)) := (hB.block _ (Array.getElem?_eq_some_iff.1 Hg7.out).1).trans Hg7.out
      have r1 := run_text (P := Try.prog) 24 9 5 Try.underlying24 Try.underlying5 Try.underlying9 (H37.out.later hB)
      have hpk := pack_any tab0 tab0_lt Option.none 0 0 [] w8 (holds_nil w8) (by omega)
      rw [← HT.out, pack_none] at hpk
      have Hpk := Lib.hid hpk
      clear hI hall hf hB hpk Hg7 Ht8 Hs8 H37 hb67
      simp only [putAll, List.map_cons, List.map_nil, Act.put, List.setIfInBounds_toArray, List.set_cons_zero, List.set_cons_succ, h11]
      clear h11
      generalize gs8 42 = z42
      generalize gs8 43 = z43
      generalize gs8 44 = z44
      generalize gs8 45 = z45
      generalize gs8 41 = z41
      generalize gs8 46 = z46
      generalize gs8 47 = z47
      generalize gs8 48 = z48
      generalize gs8 9 = z9
      generalize gs8 10 = z10
      have htx := text_abc
      go_wp2_with fail
      rename_i KK hKK
      refine wp_load_row _ _ rfl g rfl 25 T (0, 0) _ hg8 Try.underlying25 rfl HiT' (hKK _ _ ?_)
      go_wp2_with fail
      refine Hpk.out.mono ?_
      rintro e w9 ⟨v9, rfl, ho9, hb9⟩
      obtain ⟨A9, c9, rfl, _⟩ := ho9.holds
      go_wp2_with fail
      go_ret
      exact ⟨rfl, hbw8.trans (hb9.mono hbw8.size)⟩
end Go.Proofs.Ytaabhnjikggomaa
