/-
  What chunk.Pack returns: the bytes in pieces, in memory of the call's own; nothing that was there is changed. Conditions: the slice reads as bytes, at most 1,000,000 of them; a table of numbers of 32 bits.
-/
import Derived.Test.YtaabhnjikggomaaChunkBodies
import Derived.Test.YtaabhnjikggomaaChunkReadA
namespace Go.Proofs.Ytaabhnjikggomaa
open Go.RowKit Leb Go.Shelf

attribute [local go_sem] Oper.semAt_some

/-- What is written when these have come. -/
def outs (t : Nat → Nat) {w : World} (pre : List (SubOf w)) : List Int := (pre.map fun x => Chunk.piece (sum4 t) x.list).flatten
theorem outs_snoc (t : Nat → Nat) {w : World} (pre : List (SubOf w)) (x : SubOf w) : outs t (pre ++ [x]) = outs t pre ++ Chunk.piece (sum4 t) x.list := by simp [outs]
theorem outs_length (t : Nat → Nat) {w : World} : ∀ (pre : List (SubOf w)), (outs t pre).length ≤ 262 * pre.length
  | [] => by simp [outs]
  | x :: pre => by
    have ih := outs_length t pre
    have h1 := Chunk.piece_length (sum4_sums t) x.list
    have h2 : x.list.length ≤ 256 := by
      have := x.2.1.len
      have := x.2.2
      unfold SubOf.list
      omega
    have h3 := Chunk.enc_len256 h2
    have e : outs t (x :: pre) = Chunk.piece (sum4 t) x.list ++ outs t pre := by simp [outs]
    rw [e, List.length_append, List.length_cons]
    omega

theorem run_loadBox (w : World) (g : Nat) (A : Option Addr) (n c : Nat) (h : w.cell? ⟨g, 0, Option.none⟩ = some (.slice A n c)) : (Instr.loadAt 24 (.pointer (some ⟨g, 0, Option.none⟩))).run Try.prog w = .ok (.slice A n c) w := by go_simp
theorem run_storeBox (w : World) (g : Nat) (u : Value) (A : Option Addr) (n c : Nat) (h : w.cell? ⟨g, 0, Option.none⟩ = some u) (hf : w.frozen? ⟨g, 0, Option.none⟩ = false) : (Instr.storeAt 24 (.pointer (some ⟨g, 0, Option.none⟩)) (.slice A n c)).run Try.prog w = .ok () (w.setCell ⟨g, 0, Option.none⟩ (.slice A n c)) := by go_simp

theorem pp_pair (w : World) {A1 A2 : Option Addr} {n1 n2 c1 c2 : Nat} {l1 l2 : List Int} (h1 : Holds w A1 n1 c1 l1) (h2 : Holds w A2 n2 c2 l2) :
    PP [l1, l2] (.slice (some ⟨w.heap.size, 0, Option.none⟩) 2 2) (w.alloc (.cells #[.slice A1 n1 c1, .slice A2 n2 c2] 24)) := by
  have e1 := h1.len
  have e2 := h2.len
  subst e1
  subst e2
  exact pp_two w h1 h2

/-- What the slots of the round's last statement hold. -/
def pkF (t : Nat → Nat) (v vn vb : Value) (nm ls : List Int) (j : Nat) (u : Value) (w : World) : Prop :=
  match j with
  | 0 => u = v
  | 1 => u = .agg (cells32 t).toArray
  | 2 => u = vn
  | 3 => u = vb
  | 4 => PP [nm, ls] u w
  | 5 => u = .int .u32 ((4294967295 - regs t [nm, ls] : Nat) : Int)
  | 6 => BB (sum4 t (nm ++ ls)) u w
  | _ => True
theorem pkF_later {t : Nat → Nat} {v vn vb : Value} {nm ls : List Int} : Outlives (pkF t v vn vb nm ls) := by
  intro j u w w' h hk
  unfold pkF at h ⊢
  split at h
  all_goals first | exact h.keeps hk | exact h

set_option maxRecDepth 100000 in
set_option maxHeartbeats 4000000 in
theorem pack_any (t : Nat → Nat) (ht : ∀ c, t c < 4294967296) (A : Option Addr) (k c : Nat) (s : List Int) (w : World) (hA : Holds w A k c s) (hk : k ≤ 1000000) :
    Calls Try.prog 9 #[.agg (cells32 t).toArray, .slice A k c] w (Gives w 5 (Chunk.pack (sum4 t) s)) := by
  refine (callsIn_wide (n := 10)).1 ?_
  have HT : Hid (∀ W : World, W.heap[w.heap.size]? = some (.cells (cells32 t).toArray 25 (0, 0)) → ∀ x, x < 256 → W.cell? ⟨w.heap.size, x, Option.none⟩ = some (.int .u32 (t x))) := fun W hW x hx => by
    rw [cell_of_row _ w.heap.size x _ _ (0, 0) hW]
    simpa using cells32_at t hx
  have hmany : Chunk.many s ≤ 3907 := by
    have := hA.len
    unfold Chunk.many
    omega
  generalize (cells32 t).toArray = T at *
  obtain ⟨i0, hi, hz0, hz1, hz2⟩ := info_parts Try.info8
  refine callsIn_of_wp_marks Try.func9 rfl trivial ?_ rfl
  simp only [Try.ntmps9, List.size_toArray, List.length_cons, List.length_nil, Nat.reduceAdd, Nat.reduceSub, Array.replicate_succ, Array.replicate_zero, List.push_toArray, List.append_toArray, List.nil_append, List.cons_append]
  gi_wp2_with (refine ⟨trivial, ?_⟩; gi_at_call 15; refine (bodies_in _ _ _ _ _).mono ?_; rintro e w' ⟨rfl, rfl⟩)
  obtain ⟨W0, hW0⟩ : ∃ W0, ((w.alloc (.cells T 25)).alloc (.cells #[.slice Option.none 0 0] 24)).alloc (.cells #[.slice A k c] 24) = W0 := ⟨_, rfl⟩
  have hsz : W0.heap.size = w.heap.size + 3 := by rw [← hW0]; simp
  have bT : W0.heap[w.heap.size]? = some (.cells T 25 (0, 0)) := by rw [← hW0, Below.heap_alloc _ _ _ (by simp; omega), Below.heap_alloc _ _ _ (by simp)]; exact World.alloc_heap_new w _
  have bO : Boxed W0 (w.heap.size + 1) 24 (.slice Option.none 0 0) := by
    have := (Boxed.new (w.alloc (.cells T 25)) 24 (.slice Option.none 0 0)).alloc (.cells #[.slice A k c] 24)
    rw [World.size_alloc, hW0] at this
    exact this
  have bN : Boxed W0 (w.heap.size + 2) 24 (.slice A k c) := by
    have := Boxed.new ((w.alloc (.cells T 25)).alloc (.cells #[.slice Option.none 0 0] 24)) 24 (.slice A k c)
    rw [World.size_alloc, World.size_alloc, hW0] at this
    exact this
  have hB0 : Below w.heap.size w W0 := by
    rw [← hW0]
    exact (((Below.refl _ w).alloc (Nat.le_refl _) _).alloc (by simp) _).alloc (by simp; omega) _
  simp only [hW0]
  clear hW0
  refine wpIn_rangeFunc_ownG rfl (by omega) (gf := 25) (lb := #[.pointer (some ⟨w.heap.size + 2, 0, Option.none⟩)]) rfl trivial (enters_of Try.func25 (by kernel_rfl) rfl)
    (bodies_stops 9 w (w.heap.size + 2) w.heap.size [w.heap.size + 1] (by simp) A k c s hA hk (by omega) W0 bN) kept_t (kept_b (by omega)) (Below.refl _ _) (fun _ => rfl)
    (fun pre W => (∃ v, Boxed W (w.heap.size + 1) 24 v ∧ Owns W w.heap.size 5 v (outs t pre)) ∧ (W.heap[w.heap.size]? = some (.cells T 25 (0, 0)) ∧ Below w.heap.size w W))
    (fun _ _ _ => False)
    (OwnFrom.and (Own.from (boxedOwns_own w.heap.size (w.heap.size + 1) 24 5 (outs t)) _) (OwnFrom.and (Own.from (cells_own w.heap.size T 25) _) (ownFrom_below (Nat.le_refl _) (by omega))))
    (fun _ _ _ _ _ hs _ _ => hs)
    ⟨⟨_, bO, owns_nil _ _ _⟩, bT, hB0⟩
    (fun x => { tmps := #[.agg T, .slice A k c, .pointer (some ⟨w.heap.size, 0, Option.none⟩), undef, .slice Option.none 0 0, .pointer (some ⟨w.heap.size + 1, 0, Option.none⟩), x.val, undef, .slice A k c, .func (.func 25) #[] #[.pointer (some ⟨w.heap.size + 2, 0, Option.none⟩)], x.val, undef, undef, undef, undef, undef, undef, undef, undef, undef, undef, undef, undef, undef, undef, undef, undef, undef, undef, undef], defers := [] }) ?assign ?body ?done ?stop
  case assign =>
    intro l x W K hK
    gi_wp2
    exact hK
  case body =>
    rintro l pre x W ⟨⟨v, hv, hown⟩, hT, hB⟩ hlt
    have hol := outs_length t pre
    have hsn := outs_snoc t pre x
    obtain ⟨⟨B, m, d, ls⟩, hx1, hx2⟩ := x
    simp only at hx1 hx2
    simp only [SubOf.val]
    simp only [SubOf.list] at hsn
    have Hsn := Lib.hid hsn
    clear hsn
    have hmu : U64 m := by unfold U64; omega
    gi_wp2_with fail
    refine ⟨trivial, ?_⟩
    refine (CallsIn.inRound l (callsIn_wide.2 (put_any Option.none 0 0 [] m W hmu (holds_nil W) (by omega)))).mono ?_
    rintro e w1 ⟨vn, rfl, hN, hb1⟩
    rw [List.nil_append] at hN
    have hNlow : ∀ g, vn.ownBlock = some g → W.heap.size ≤ g ∧ g < w1.heap.size := fun g hg => hN.2.lt g hg
    obtain ⟨An, cn, rfl, hNh⟩ := hN.holds
    have hv1 := box_later hv hb1
    have hc1 := hv1.cell
    have hown1 := hown.kept hb1 (Nat.le_refl _)
    have hWs := hB.size
    have hws := hb1.size
    have hBx := hv.lt
    have hm2 := (Chunk.enc_len256 hx2).2
    gi_wp2_with (first
      | (gi_at_builtin; refine wpListIn_append_bytes rfl (.tmp 15) (.tmp 16) 24 rfl w.heap.size 5 i0 Try.underlying24 hi hz0 hz1 hz2 v (outs t pre) rfl hown1 An _ cn (enc m) rfl hNh (by omega) (by omega) ?_; intro v2 w2 hown2 hg2 hat2; obtain ⟨L2, hL2⟩ : ∃ L2, L2 = outs t pre ++ enc m := ⟨_, rfl⟩; have hl2 : L2.length ≤ (outs t pre).length + 2 := (by rw [hL2, List.length_append]; omega); rw [← hL2] at hown2; have HL2 := Lib.hid hL2; clear hL2; obtain ⟨A2, c2, rfl, _⟩ := hown2.holds; obtain ⟨hv2, hv3, hown3, hko3, hkp3⟩ := boxed_append (Bs := [w.heap.size + 1]) hv1 (by decide) hown1 hown2 hg2 (by omega) (by omega) (by simp); have hc2 := hv2.cell; have hf2 := hv2.frozen; have hc3 := hv3.cell)
      | (gi_at_builtin; refine wpListIn_append_bytes rfl (.tmp 18) (.tmp 19) 24 rfl w.heap.size 5 i0 Try.underlying24 hi hz0 hz1 hz2 (.slice A2 L2.length c2) L2 rfl hown3 B m d ls rfl (hx1.later (hB.trans ((hb1.mono hWs).trans hkp3.below))) (by omega) (by have := hkp3.below.size; omega) ?_; intro v4 w4 hown4 hg4 hat4; obtain ⟨L4, hL4⟩ : ∃ L4, L4 = L2 ++ ls := ⟨_, rfl⟩; have hl4 : L4.length ≤ L2.length + 256 := (by rw [hL4, List.length_append, hx1.len]; omega); rw [← hL4] at hown4; have HL4 := Lib.hid hL4; clear hL4; obtain ⟨A4, c4, rfl, _⟩ := hown4.holds; obtain ⟨hv4, hv5, hown5, hko5, hkp5⟩ := boxed_append (Bs := [w.heap.size + 1]) hv3 (by decide) hown3 hown4 hg4 (by have := hkp3.below.size; omega) (by omega) (by simp); have hc4 := hv4.cell; have hf4 := hv4.frozen; have hc5 := hv5.cell))
    have hN3 := holds_grown (holds_grown hNh hg2 (fun b off e1 e2 => by
      have h1 := (hown.2.lt b e2).2
      have h2 := (owns_at hN b off e1).1
      omega)) (grownBy_setCell' w2 (w.heap.size + 1) (.slice A2 L2.length c2)) (fun b off e1 e2 => by
      have h2 := (owns_at hN b off e1).1
      injection e2 with e2
      omega)
    have hN5 := holds_grown (holds_grown hN3 hg4 (fun b off e1 e2 => by
      have h2 := owns_at hN b off e1
      rcases hat2 with h | h
      · rw [h] at e2
        have h1 := (hown.2.lt b e2).2
        omega
      · rw [h] at e2
        injection e2 with e2
        omega)) (grownBy_setCell' w4 (w.heap.size + 1) (.slice A4 L4.length c4)) (fun b off e1 e2 => by
      have h2 := (owns_at hN b off e1).1
      injection e2 with e2
      omega)
    have hko : KeepsOthers W (w4.setCell ⟨w.heap.size + 1, 0, Option.none⟩ (.slice A4 L4.length c4)) := ((others_of_below hb1).trans hko3).trans hko5
    have hkp : Kept w.heap.size 5 [w.heap.size + 1] W (w4.setCell ⟨w.heap.size + 1, 0, Option.none⟩ (.slice A4 L4.length c4)) := ((kept_of_below hb1 hWs).trans hkp3).trans hkp5
    obtain ⟨W5, hW5⟩ : ∃ W5, w4.setCell ⟨w.heap.size + 1, 0, Option.none⟩ (.slice A4 L4.length c4) = W5 := ⟨_, rfl⟩
    rw [hW5] at hN5 hko hkp hv5 hown5 ⊢
    clear hc1 hc2 hc3 hc4 hc5 hf2 hf4 hkp5 hko5 hkp3 hko3 hv4 hv3 hv2 hv1 hown1 hown2 hown3 hown4 hg2 hg4 hat2 hat4 hN3 hW5
    have hT5 := hkp.other _ _ _ _ (by simp) (by decide) hT
    have hx5 := hx1.later (hB.trans hkp.below)
    have hs5 := hkp.below.size
    refine wpIn_region_tail (by rintro ⟨a, w, h⟩; exact h) (by kernel_rfl) 7 8 (by decide) (by kernel_rfl) (RInv 30 [21, 22, 23, 24, 25, 26, 27] _ (pkF t (.slice A4 L4.length c4) (.slice An (enc m).length cn) (.slice B m d) (enc m) ls) W5 NoMore) (by kernel_rfl) (by kernel_rfl) (RInv.start rfl trivial (Below.refl _ _).drew) ?_ ?_
    · intro i hi' D a w1 hI hcl hnd hpre
      have hcase : i = 0 ∨ i = 1 ∨ i = 2 ∨ i = 3 ∨ i = 4 ∨ i = 5 ∨ i = 6 := by omega
      have hF := hI.fact
      rcases hcase with rfl | rfl | rfl | rfl | rfl | rfl | rfl
      · exact wpOp_load rfl (wanted_free rfl) _ _ rfl _ _ (hI.same 5 (by decide)) (run_loadBox w1 _ _ _ _ (box_later hv5 hI.below).cell) (hI.add (by decide) pkF_later (by decide) (Below.refl _ _) rfl)
      · exact wpOp_load rfl (wanted_free rfl) _ _ rfl _ _ (hI.same 2 (by decide)) (run_loadTab w1 w.heap.size t (HT.out w1 ((hI.below.block _ (Array.getElem?_eq_some_iff.1 hT5).1).trans hT5))) (hI.add (by decide) pkF_later (by decide) (Below.refl _ _) rfl)
      · exact wpOp_move rfl (wanted_free rfl) _ rfl _ (hI.same 7 (by decide)) (hI.add (by decide) pkF_later (by decide) (Below.refl _ _) rfl)
      · exact wpOp_move rfl (wanted_free rfl) _ rfl _ (hI.same 6 (by decide)) (hI.add (by decide) pkF_later (by decide) (Below.refl _ _) rfl)
      · have h2 : a.eval (.tmp 23) = _ := hF 2 (hpre 2 (by kernel_rfl))
        have h3 : a.eval (.tmp 24) = _ := hF 3 (hpre 3 (by kernel_rfl))
        exact wpOp_build rfl (wanted_free rfl) _ _ _ rfl #[(0, .slice An (enc m).length cn), (1, .slice B m d)] (by simp [h2, h3]) _ (run_pair w1 _ _ _ _ _ _) (hI.add (by decide) pkF_later (by decide) ((Below.refl _ _).alloc (Nat.le_refl _) _) (pp_pair w1 (hN5.later hI.below) (hx5.later hI.below)))
      · obtain ⟨P, d, hv, hPP⟩ := hF 4 (hpre 4 (by kernel_rfl))
        refine wpOp_call2 rfl (wanted_free rfl) 18 _ _ _ rfl _ _ (hF 1 (hpre 1 (by kernel_rfl))) hv (enters_sum _ _) (sum_said t ht P 2 d _ w1 hPP (by omega)) (fun e w' h => ?_)
        exact ⟨_, h.1, hI.add (by decide) pkF_later (by decide) h.2 rfl⟩
      · refine wpOp_call2 rfl (wanted_free rfl) 17 _ _ _ rfl _ _ rfl (hF 5 (hpre 5 (by kernel_rfl))) (enters_put32 _ _) (put_said _ _ _ [] _ w1 (by omega) (holds_nil w1) (by simp)) (fun e w' h => ?_)
        obtain ⟨v, rfl, ho, hb⟩ := h
        refine ⟨_, rfl, hI.add (by decide) pkF_later (by decide) hb ?_⟩
        have := ho.holds
        rw [List.nil_append, regs_two] at this
        exact this
    · intro D a w1 hI hall
      have hB1 := hI.below
      have hF0 : a.eval (.tmp 21) = .slice A4 L4.length c4 := hI.fact 0 (hall 0 (by decide))
      obtain ⟨A6, c6, hv6, hH6⟩ := hI.fact 6 (hall 6 (by decide))
      have h5 : a.eval (.tmp 5) = .pointer (some ⟨w.heap.size + 1, 0, Option.none⟩) := hI.same 5 (by decide)
      have hsize := hI.size
      have hv6' : a.eval (.tmp 27) = .slice A6 (sum4 t (enc m ++ ls)).length c6 := hv6
      have hlen4 : (sum4 t (enc m ++ ls)).length = 4 := rfl
      clear hI hall hv6
      have hown1 := hown5.kept hB1 (Nat.le_refl _)
      have hv1 := box_later hv5 hB1
      have hs1 := hB1.size
      show wpOps _ _ _ [7, 8] a w1
      rw [wpOps_cons]
      refine wpOp_append rfl (wanted_free rfl) (.tmp 21) (.tmp 27) 24 rfl w.heap.size 5 i0 Try.underlying24 hi hz0 hz1 hz2 _ L4 hF0 hown1 A6 _ c6 _ hv6' hH6 (by omega) (by omega) ?_
      intro v7 w7 hown7 hg7 hat7
      obtain ⟨A7, c7, rfl, _⟩ := hown7.holds
      obtain ⟨hv7, hv8, hown8, hko8, hkp8⟩ := boxed_append (Bs := [w.heap.size + 1]) hv1 (by decide) hown1 hown7 hg7 (by omega) (by omega) (by simp)
      rw [wpOps_cons]
      refine wpOp_store rfl (wanted_free rfl) _ _ _ rfl _ _ ((eval_put_other _ _ (by decide)).trans h5) (eval_put_same _ _ _ (by rw [hsize]; decide)) (run_storeBox w7 _ _ _ _ _ hv7.cell hv7.frozen) ?_
      have hbW : Below w.heap.size W (w7.setCell ⟨w.heap.size + 1, 0, Option.none⟩ (.slice A7 (L4 ++ sum4 t (enc m ++ ls)).length c7)) := hkp.below.trans ((hB1.mono (by omega)).trans hkp8.below)
      have hkW : Kept w.heap.size 5 [w.heap.size + 1] W (w7.setCell ⟨w.heap.size + 1, 0, Option.none⟩ (.slice A7 (L4 ++ sum4 t (enc m ++ ls)).length c7)) := (hkp.trans (kept_of_below hB1 (by omega))).trans hkp8
      have hoW := (hko.trans (others_of_below hB1)).trans hko8
      refine ⟨hoW.from _, hkW, ⟨_, hv8, ?_⟩, hkW.other _ _ _ _ (by simp) (by decide) hT, hB.trans hbW⟩
      rw [Hsn.out]
      have e : outs t pre ++ Chunk.piece (sum4 t) ls = L4 ++ sum4 t (enc m ++ ls) := by
        rw [HL4.out, HL2.out, Chunk.piece, hx1.len]
        simp
      rw [e]
      exact hown8
  case done =>
    rintro D ys W hD hys ⟨⟨v, hv, hown⟩, hT, hB⟩ hK
    have hc := hv.cell
    gi_wp2
    refine ⟨by simp, .inl ⟨_, _, rfl, run_takeDeferred hK, ?_⟩⟩
    have e : outs t ys = Chunk.pack (sum4 t) s := by
      unfold outs Chunk.pack
      rw [← hys, List.map_map]
      rfl
    rw [e] at hown
    exact ⟨_, results_tmp rfl _ _ _, v, rfl, hown.putObj _ hK rfl, hB.trans (belowK_b (w := w) (Nat.le_refl _) W D _ _ (by omega) hK rfl rfl)⟩
  case stop =>
    rintro D c pre W _ _ h _
    exact h.elim
end Go.Proofs.Ytaabhnjikggomaa
