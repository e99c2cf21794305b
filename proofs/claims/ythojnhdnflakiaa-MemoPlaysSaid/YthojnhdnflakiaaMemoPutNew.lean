/-
  memo's Put where no entry has the key. Conditions: those that each theorem states.
-/
import Derived.Test.YthojnhdnflakiaaMemoPut
namespace Go.Proofs.Ythojnhdnflakiaa
open Go.RowKit Go.Lib Go.Shelf

set_option maxHeartbeats 16000000 in
set_option maxRecDepth 100000 in
theorem putRoom_any (b most : Nat) (v : Value) (l : List Ent) (x : Ent) (now : Int) (w : World) (h : PM w b most v l) (hm : 1 ≤ most) (hm2 : most ≤ 1000) (hsp : spot l x = l.length) (hlt : l.length < most) :
    Calls Try.prog 13 #[.pointer (some ⟨b, 0, Option.none⟩), evalue x, .int .i64 now] w fun e w' => e = .returned (.tuple #[]) ∧ ∃ v', PM w' b most v' (put most l x now) ∧ Moved w v v' ∧ Turned2 w w' b v := by
  obtain ⟨i0, hi0, hi1, hi2, hi3⟩ := info_parts Try.infoE
  obtain ⟨A, c, rfl, hE⟩ := h.own.eds
  have hf : firstOf (fun y => sameKey y x) l = -1 := by unfold firstOf; exact if_neg (by unfold spot at hsp; omega)
  have hM0 := Lib.hid h
  have hb0 := Lib.hid (below_box2 w (.cells (ecell x).toArray 32) (.cells #[.int .i64 now] 3))
  have hzx := Lib.hid (six_old w x 32 (.cells #[.int .i64 now] 3))
  have hn0 := Lib.hid (box_at2 w x now)
  have hpl := Lib.hid (place_any b most (.slice A l.length c) l x _ (h.later hb0.out))
  have hltb := Lib.hid h.lt
  have hown := Lib.hid (fun k (hk : (Value.slice A l.length c).ownBlock = some k) => (World.ownsRow.lt h.own k hk).2)
  rw [hf] at hpl
  clear hf hE
  have hmz : ((most : Int) == 0) = false := beq_eq_false_iff_ne.2 (by omega)
  have hput := Lib.hid (show put most l x now = l ++ [x] by
    have h1 : ¬ spot l x < l.length := by omega
    have h2 : ¬ most ≤ l.length := by omega
    unfold put room
    simp only [if_neg h1, if_neg h2])
  have hc1 := Lib.hid (fun v W (hM : PM W b most v l) => (show Calls Try.prog 24 #[.pointer (some ⟨b, 0, Option.none⟩)] W fun e w' => e = .returned (.bool false) ∧ Below W.heap.size W w' by
    have := full_any b most v l W hM
    rwa [decide_eq_false (by omega)] at this))
  have hlf := Lib.hid (show l.length ≤ 1000 by omega)
  obtain ⟨x1, x2, x3, x4, x5, x6⟩ := x
  have m0 : ((w.alloc (.cells #[.string x1, .string x2, .bool x3, .string x4, .string x5, .int .i64 x6] 32)).alloc (.cells #[.int .i64 now] 3)).cell? ⟨b, 0, Option.none⟩ = some (.int .i64 (most : Int)) := cell_later hb0.out h.cells.1
  have hzz : Hid (Six ((w.alloc (.cells #[.string x1, .string x2, .bool x3, .string x4, .string x5, .int .i64 x6] 32)).alloc (.cells #[.int .i64 now] 3)) w.heap.size ⟨x1, x2, x3, x4, x5, x6⟩) := hzx
  have hnn : Hid (((w.alloc (.cells #[.string x1, .string x2, .bool x3, .string x4, .string x5, .int .i64 x6] 32)).alloc (.cells #[.int .i64 now] 3)).cell? ⟨w.heap.size + 1, 0, Option.none⟩ = some (.int .i64 now)) := hn0
  have hsz0 : Hid (w.heap.size < ((w.alloc (.cells #[.string x1, .string x2, .bool x3, .string x4, .string x5, .int .i64 x6] 32)).alloc (.cells #[.int .i64 now] 3)).heap.size) := Lib.hid (by simp; omega)
  obtain ⟨z1, z2, z3, z4, z5, z6⟩ := hzz.out
  unfold evalue at hpl ⊢
  simp only at z1 z2 z3 z4 z5 z6 hpl ⊢
  obtain ⟨nf, hnf⟩ : ∃ nf, nf = l.length := ⟨_, rfl⟩
  rw [← hnf] at hM0 hown ⊢
  clear h hsp hlt hnf
  go_enter Try.func13, Try.ntmps13
  go_wp2_with (first
    | (go_at_call 23; refine hpl.out.mono ?_; rintro e w1 ⟨rfl, hb1⟩; have hbw := Lib.hid (below_then hb0.out hb1); have hM1 := Lib.hid (hM0.out.later hbw.out); have y1 := cell_later hb1 z1; have y2 := cell_later hb1 z2; have y3 := cell_later hb1 z3; have y4 := cell_later hb1 z4; have y5 := cell_later hb1 z5; have y6 := cell_later hb1 z6)
    | (go_at_call 24; (with_reducible refine (hc1.out _ _ hM2.out).mono ?_); rintro e w3 ⟨rfl, hb3⟩; have hPf := Lib.hid (hM2.out.later hb3); have hTf := Lib.hid ((Turned2.refl w b (.slice A nf c)).behind (below_then hB2.out hb3)); have hVf := Lib.hid (show Moved w (.slice A nf c) (.slice A nf c) from .inl rfl); have hzf := Lib.hid (hz2.out.later hb3))
    | (go_at_call 24; (with_reducible refine (hc1.out _ _ hM1.out).mono ?_); rintro e w2 ⟨rfl, hb2⟩; have hs2 := Lib.hid (Nat.lt_of_lt_of_le hsz0.out (below_then hb1 hb2).size); have hz2 := Lib.hid (hzz.out.later (below_then hb1 hb2)); have hn2 := Lib.hid (cell_later (below_then hb1 hb2) hnn.out); have hB2 := Lib.hid (below_then hbw.out hb2); have hM2 := Lib.hid (hM0.out.later hB2.out)))
  refine wp_region_tail 8 12 (by decide) (by kernel_rfl) (RInv 55 [45, 46, 47, 48, 49, 50, 51, 52] _ (paF b A nf c ⟨x1, x2, x3, x4, x5, x6⟩) { w3 with heap := #[] } (PX w3 b (.slice A nf c) l ⟨x1, x2, x3, x4, x5, x6⟩)) (by kernel_rfl) (by kernel_rfl) (RInv.start rfl ⟨fun _ => (Below.refl _ _).drew, fun h => h.elim, fun h => h.elim⟩ ⟨rfl, rfl, rfl, Nat.zero_le _, fun k hk => absurd hk (Nat.not_lt_zero _)⟩) ?_ ?_
  · intro i hi D a wy hI hcl hnd hpre
    have hi' : i < 8 := hi
    have hcase : i = 0 ∨ i = 1 ∨ i = 2 ∨ i = 3 ∨ i = 4 ∨ i = 5 ∨ i = 6 ∨ i = 7 := by omega
    have hF := hI.fact
    rcases hcase with rfl | rfl | rfl | rfl | rfl | rfl | rfl | rfl
    · exact wpOp_move rfl (wanted_free rfl) _ rfl _ (hI.same 0 (by decide)) (hI.put (by decide) (by decide) (fun j _ _ h => paF_any h) rfl (hI.more.pure _ (by decide) (by decide) (by decide) (by decide)) hI.below)
    · exact wpOp_move rfl (wanted_free rfl) _ rfl _ (hI.same 0 (by decide)) (hI.put (by decide) (by decide) (fun j _ _ h => paF_any h) rfl (hI.more.pure _ (by decide) (by decide) (by decide) (by decide)) hI.below)
    · exact wpOp_nil rfl (wanted_free rfl) _ rfl _ (hF 1 (hpre 1 (by kernel_rfl))) (hI.put (by decide) (by decide) (fun j _ _ h => paF_any h) rfl (hI.more.pure _ (by decide) (by decide) (by decide) (by decide)) hI.below)
    · exact wpOp_field rfl (wanted_free rfl) _ _ _ rfl _ _ (hF 2 (hpre 2 (by kernel_rfl))) (run_fieldP wy b) (hI.put (by decide) (by decide) (fun j _ _ h => paF_any h) rfl (hI.more.pure _ (by decide) (by decide) (by decide) (by decide)) hI.below)
    · exact wpOp_load rfl (wanted_free rfl) _ _ rfl _ _ (hF 3 (hpre 3 (by kernel_rfl))) (run_loadM wy b 1 _ _ _ (hPf.out.later (hI.more.calm (fun h7 => hnd (hcl 7 h7 4 (by kernel_rfl))))).cells.2) (hI.put (by decide) (by decide) (fun j _ _ h => paF_any h) rfl (hI.more.pure _ (by decide) (by decide) (by decide) (by decide)) hI.below)
    · exact wpOp_load rfl (wanted_free rfl) _ _ rfl _ _ (hI.same 4 (by decide)) (run_loadS wy w.heap.size ⟨x1, x2, x3, x4, x5, x6⟩ (hzf.out.later (hI.more.calm (fun h7 => hnd (hcl 6 (hcl 7 h7 6 (by kernel_rfl)) 5 (by kernel_rfl)))))) (hI.put (by decide) (by decide) (fun j _ _ h => paF_any h) rfl (hI.more.pure _ (by decide) (by decide) (by decide) (by decide)) hI.below)
    · have hcalm := hI.more.calm (fun h7 => hnd (hcl 7 h7 6 (by kernel_rfl)))
      refine wpOp_build rfl (wanted_free rfl) _ _ _ rfl #[(0, evalue ⟨x1, x2, x3, x4, x5, x6⟩)] ?_ _ (run_buildE wy ⟨x1, x2, x3, x4, x5, x6⟩) (hI.put (by decide) (by decide) (fun j _ _ h => paF_any h) trivial ⟨fun _ => hcalm.alloc hcalm.size _, fun _ _ => ⟨wy.heap.size, eval_put_same _ _ _ (by rw [hI.size]; decide), eds_new wy _ [⟨x1, x2, x3, x4, x5, x6⟩] rfl (tiny (by simp))⟩, fun hd => absurd (hcl 7 (hd.resolve_right (by decide)) 6 (by kernel_rfl)) hnd⟩ (hI.below.alloc (Nat.zero_le _) _))
      have e5 : a.eval (.tmp 50) = evalue ⟨x1, x2, x3, x4, x5, x6⟩ := hF 5 (hpre 5 (by kernel_rfl))
      simp [e5]
    · have hcalm := hI.more.calm hnd
      obtain ⟨gx, e51, hEx⟩ := hI.more.one (hpre 6 (by kernel_rfl)) hnd
      have hOy : OwnsE wy (b + 1) (.slice A nf c) l := hPf.out.own.kept hcalm (Nat.le_refl _)
      obtain ⟨v9, w9, hrun, hO9, hg9, hm9⟩ := run_append_eds (P := Try.prog) (b + 1) 39 39 i0 Try.underlying39 hi0 hi1 hi2 hi3 hOy hEx (by have := hlf.out; omega) (by have := hPf.out.lt; have := hcalm.size; omega)
      exact wpOp_appendR rfl (wanted_free rfl) _ _ _ rfl _ _ _ (hF 4 (hpre 4 (by kernel_rfl))) e51 hrun (hI.put (by decide) (by decide) (fun j _ _ h => paF_any h) trivial ⟨fun hn => absurd (.inr rfl) hn, fun _ hn => absurd (.inr rfl) hn, fun _ => ⟨v9, eval_put_same _ _ _ (by rw [hI.size]; decide), hO9, grown_then (below_grows hcalm _) hg9, hm9.elim (fun e => .inl e) (fun e => .inr (fun k hk => by rw [e] at hk; injection hk with hk; have := hcalm.size; omega))⟩⟩ (hI.below.grown hg9 (Nat.zero_le _) (fun k _ => Nat.zero_le _)))
  · intro D a wy hI hall
    obtain ⟨v9, e52, hO9, hG9, hV9⟩ := hI.more.full (hall 7 (by decide))
    have hd : a.defers = [] := hI.defs
    have e45 : a.eval (.tmp 45) = .pointer (some ⟨b, 0, Option.none⟩) := hI.fact 0 (hall 0 (by decide))
    have hsz := hI.size
    clear hI hall
    obtain ⟨A9, c9, rfl, hE9⟩ := hO9.eds
    obtain ⟨k1, kf⟩ := hPf.out.grown hG9
    have hfin := hPf.out.put hG9 hO9
    clear hO9 hE9
    generalize (l ++ [(⟨x1, x2, x3, x4, x5, x6⟩ : Ent)]).length = n9 at hfin e52 hV9 k1 kf
    show wpOps _ _ _ [8, 9, 10] a wy
    rw [wpOps_cons]
    refine wpOp_nil rfl (wanted_free rfl) _ rfl _ e45 ?_
    rw [wpOps_cons]
    refine wpOp_field rfl (wanted_free rfl) _ _ _ rfl _ _ (eval_put_same a 53 _ (by rw [hsz]; decide)) (run_fieldP _ b) ?_
    rw [wpOps_cons]
    refine wpOp_store rfl (wanted_free rfl) _ _ _ rfl _ _ (eval_put_same _ 54 _ (by show 54 < (a.put (some 53) _).tmps.size; rw [size_put, hsz]; decide)) ((eval_put_other _ _ (by decide)).trans ((eval_put_other _ _ (by decide)).trans e52)) (run_storeP wy b _ _ _ _ k1 kf) ?_
    rw [wpOps]
    go_wp2
    refine bodyPost_end (results_none rfl _ _ _) (by first | exact hd | rfl) ⟨rfl, _, ?_, hVf.out.then hTf.out.size hV9, hTf.out.then hVf.out hfin.2⟩
    rw [hput.out]
    exact hfin.1

set_option maxHeartbeats 16000000 in
set_option maxRecDepth 100000 in
theorem putFullA_any (b most : Nat) (v : Value) (l : List Ent) (x : Ent) (now : Int) (w : World) (h : PM w b most v l) (hm : 1 ≤ most) (hm2 : most ≤ 1000) (hsp : spot l x = l.length) (heq : l.length = most) (hq : (live l now).length = most) :
    Calls Try.prog 13 #[.pointer (some ⟨b, 0, Option.none⟩), evalue x, .int .i64 now] w fun e w' => e = .returned (.tuple #[]) ∧ ∃ v', PM w' b most v' (put most l x now) ∧ Moved w v v' ∧ Turned2 w w' b v := by
  obtain ⟨i0, hi0, hi1, hi2, hi3⟩ := info_parts Try.infoE
  obtain ⟨A, c, rfl, hE⟩ := h.own.eds
  have hf : firstOf (fun y => sameKey y x) l = -1 := by unfold firstOf; exact if_neg (by unfold spot at hsp; omega)
  have hM0 := Lib.hid h
  have hb0 := Lib.hid (below_box2 w (.cells (ecell x).toArray 32) (.cells #[.int .i64 now] 3))
  have hzx := Lib.hid (six_old w x 32 (.cells #[.int .i64 now] 3))
  have hn0 := Lib.hid (box_at2 w x now)
  have hpl := Lib.hid (place_any b most (.slice A l.length c) l x _ (h.later hb0.out))
  have hltb := Lib.hid h.lt
  have hown := Lib.hid (fun k (hk : (Value.slice A l.length c).ownBlock = some k) => (World.ownsRow.lt h.own k hk).2)
  rw [hf] at hpl
  clear hf hE
  have hmz : ((most : Int) == 0) = false := beq_eq_false_iff_ne.2 (by omega)
  obtain ⟨l3, hl3⟩ : ∃ l3, l3 = live l now := ⟨_, rfl⟩
  have hle : (live l now).length ≤ most := heq ▸ List.length_filter_le _ _
  rw [← hl3] at hq hle
  obtain ⟨L5, hL5⟩ : ∃ L5, L5 = l3.drop 1 := ⟨_, rfl⟩
  have hput := Lib.hid (show put most l x now = L5 ++ [x] by
    have h1 : ¬ spot l x < l.length := by omega
    have h2 : most ≤ l.length := by omega
    have h3 : most ≤ l3.length := by omega
    rw [hL5]
    unfold put room
    simp only [if_neg h1, if_pos h2, ← hl3, if_pos h3])
  have hlf := Lib.hid (show L5.length ≤ 1000 by rw [hL5, List.length_drop]; omega)
  have hpos := Lib.hid (show 0 < l3.length by omega)
  have hL5' := Lib.hid hL5
  have hc1 := Lib.hid (fun v W (hM : PM W b most v l) => (show Calls Try.prog 24 #[.pointer (some ⟨b, 0, Option.none⟩)] W fun e w' => e = .returned (.bool true) ∧ Below W.heap.size W w' by
    have := full_any b most v l W hM
    rwa [decide_eq_true heq] at this))
  have hc2 := Lib.hid (fun v W (hM : PM W b most v l3) => (show Calls Try.prog 24 #[.pointer (some ⟨b, 0, Option.none⟩)] W fun e w' => e = .returned (.bool true) ∧ Below W.heap.size W w' by
    have := full_any b most v l3 W hM
    rwa [decide_eq_true hq] at this))
  have hcr := Lib.hid (fun v W (hM : PM W b most v l) (hv : ∀ k, v.ownBlock = some k → k < w.heap.size) (hn : W.cell? ⟨w.heap.size + 1, 0, Option.none⟩ = some (.int .i64 now)) => (show Calls Try.prog 17 #[.pointer (some ⟨b, 0, Option.none⟩), .func (.func 25) #[] #[.pointer (some ⟨w.heap.size + 1, 0, Option.none⟩)]] W fun e w' =>
      e = .returned (.tuple #[]) ∧ ∃ v', PM w' b most v' l3 ∧ v'.ownBlock = v.ownBlock ∧ Turned2 W w' b v by
    have := remove_any (fun y => !decide (now < y.til)) 25 #[.pointer (some ⟨w.heap.size + 1, 0, Option.none⟩)] (fun _ _ => by kernel_rfl) b most v l W hM (fun W' y _ hg => put1_any y now (w.heap.size + 1) W' (box_kept2 hn hg (fun e => by have := hv _ e; omega)))
    simp only [Bool.not_not] at this
    rw [hl3]
    exact this))
  obtain ⟨x1, x2, x3, x4, x5, x6⟩ := x
  have m0 : ((w.alloc (.cells #[.string x1, .string x2, .bool x3, .string x4, .string x5, .int .i64 x6] 32)).alloc (.cells #[.int .i64 now] 3)).cell? ⟨b, 0, Option.none⟩ = some (.int .i64 (most : Int)) := cell_later hb0.out h.cells.1
  have hzz : Hid (Six ((w.alloc (.cells #[.string x1, .string x2, .bool x3, .string x4, .string x5, .int .i64 x6] 32)).alloc (.cells #[.int .i64 now] 3)) w.heap.size ⟨x1, x2, x3, x4, x5, x6⟩) := hzx
  have hnn : Hid (((w.alloc (.cells #[.string x1, .string x2, .bool x3, .string x4, .string x5, .int .i64 x6] 32)).alloc (.cells #[.int .i64 now] 3)).cell? ⟨w.heap.size + 1, 0, Option.none⟩ = some (.int .i64 now)) := hn0
  have hsz0 : Hid (w.heap.size < ((w.alloc (.cells #[.string x1, .string x2, .bool x3, .string x4, .string x5, .int .i64 x6] 32)).alloc (.cells #[.int .i64 now] 3)).heap.size) := Lib.hid (by simp; omega)
  obtain ⟨z1, z2, z3, z4, z5, z6⟩ := hzz.out
  unfold evalue at hpl ⊢
  simp only at z1 z2 z3 z4 z5 z6 hpl ⊢
  obtain ⟨nf, hnf⟩ : ∃ nf, nf = l.length := ⟨_, rfl⟩
  rw [← hnf] at hM0 hown ⊢
  obtain ⟨n3, hn3⟩ : ∃ n3, n3 = l3.length := ⟨_, rfl⟩
  have hn3' := Lib.hid hn3
  clear h hsp heq hq hle hl3 hnf hn3 hL5
  go_enter Try.func13, Try.ntmps13
  go_wp2_with (first
    | (go_at_call 23; refine hpl.out.mono ?_; rintro e w1 ⟨rfl, hb1⟩; have hbw := Lib.hid (below_then hb0.out hb1); have hM1 := Lib.hid (hM0.out.later hbw.out); have y1 := cell_later hb1 z1; have y2 := cell_later hb1 z2; have y3 := cell_later hb1 z3; have y4 := cell_later hb1 z4; have y5 := cell_later hb1 z5; have y6 := cell_later hb1 z6)
    | (go_at_call 24; (with_reducible refine (hc1.out _ _ hM1.out).mono ?_); rintro e w2 ⟨rfl, hb2⟩; have hs2 := Lib.hid (Nat.lt_of_lt_of_le hsz0.out (below_then hb1 hb2).size); have hz2 := Lib.hid (hzz.out.later (below_then hb1 hb2)); have hn2 := Lib.hid (cell_later (below_then hb1 hb2) hnn.out); have hB2 := Lib.hid (below_then hbw.out hb2); have hM2 := Lib.hid (hM0.out.later hB2.out))
    | (go_at_call 17; (with_reducible refine (hcr.out _ _ hM2.out hown.out hn2.out).mono ?_); rintro e w3 ⟨rfl, v3, hP3, hV3, hT3⟩; obtain ⟨A3, c3, rfl, hE3⟩ := hP3.own.eds; rw [← hn3'.out] at hP3 hV3; have hM3 := Lib.hid hP3; have hV3' := Lib.hid hV3; have hT3' := Lib.hid hT3; have hz3 := Lib.hid (hz2.out.block (hT3.block _ hs2.out (fun e => by have := hltb.out; omega) (fun e => by have := hown.out _ e; omega))); clear hP3 hV3 hT3 hE3)
    | (go_at_call 24; (with_reducible refine (hc2.out _ _ hM3.out).mono ?_); rintro e w4 ⟨rfl, hb4⟩; have hM4 := Lib.hid (hM3.out.later hb4); have m4 := hM4.out.cells.2; have hz4 := Lib.hid (hz3.out.later hb4); have hT4 := Lib.hid ((((Turned2.refl w b (.slice A nf c)).behind hB2.out).then (.inl rfl) hT3'.out).behind hb4))
    | (go_at_call 26; refine (delete01_any (b + 1) (.slice A3 n3 c3) l3 w4 hM4.out.own hpos.out).mono ?_; rintro e w5 ⟨v5, rfl, hO5, hG5, hV5⟩; rw [← hL5'.out] at hO5; obtain ⟨A5, c5, rfl, hE5⟩ := hO5.eds; obtain ⟨m5, f5⟩ := hM4.out.grown hG5; have hP5 := Lib.hid (hM4.out.put hG5 hO5); have hV5' := Lib.hid hV5; clear hO5 hG5 hV5 hE5))
  have hPf := Lib.hid hP5.out.1
  have hTf := Lib.hid (hT4.out.then (.inl hV3'.out) hP5.out.2)
  have hVf := Lib.hid (show Moved w (.slice A nf c) (.slice A5 L5.length c5) from .inl (hV5'.out.trans hV3'.out))
  have hzf := Lib.hid (hz4.out.block (hP5.out.2.block _ (Nat.lt_of_lt_of_le hs2.out (Nat.le_trans hT3'.out.size hb4.size)) (fun e => by have := hltb.out; omega) (fun e => by rw [hV3'.out] at e; have := hown.out _ e; omega)))
  clear hP5 m4 m5 f5
  generalize L5.length = n5 at hPf hTf hVf hzf ⊢
  generalize w5.setCell ⟨b, 1, Option.none⟩ (.slice A5 n5 c5) = wf at hPf hTf hzf ⊢
  refine wp_region_tail 8 12 (by decide) (by kernel_rfl) (RInv 55 [45, 46, 47, 48, 49, 50, 51, 52] _ (paF b A5 n5 c5 ⟨x1, x2, x3, x4, x5, x6⟩) { wf with heap := #[] } (PX wf b (.slice A5 n5 c5) L5 ⟨x1, x2, x3, x4, x5, x6⟩)) (by kernel_rfl) (by kernel_rfl) (RInv.start rfl ⟨fun _ => (Below.refl _ _).drew, fun h => h.elim, fun h => h.elim⟩ ⟨rfl, rfl, rfl, Nat.zero_le _, fun k hk => absurd hk (Nat.not_lt_zero _)⟩) ?_ ?_
  · intro i hi D a wy hI hcl hnd hpre
    have hi' : i < 8 := hi
    have hcase : i = 0 ∨ i = 1 ∨ i = 2 ∨ i = 3 ∨ i = 4 ∨ i = 5 ∨ i = 6 ∨ i = 7 := by omega
    have hF := hI.fact
    rcases hcase with rfl | rfl | rfl | rfl | rfl | rfl | rfl | rfl
    · exact wpOp_move rfl (wanted_free rfl) _ rfl _ (hI.same 0 (by decide)) (hI.put (by decide) (by decide) (fun j _ _ h => paF_any h) rfl (hI.more.pure _ (by decide) (by decide) (by decide) (by decide)) hI.below)
    · exact wpOp_move rfl (wanted_free rfl) _ rfl _ (hI.same 0 (by decide)) (hI.put (by decide) (by decide) (fun j _ _ h => paF_any h) rfl (hI.more.pure _ (by decide) (by decide) (by decide) (by decide)) hI.below)
    · exact wpOp_nil rfl (wanted_free rfl) _ rfl _ (hF 1 (hpre 1 (by kernel_rfl))) (hI.put (by decide) (by decide) (fun j _ _ h => paF_any h) rfl (hI.more.pure _ (by decide) (by decide) (by decide) (by decide)) hI.below)
    · exact wpOp_field rfl (wanted_free rfl) _ _ _ rfl _ _ (hF 2 (hpre 2 (by kernel_rfl))) (run_fieldP wy b) (hI.put (by decide) (by decide) (fun j _ _ h => paF_any h) rfl (hI.more.pure _ (by decide) (by decide) (by decide) (by decide)) hI.below)
    · exact wpOp_load rfl (wanted_free rfl) _ _ rfl _ _ (hF 3 (hpre 3 (by kernel_rfl))) (run_loadM wy b 1 _ _ _ (hPf.out.later (hI.more.calm (fun h7 => hnd (hcl 7 h7 4 (by kernel_rfl))))).cells.2) (hI.put (by decide) (by decide) (fun j _ _ h => paF_any h) rfl (hI.more.pure _ (by decide) (by decide) (by decide) (by decide)) hI.below)
    · exact wpOp_load rfl (wanted_free rfl) _ _ rfl _ _ (hI.same 4 (by decide)) (run_loadS wy w.heap.size ⟨x1, x2, x3, x4, x5, x6⟩ (hzf.out.later (hI.more.calm (fun h7 => hnd (hcl 6 (hcl 7 h7 6 (by kernel_rfl)) 5 (by kernel_rfl)))))) (hI.put (by decide) (by decide) (fun j _ _ h => paF_any h) rfl (hI.more.pure _ (by decide) (by decide) (by decide) (by decide)) hI.below)
    · have hcalm := hI.more.calm (fun h7 => hnd (hcl 7 h7 6 (by kernel_rfl)))
      refine wpOp_build rfl (wanted_free rfl) _ _ _ rfl #[(0, evalue ⟨x1, x2, x3, x4, x5, x6⟩)] ?_ _ (run_buildE wy ⟨x1, x2, x3, x4, x5, x6⟩) (hI.put (by decide) (by decide) (fun j _ _ h => paF_any h) trivial ⟨fun _ => hcalm.alloc hcalm.size _, fun _ _ => ⟨wy.heap.size, eval_put_same _ _ _ (by rw [hI.size]; decide), eds_new wy _ [⟨x1, x2, x3, x4, x5, x6⟩] rfl (tiny (by simp))⟩, fun hd => absurd (hcl 7 (hd.resolve_right (by decide)) 6 (by kernel_rfl)) hnd⟩ (hI.below.alloc (Nat.zero_le _) _))
      have e5 : a.eval (.tmp 50) = evalue ⟨x1, x2, x3, x4, x5, x6⟩ := hF 5 (hpre 5 (by kernel_rfl))
      simp [e5]
    · have hcalm := hI.more.calm hnd
      obtain ⟨gx, e51, hEx⟩ := hI.more.one (hpre 6 (by kernel_rfl)) hnd
      have hOy : OwnsE wy (b + 1) (.slice A5 n5 c5) L5 := hPf.out.own.kept hcalm (Nat.le_refl _)
      obtain ⟨v9, w9, hrun, hO9, hg9, hm9⟩ := run_append_eds (P := Try.prog) (b + 1) 39 39 i0 Try.underlying39 hi0 hi1 hi2 hi3 hOy hEx (by have := hlf.out; omega) (by have := hPf.out.lt; have := hcalm.size; omega)
      exact wpOp_appendR rfl (wanted_free rfl) _ _ _ rfl _ _ _ (hF 4 (hpre 4 (by kernel_rfl))) e51 hrun (hI.put (by decide) (by decide) (fun j _ _ h => paF_any h) trivial ⟨fun hn => absurd (.inr rfl) hn, fun _ hn => absurd (.inr rfl) hn, fun _ => ⟨v9, eval_put_same _ _ _ (by rw [hI.size]; decide), hO9, grown_then (below_grows hcalm _) hg9, hm9.elim (fun e => .inl e) (fun e => .inr (fun k hk => by rw [e] at hk; injection hk with hk; have := hcalm.size; omega))⟩⟩ (hI.below.grown hg9 (Nat.zero_le _) (fun k _ => Nat.zero_le _)))
  · intro D a wy hI hall
    obtain ⟨v9, e52, hO9, hG9, hV9⟩ := hI.more.full (hall 7 (by decide))
    have hd : a.defers = [] := hI.defs
    have e45 : a.eval (.tmp 45) = .pointer (some ⟨b, 0, Option.none⟩) := hI.fact 0 (hall 0 (by decide))
    have hsz := hI.size
    clear hI hall
    obtain ⟨A9, c9, rfl, hE9⟩ := hO9.eds
    obtain ⟨k1, kf⟩ := hPf.out.grown hG9
    have hfin := hPf.out.put hG9 hO9
    clear hO9 hE9
    generalize (L5 ++ [(⟨x1, x2, x3, x4, x5, x6⟩ : Ent)]).length = n9 at hfin e52 hV9 k1 kf
    show wpOps _ _ _ [8, 9, 10] a wy
    rw [wpOps_cons]
    refine wpOp_nil rfl (wanted_free rfl) _ rfl _ e45 ?_
    rw [wpOps_cons]
    refine wpOp_field rfl (wanted_free rfl) _ _ _ rfl _ _ (eval_put_same a 53 _ (by rw [hsz]; decide)) (run_fieldP _ b) ?_
    rw [wpOps_cons]
    refine wpOp_store rfl (wanted_free rfl) _ _ _ rfl _ _ (eval_put_same _ 54 _ (by show 54 < (a.put (some 53) _).tmps.size; rw [size_put, hsz]; decide)) ((eval_put_other _ _ (by decide)).trans ((eval_put_other _ _ (by decide)).trans e52)) (run_storeP wy b _ _ _ _ k1 kf) ?_
    rw [wpOps]
    go_wp2
    refine bodyPost_end (results_none rfl _ _ _) (by first | exact hd | rfl) ⟨rfl, _, ?_, hVf.out.then hTf.out.size hV9, hTf.out.then hVf.out hfin.2⟩
    rw [hput.out]
    exact hfin.1

set_option maxHeartbeats 16000000 in
set_option maxRecDepth 100000 in
theorem putFullB_any (b most : Nat) (v : Value) (l : List Ent) (x : Ent) (now : Int) (w : World) (h : PM w b most v l) (hm : 1 ≤ most) (hm2 : most ≤ 1000) (hsp : spot l x = l.length) (heq : l.length = most) (hq : (live l now).length ≠ most) :
    Calls Try.prog 13 #[.pointer (some ⟨b, 0, Option.none⟩), evalue x, .int .i64 now] w fun e w' => e = .returned (.tuple #[]) ∧ ∃ v', PM w' b most v' (put most l x now) ∧ Moved w v v' ∧ Turned2 w w' b v := by
  obtain ⟨i0, hi0, hi1, hi2, hi3⟩ := info_parts Try.infoE
  obtain ⟨A, c, rfl, hE⟩ := h.own.eds
  have hf : firstOf (fun y => sameKey y x) l = -1 := by unfold firstOf; exact if_neg (by unfold spot at hsp; omega)
  have hM0 := Lib.hid h
  have hb0 := Lib.hid (below_box2 w (.cells (ecell x).toArray 32) (.cells #[.int .i64 now] 3))
  have hzx := Lib.hid (six_old w x 32 (.cells #[.int .i64 now] 3))
  have hn0 := Lib.hid (box_at2 w x now)
  have hpl := Lib.hid (place_any b most (.slice A l.length c) l x _ (h.later hb0.out))
  have hltb := Lib.hid h.lt
  have hown := Lib.hid (fun k (hk : (Value.slice A l.length c).ownBlock = some k) => (World.ownsRow.lt h.own k hk).2)
  rw [hf] at hpl
  clear hf hE
  have hmz : ((most : Int) == 0) = false := beq_eq_false_iff_ne.2 (by omega)
  obtain ⟨l3, hl3⟩ : ∃ l3, l3 = live l now := ⟨_, rfl⟩
  have hle : (live l now).length ≤ most := heq ▸ List.length_filter_le _ _
  rw [← hl3] at hq hle
  have hput := Lib.hid (show put most l x now = l3 ++ [x] by
    have h1 : ¬ spot l x < l.length := by omega
    have h2 : most ≤ l.length := by omega
    have h3 : ¬ most ≤ l3.length := by omega
    unfold put room
    simp only [if_neg h1, if_pos h2, ← hl3, if_neg h3])
  have hlf := Lib.hid (show l3.length ≤ 1000 by omega)
  have hc1 := Lib.hid (fun v W (hM : PM W b most v l) => (show Calls Try.prog 24 #[.pointer (some ⟨b, 0, Option.none⟩)] W fun e w' => e = .returned (.bool true) ∧ Below W.heap.size W w' by
    have := full_any b most v l W hM
    rwa [decide_eq_true heq] at this))
  have hc2 := Lib.hid (fun v W (hM : PM W b most v l3) => (show Calls Try.prog 24 #[.pointer (some ⟨b, 0, Option.none⟩)] W fun e w' => e = .returned (.bool false) ∧ Below W.heap.size W w' by
    have := full_any b most v l3 W hM
    rwa [decide_eq_false hq] at this))
  have hcr := Lib.hid (fun v W (hM : PM W b most v l) (hv : ∀ k, v.ownBlock = some k → k < w.heap.size) (hn : W.cell? ⟨w.heap.size + 1, 0, Option.none⟩ = some (.int .i64 now)) => (show Calls Try.prog 17 #[.pointer (some ⟨b, 0, Option.none⟩), .func (.func 25) #[] #[.pointer (some ⟨w.heap.size + 1, 0, Option.none⟩)]] W fun e w' =>
      e = .returned (.tuple #[]) ∧ ∃ v', PM w' b most v' l3 ∧ v'.ownBlock = v.ownBlock ∧ Turned2 W w' b v by
    have := remove_any (fun y => !decide (now < y.til)) 25 #[.pointer (some ⟨w.heap.size + 1, 0, Option.none⟩)] (fun _ _ => by kernel_rfl) b most v l W hM (fun W' y _ hg => put1_any y now (w.heap.size + 1) W' (box_kept2 hn hg (fun e => by have := hv _ e; omega)))
    simp only [Bool.not_not] at this
    rw [hl3]
    exact this))
  obtain ⟨x1, x2, x3, x4, x5, x6⟩ := x
  have m0 : ((w.alloc (.cells #[.string x1, .string x2, .bool x3, .string x4, .string x5, .int .i64 x6] 32)).alloc (.cells #[.int .i64 now] 3)).cell? ⟨b, 0, Option.none⟩ = some (.int .i64 (most : Int)) := cell_later hb0.out h.cells.1
  have hzz : Hid (Six ((w.alloc (.cells #[.string x1, .string x2, .bool x3, .string x4, .string x5, .int .i64 x6] 32)).alloc (.cells #[.int .i64 now] 3)) w.heap.size ⟨x1, x2, x3, x4, x5, x6⟩) := hzx
  have hnn : Hid (((w.alloc (.cells #[.string x1, .string x2, .bool x3, .string x4, .string x5, .int .i64 x6] 32)).alloc (.cells #[.int .i64 now] 3)).cell? ⟨w.heap.size + 1, 0, Option.none⟩ = some (.int .i64 now)) := hn0
  have hsz0 : Hid (w.heap.size < ((w.alloc (.cells #[.string x1, .string x2, .bool x3, .string x4, .string x5, .int .i64 x6] 32)).alloc (.cells #[.int .i64 now] 3)).heap.size) := Lib.hid (by simp; omega)
  obtain ⟨z1, z2, z3, z4, z5, z6⟩ := hzz.out
  unfold evalue at hpl ⊢
  simp only at z1 z2 z3 z4 z5 z6 hpl ⊢
  obtain ⟨nf, hnf⟩ : ∃ nf, nf = l.length := ⟨_, rfl⟩
  rw [← hnf] at hM0 hown ⊢
  obtain ⟨n3, hn3⟩ : ∃ n3, n3 = l3.length := ⟨_, rfl⟩
  have hn3' := Lib.hid hn3
  clear h hsp heq hq hle hl3 hnf hn3
  go_enter Try.func13, Try.ntmps13
  go_wp2_with (first
    | (go_at_call 23; refine hpl.out.mono ?_; rintro e w1 ⟨rfl, hb1⟩; have hbw := Lib.hid (below_then hb0.out hb1); have hM1 := Lib.hid (hM0.out.later hbw.out); have y1 := cell_later hb1 z1; have y2 := cell_later hb1 z2; have y3 := cell_later hb1 z3; have y4 := cell_later hb1 z4; have y5 := cell_later hb1 z5; have y6 := cell_later hb1 z6)
    | (go_at_call 24; (with_reducible refine (hc1.out _ _ hM1.out).mono ?_); rintro e w2 ⟨rfl, hb2⟩; have hs2 := Lib.hid (Nat.lt_of_lt_of_le hsz0.out (below_then hb1 hb2).size); have hz2 := Lib.hid (hzz.out.later (below_then hb1 hb2)); have hn2 := Lib.hid (cell_later (below_then hb1 hb2) hnn.out); have hB2 := Lib.hid (below_then hbw.out hb2); have hM2 := Lib.hid (hM0.out.later hB2.out))
    | (go_at_call 17; (with_reducible refine (hcr.out _ _ hM2.out hown.out hn2.out).mono ?_); rintro e w3 ⟨rfl, v3, hP3, hV3, hT3⟩; obtain ⟨A3, c3, rfl, hE3⟩ := hP3.own.eds; rw [← hn3'.out] at hP3 hV3; have hM3 := Lib.hid hP3; have hV3' := Lib.hid hV3; have hT3' := Lib.hid hT3; have hz3 := Lib.hid (hz2.out.block (hT3.block _ hs2.out (fun e => by have := hltb.out; omega) (fun e => by have := hown.out _ e; omega))); clear hP3 hV3 hT3 hE3)
    | (go_at_call 24; (with_reducible refine (hc2.out _ _ hM3.out).mono ?_); rintro e w4 ⟨rfl, hb4⟩; have hM4 := Lib.hid (hM3.out.later hb4); have m4 := hM4.out.cells.2; have hz4 := Lib.hid (hz3.out.later hb4); have hT4 := Lib.hid ((((Turned2.refl w b (.slice A nf c)).behind hB2.out).then (.inl rfl) hT3'.out).behind hb4)))
  have hPf := hM4
  have hTf := hT4
  have hVf := Lib.hid (show Moved w (.slice A nf c) (.slice A3 n3 c3) from .inl hV3'.out)
  have hzf := hz4
  refine wp_region_tail 8 12 (by decide) (by kernel_rfl) (RInv 55 [45, 46, 47, 48, 49, 50, 51, 52] _ (paF b A3 n3 c3 ⟨x1, x2, x3, x4, x5, x6⟩) { w4 with heap := #[] } (PX w4 b (.slice A3 n3 c3) l3 ⟨x1, x2, x3, x4, x5, x6⟩)) (by kernel_rfl) (by kernel_rfl) (RInv.start rfl ⟨fun _ => (Below.refl _ _).drew, fun h => h.elim, fun h => h.elim⟩ ⟨rfl, rfl, rfl, Nat.zero_le _, fun k hk => absurd hk (Nat.not_lt_zero _)⟩) ?_ ?_
  · intro i hi D a wy hI hcl hnd hpre
    have hi' : i < 8 := hi
    have hcase : i = 0 ∨ i = 1 ∨ i = 2 ∨ i = 3 ∨ i = 4 ∨ i = 5 ∨ i = 6 ∨ i = 7 := by omega
    have hF := hI.fact
    rcases hcase with rfl | rfl | rfl | rfl | rfl | rfl | rfl | rfl
    · exact wpOp_move rfl (wanted_free rfl) _ rfl _ (hI.same 0 (by decide)) (hI.put (by decide) (by decide) (fun j _ _ h => paF_any h) rfl (hI.more.pure _ (by decide) (by decide) (by decide) (by decide)) hI.below)
    · exact wpOp_move rfl (wanted_free rfl) _ rfl _ (hI.same 0 (by decide)) (hI.put (by decide) (by decide) (fun j _ _ h => paF_any h) rfl (hI.more.pure _ (by decide) (by decide) (by decide) (by decide)) hI.below)
    · exact wpOp_nil rfl (wanted_free rfl) _ rfl _ (hF 1 (hpre 1 (by kernel_rfl))) (hI.put (by decide) (by decide) (fun j _ _ h => paF_any h) rfl (hI.more.pure _ (by decide) (by decide) (by decide) (by decide)) hI.below)
    · exact wpOp_field rfl (wanted_free rfl) _ _ _ rfl _ _ (hF 2 (hpre 2 (by kernel_rfl))) (run_fieldP wy b) (hI.put (by decide) (by decide) (fun j _ _ h => paF_any h) rfl (hI.more.pure _ (by decide) (by decide) (by decide) (by decide)) hI.below)
    · exact wpOp_load rfl (wanted_free rfl) _ _ rfl _ _ (hF 3 (hpre 3 (by kernel_rfl))) (run_loadM wy b 1 _ _ _ (hPf.out.later (hI.more.calm (fun h7 => hnd (hcl 7 h7 4 (by kernel_rfl))))).cells.2) (hI.put (by decide) (by decide) (fun j _ _ h => paF_any h) rfl (hI.more.pure _ (by decide) (by decide) (by decide) (by decide)) hI.below)
    · exact wpOp_load rfl (wanted_free rfl) _ _ rfl _ _ (hI.same 4 (by decide)) (run_loadS wy w.heap.size ⟨x1, x2, x3, x4, x5, x6⟩ (hzf.out.later (hI.more.calm (fun h7 => hnd (hcl 6 (hcl 7 h7 6 (by kernel_rfl)) 5 (by kernel_rfl)))))) (hI.put (by decide) (by decide) (fun j _ _ h => paF_any h) rfl (hI.more.pure _ (by decide) (by decide) (by decide) (by decide)) hI.below)
    · have hcalm := hI.more.calm (fun h7 => hnd (hcl 7 h7 6 (by kernel_rfl)))
      refine wpOp_build rfl (wanted_free rfl) _ _ _ rfl #[(0, evalue ⟨x1, x2, x3, x4, x5, x6⟩)] ?_ _ (run_buildE wy ⟨x1, x2, x3, x4, x5, x6⟩) (hI.put (by decide) (by decide) (fun j _ _ h => paF_any h) trivial ⟨fun _ => hcalm.alloc hcalm.size _, fun _ _ => ⟨wy.heap.size, eval_put_same _ _ _ (by rw [hI.size]; decide), eds_new wy _ [⟨x1, x2, x3, x4, x5, x6⟩] rfl (tiny (by simp))⟩, fun hd => absurd (hcl 7 (hd.resolve_right (by decide)) 6 (by kernel_rfl)) hnd⟩ (hI.below.alloc (Nat.zero_le _) _))
      have e5 : a.eval (.tmp 50) = evalue ⟨x1, x2, x3, x4, x5, x6⟩ := hF 5 (hpre 5 (by kernel_rfl))
      simp [e5]
    · have hcalm := hI.more.calm hnd
      obtain ⟨gx, e51, hEx⟩ := hI.more.one (hpre 6 (by kernel_rfl)) hnd
      have hOy : OwnsE wy (b + 1) (.slice A3 n3 c3) l3 := hPf.out.own.kept hcalm (Nat.le_refl _)
      obtain ⟨v9, w9, hrun, hO9, hg9, hm9⟩ := run_append_eds (P := Try.prog) (b + 1) 39 39 i0 Try.underlying39 hi0 hi1 hi2 hi3 hOy hEx (by have := hlf.out; omega) (by have := hPf.out.lt; have := hcalm.size; omega)
      exact wpOp_appendR rfl (wanted_free rfl) _ _ _ rfl _ _ _ (hF 4 (hpre 4 (by kernel_rfl))) e51 hrun (hI.put (by decide) (by decide) (fun j _ _ h => paF_any h) trivial ⟨fun hn => absurd (.inr rfl) hn, fun _ hn => absurd (.inr rfl) hn, fun _ => ⟨v9, eval_put_same _ _ _ (by rw [hI.size]; decide), hO9, grown_then (below_grows hcalm _) hg9, hm9.elim (fun e => .inl e) (fun e => .inr (fun k hk => by rw [e] at hk; injection hk with hk; have := hcalm.size; omega))⟩⟩ (hI.below.grown hg9 (Nat.zero_le _) (fun k _ => Nat.zero_le _)))
  · intro D a wy hI hall
    obtain ⟨v9, e52, hO9, hG9, hV9⟩ := hI.more.full (hall 7 (by decide))
    have hd : a.defers = [] := hI.defs
    have e45 : a.eval (.tmp 45) = .pointer (some ⟨b, 0, Option.none⟩) := hI.fact 0 (hall 0 (by decide))
    have hsz := hI.size
    clear hI hall
    obtain ⟨A9, c9, rfl, hE9⟩ := hO9.eds
    obtain ⟨k1, kf⟩ := hPf.out.grown hG9
    have hfin := hPf.out.put hG9 hO9
    clear hO9 hE9
    generalize (l3 ++ [(⟨x1, x2, x3, x4, x5, x6⟩ : Ent)]).length = n9 at hfin e52 hV9 k1 kf
    show wpOps _ _ _ [8, 9, 10] a wy
    rw [wpOps_cons]
    refine wpOp_nil rfl (wanted_free rfl) _ rfl _ e45 ?_
    rw [wpOps_cons]
    refine wpOp_field rfl (wanted_free rfl) _ _ _ rfl _ _ (eval_put_same a 53 _ (by rw [hsz]; decide)) (run_fieldP _ b) ?_
    rw [wpOps_cons]
    refine wpOp_store rfl (wanted_free rfl) _ _ _ rfl _ _ (eval_put_same _ 54 _ (by show 54 < (a.put (some 53) _).tmps.size; rw [size_put, hsz]; decide)) ((eval_put_other _ _ (by decide)).trans ((eval_put_other _ _ (by decide)).trans e52)) (run_storeP wy b _ _ _ _ k1 kf) ?_
    rw [wpOps]
    go_wp2
    refine bodyPost_end (results_none rfl _ _ _) (by first | exact hd | rfl) ⟨rfl, _, ?_, hVf.out.then hTf.out.size hV9, hTf.out.then hVf.out hfin.2⟩
    rw [hput.out]
    exact hfin.1

/-- Put, whatever there is. -/
theorem put_any15 (b most : Nat) (v : Value) (l : List Ent) (x : Ent) (now : Int) (w : World) (h : PM w b most v l) (hm : 1 ≤ most) (hm2 : most ≤ 1000) (hll : l.length ≤ most) :
    Calls Try.prog 13 #[.pointer (some ⟨b, 0, Option.none⟩), evalue x, .int .i64 now] w fun e w' => e = .returned (.tuple #[]) ∧ ∃ v', PM w' b most v' (put most l x now) ∧ Moved w v v' ∧ Turned2 w w' b v := by
  by_cases hsp : spot l x < l.length
  · refine (putOld_any b most v l x now w h hm hsp).mono ?_
    rintro e w' ⟨he, v', hP, hV, hT⟩
    refine ⟨he, v', ?_, .inl hV, hT⟩
    unfold put
    rw [if_pos hsp]
    exact hP
  · have hs : spot l x = l.length := by have := spot_le l x; omega
    by_cases hlt : l.length < most
    · exact putRoom_any b most v l x now w h hm hm2 hs hlt
    · have heq : l.length = most := by omega
      by_cases hq : (live l now).length = most
      · exact putFullA_any b most v l x now w h hm hm2 hs heq hq
      · exact putFullB_any b most v l x now w h hm hm2 hs heq hq
end Go.Proofs.Ythojnhdnflakiaa
