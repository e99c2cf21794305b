/-
  The walk of the statement ChunkRound: for any table and any three slices of bytes it returns true, and nothing that was there is changed.
-/
import Derived.Test.YtaabhnjikggomaaChunkRoundX
namespace Go.Proofs.Ytaabhnjikggomaa
open Go.RowKit Leb

set_option maxRecDepth 100000 in
set_option maxHeartbeats 4000000 in
theorem chunkRound_law (q m0 : Nat) (A : Option Addr) (na ca : Nat) (la0 : List Int) (B : Option Addr) (nb cb : Nat) (lb0 : List Int) (C : Option Addr) (nc cc : Nat) (lc0 : List Int) (w : World) (hq : q < 65536) (hm : m0 < 4294967296) (hA : Holds w A na ca la0) (hB : Holds w B nb cb lb0) (hC : Holds w C nc cc lc0) :
    Calls Try.prog 5 #[.int .u16 q, .int .u32 m0, .slice A na ca, .slice B nb cb, .slice C nc cc] w (Yes w) := by
  obtain ⟨i0, hi0, hz0, hz1, hz2⟩ := info_parts Try.info8
  obtain ⟨la, ka, HA0, SA0⟩ := short3_later hA
  obtain ⟨lb, kb, HB0, SB0⟩ := short3_later hB
  obtain ⟨lc, kc, HC0, SC0⟩ := short3_later hC
  have KA := Lib.hid SA0
  have KB := Lib.hid SB0
  have KC := Lib.hid SC0
  have hlcc := HC0.cap
  clear SA0 SB0 SC0 hA hB hC
  obtain ⟨t, htt⟩ : ∃ t, t = tabAt q m0 := ⟨_, rfl⟩
  have ht : ∀ c, t c < 4294967296 := by rw [htt]; exact tabAt_lt hm
  have Hq := Lib.hid (table3_any q m0 w hq hm)
  rw [← htt] at Hq
  clear htt
  have Ht := Lib.hid ht
  clear ht
  have hpl := pack_le (sum4_sums t) lb
  have hmb : Chunk.many lb ≤ 4 := by unfold Chunk.many; omega
  obtain ⟨pk, hpk⟩ : ∃ pk, Chunk.pack (sum4 t) lb = pk := ⟨_, rfl⟩
  rw [hpk] at hpl
  have HPk := Lib.hid hpk
  have hplk : pk.length ≤ 1400 := by omega
  have hun := Chunk.unpack_pack (sum4_sums t) la lb lc
  rw [hpk] at hun
  have HU := Lib.hid hun
  obtain ⟨r2, hr2⟩ : ∃ r2, Chunk.unpack (sum4 t) lc 0 = r2 := ⟨_, rfl⟩
  have HR2 := Lib.hid hr2
  have hon := fun y q => @Chunk.unpack_only (sum4 t) lc HC0.byt y q
  have her := @Chunk.unpack_err (sum4 t) lc 0
  rw [hr2] at hon her
  have Hon := Lib.hid hon
  have Her := Lib.hid her
  clear hpl hmb hpk hun hr2 hon her
  go_enter Try.func5, Try.ntmps5
  go_wp2_with fail
  refine Hq.out.mono ?_
  rintro e wt ⟨rfl, hbt⟩
  go_wp2_with (with_reducible refine wpList_table rfl _ _ rfl rfl wt.heap.size rfl t rfl rfl ?_; intro w2 ht0 hg2 hb2)
  have hbw : Below w.heap.size w w2 := hbt.trans (hb2.mono hbt.size)
  have ht2 : ∀ c, c < 256 → w2.cell? ⟨wt.heap.size, c, Option.none⟩ = some (.int .u32 (t c)) := ht0
  have ht := Ht.out
  have HA := HA0.later hbw
  have HB := HB0.later hbw
  have HC := HC0.later hbw
  have SA : ∀ W, Below w2.heap.size w2 W → _ := fun W hb => KA.out W (hbw.trans (hb.mono hbw.size))
  have SB : ∀ W, Below w2.heap.size w2 W → _ := fun W hb => KB.out W (hbw.trans (hb.mono hbw.size))
  have SC : ∀ W, Below w2.heap.size w2 W → _ := fun W hb => KC.out W (hbw.trans (hb.mono hbw.size))
  clear ht0 hg2 hb2 hbt Hq
  generalize wt.heap.size = g at *
  refine wp_region_each (RInv 104 [22, 23, 24, 25, 26, 27, 28, 29, 30, 31, 32, 33, 12] _ (r2F t A B C na nb nc ca cb cc la lb lc pk) w2 (r2X w2.heap.size la pk)) (by kernel_rfl) (by kernel_rfl) (RInv.start rfl ⟨fun h => h.elim, fun h => h.elim, fun h => h.elim, fun h => h.elim⟩ (Below.refl _ _).drew) ?_ ?_
  · intro i hi D a w1 hI hcl hnd hpre
    have hi' : i < 13 := hi
    have hcase : i = 0 ∨ i = 1 ∨ i = 2 ∨ i = 3 ∨ i = 4 ∨ i = 5 ∨ i = 6 ∨ i = 7 ∨ i = 8 ∨ i = 9 ∨ i = 10 ∨ i = 11 ∨ i = 12 := by omega
    have hF := hI.fact
    rcases hcase with rfl | rfl | rfl | rfl | rfl | rfl | rfl | rfl | rfl | rfl | rfl | rfl | rfl
    · have hb : Below w1.heap.size w1 (w1.alloc (.cells #[] 5)) := (Below.refl _ _).alloc (Nat.le_refl _) _
      refine wpOp_build rfl (wanted_free rfl) _ _ _ rfl #[] (by simp) _ (run_build0 w1) (hI.put (by decide) (by decide) (fun j _ _ h => r2F_later j _ _ _ h (below_keeps hb)) trivial ⟨fun _ _ => ?_, fun h _ => ?_, fun h _ => ?_, fun h _ => ?_⟩ (hI.below.trans (hb.mono hI.below.size)))
      · show Owns _ _ _ ((a.put (some 22) _).eval (.tmp 22)) _
        rw [eval_put_same _ _ _ (by rw [hI.size]; decide)]
        exact owns_lit w1 w2.heap.size 5 #[] [] rfl Bytes.nil (by simp) hI.below.size
      · exact absurd (reach_has 14 3 0 (by kernel_rfl) hcl (h.resolve_right (by decide))) hnd
      · exact absurd (reach_has 14 7 0 (by kernel_rfl) hcl (h.resolve_right (by decide))) hnd
      · exact absurd (reach_has 14 8 0 (by kernel_rfl) hcl (h.resolve_right (by decide))) hnd
    · exact wpOp_move rfl (wanted_free rfl) _ rfl _ (hI.same 2 (by decide)) (hI.put (by decide) (by decide) (fun j _ _ h => r2F_later j _ _ _ h (below_keeps (Below.refl _ _))) rfl (r2X_keep hI.more (Below.refl _ _) (by decide) (by decide)) (hI.below.trans ((Below.refl _ _).mono hI.below.size)))
    · refine wpOp_call1 rfl (wanted_free rfl) 10 _ _ rfl _ (hF 1 (hpre 1 (by kernel_rfl))) (enters_short3 _ _) (SA w1 hI.below) (fun e w' h => ?_)
      obtain ⟨rfl, rfl⟩ := h
      exact ⟨_, rfl, (hI.put (by decide) (by decide) (fun j _ _ h => r2F_later j _ _ _ h (below_keeps (Below.refl _ _))) rfl (r2X_keep hI.more (Below.refl _ _) (by decide) (by decide)) (hI.below.trans ((Below.refl _ _).mono hI.below.size)))⟩
    · have hsz := hI.below.size
      have hO := hI.more.1 (hpre 0 (by kernel_rfl)) hnd
      refine wpOp_append rfl (wanted_free rfl) (.tmp 22) (.tmp 24) 24 rfl w2.heap.size 5 i0 Try.underlying24 hi0 hz0 hz1 hz2 _ [] rfl hO _ _ _ la (hF 2 (hpre 2 (by kernel_rfl))) (HA.later hI.below) (by simp; omega) hsz ?_
      intro v' w' hown' hg' _
      rw [List.nil_append] at hown'
      refine hI.put (by decide) (by decide) (fun j hj hne h => ?_) trivial ⟨fun _ h3 => absurd (.inr rfl) h3, fun _ _ => ?_, fun h _ => ?_, fun h _ => ?_⟩ (below_own hI.below hO hg' hsz)
      · have hj' : j < 13 := hI.few j hj
        by_cases hj1 : j = 11
        · subst hj1
          exact absurd (reach_has 14 11 3 (by kernel_rfl) hcl hj) hnd
        · by_cases hj2 : j = 12
          · subst hj2
            exact absurd (reach_has 14 12 3 (by kernel_rfl) hcl hj) hnd
          · unfold r2F at h ⊢
            split at h
            all_goals first | exact absurd rfl hj1 | exact absurd rfl hj2 | exact h
      · show Owns _ _ _ ((a.put (some 25) _).eval (.tmp 25)) _
        rw [eval_put_same _ _ _ (by rw [hI.size]; decide)]
        exact hown'
      · exact absurd (reach_has 14 7 3 (by kernel_rfl) hcl (h.resolve_right (by decide))) hnd
      · exact absurd (reach_has 14 8 3 (by kernel_rfl) hcl (h.resolve_right (by decide))) hnd
    · exact wpOp_load rfl (wanted_free rfl) _ _ rfl _ _ (hI.same 11 (by decide)) (run_loadTab w1 g t (fun c hc => below_cells hI.below (ht2 c hc))) (hI.put (by decide) (by decide) (fun j _ _ h => r2F_later j _ _ _ h (below_keeps (Below.refl _ _))) rfl (r2X_keep hI.more (Below.refl _ _) (by decide) (by decide)) (hI.below.trans ((Below.refl _ _).mono hI.below.size)))
    · exact wpOp_move rfl (wanted_free rfl) _ rfl _ (hI.same 3 (by decide)) (hI.put (by decide) (by decide) (fun j _ _ h => r2F_later j _ _ _ h (below_keeps (Below.refl _ _))) rfl (r2X_keep hI.more (Below.refl _ _) (by decide) (by decide)) (hI.below.trans ((Below.refl _ _).mono hI.below.size)))
    · refine wpOp_call1 rfl (wanted_free rfl) 10 _ _ rfl _ (hF 5 (hpre 5 (by kernel_rfl))) (enters_short3 _ _) (SB w1 hI.below) (fun e w' h => ?_)
      obtain ⟨rfl, rfl⟩ := h
      exact ⟨_, rfl, (hI.put (by decide) (by decide) (fun j _ _ h => r2F_later j _ _ _ h (below_keeps (Below.refl _ _))) rfl (r2X_keep hI.more (Below.refl _ _) (by decide) (by decide)) (hI.below.trans ((Below.refl _ _).mono hI.below.size)))⟩
    · refine wpOp_call2 rfl (wanted_free rfl) 9 _ _ _ rfl _ _ (hF 4 (hpre 4 (by kernel_rfl))) (hF 6 (hpre 6 (by kernel_rfl))) (enters_pack _ _) (pack_any t ht _ _ _ lb w1 (HB.later hI.below) (by omega)) (fun e w' h => ?_)
      obtain ⟨v, rfl, ho, hb⟩ := h
      rw [HPk.out] at ho
      refine ⟨_, rfl, hI.put (by decide) (by decide) (fun j _ _ h => r2F_later j _ _ _ h (below_keeps hb)) trivial ⟨fun _ h3 => absurd (.inl (reach_has 14 6 3 (by kernel_rfl) hcl (hpre 6 (by kernel_rfl)))) h3, fun h3 h8 => ?_, fun _ _ => ?_, fun h _ => ?_⟩ (hI.below.trans (hb.mono hI.below.size))⟩
      · show Owns _ _ _ ((a.put (some 29) _).eval (.tmp 25)) _
        rw [eval_put_other _ _ (by decide)]
        exact (hI.more.2.1 (h3.resolve_right (by decide)) (fun h => h8 (.inl h))).kept hb (Nat.le_refl _)
      · show BB _ ((a.put (some 29) _).eval (.tmp 29)) _
        rw [eval_put_same _ _ _ (by rw [hI.size]; decide)]
        exact ho.holds
      · exact absurd (reach_has 14 8 7 (by kernel_rfl) hcl (h.resolve_right (by decide))) hnd
    · have hsz := hI.below.size
      have hO := hI.more.2.1 (hpre 3 (by kernel_rfl)) hnd
      obtain ⟨A1, c1, hv1, hH1⟩ := hI.more.2.2.1 (hpre 7 (by kernel_rfl)) hnd
      refine wpOp_append rfl (wanted_free rfl) (.tmp 25) (.tmp 29) 24 rfl w2.heap.size 5 i0 Try.underlying24 hi0 hz0 hz1 hz2 _ la rfl hO _ _ _ pk hv1 hH1 (by omega) hsz ?_
      intro v' w' hown' hg' _
      refine hI.put (by decide) (by decide) (fun j hj hne h => ?_) trivial ⟨fun _ h3 => absurd (.inl (hpre 3 (by kernel_rfl))) h3, fun _ h8 => absurd (.inr rfl) h8, fun _ h8 => absurd (.inr rfl) h8, fun _ _ => ?_⟩ (below_own hI.below hO hg' hsz)
      · have hj' : j < 13 := hI.few j hj
        by_cases hj1 : j = 11
        · subst hj1
          exact absurd (reach_has 14 11 8 (by kernel_rfl) hcl hj) hnd
        · by_cases hj2 : j = 12
          · subst hj2
            exact absurd (reach_has 14 12 8 (by kernel_rfl) hcl hj) hnd
          · unfold r2F at h ⊢
            split at h
            all_goals first | exact absurd rfl hj1 | exact absurd rfl hj2 | exact h
      · show Owns _ _ _ ((a.put (some 30) _).eval (.tmp 30)) _
        rw [eval_put_same _ _ _ (by rw [hI.size]; decide)]
        exact hown'
    · exact wpOp_move rfl (wanted_free rfl) _ rfl _ (hI.same 4 (by decide)) (hI.put (by decide) (by decide) (fun j _ _ h => r2F_later j _ _ _ h (below_keeps (Below.refl _ _))) rfl (r2X_keep hI.more (Below.refl _ _) (by decide) (by decide)) (hI.below.trans ((Below.refl _ _).mono hI.below.size)))
    · refine wpOp_call1 rfl (wanted_free rfl) 10 _ _ rfl _ (hF 9 (hpre 9 (by kernel_rfl))) (enters_short3 _ _) (SC w1 hI.below) (fun e w' h => ?_)
      obtain ⟨rfl, rfl⟩ := h
      exact ⟨_, rfl, (hI.put (by decide) (by decide) (fun j _ _ h => r2F_later j _ _ _ h (below_keeps (Below.refl _ _))) rfl (r2X_keep hI.more (Below.refl _ _) (by decide) (by decide)) (hI.below.trans ((Below.refl _ _).mono hI.below.size)))⟩
    · have hsz := hI.below.size
      have hO := hI.more.2.2.2 (hpre 8 (by kernel_rfl)) hnd
      refine wpOp_append rfl (wanted_free rfl) (.tmp 30) (.tmp 32) 24 rfl w2.heap.size 5 i0 Try.underlying24 hi0 hz0 hz1 hz2 _ (la ++ pk) rfl hO _ _ _ lc (hF 10 (hpre 10 (by kernel_rfl))) (HC.later hI.below) (by rw [List.length_append]; omega) hsz ?_
      intro v' w' hown' hg' _
      refine hI.put (by decide) (by decide) (fun j hj hne h => ?_) hown'.holds ⟨fun _ h3 => absurd (.inl (reach_has 14 8 3 (by kernel_rfl) hcl (hpre 8 (by kernel_rfl)))) h3, fun _ h8 => absurd (.inl (hpre 8 (by kernel_rfl))) h8, fun _ h8 => absurd (.inl (hpre 8 (by kernel_rfl))) h8, fun _ h11 => absurd (.inr rfl) h11⟩ (below_own hI.below hO hg' hsz)
      have hj' : j < 13 := hI.few j hj
      by_cases hj1 : j = 11
      · subst hj1
        exact absurd rfl hne
      · by_cases hj2 : j = 12
        · subst hj2
          exact absurd (reach_has 14 12 11 (by kernel_rfl) hcl hj) hnd
        · unfold r2F at h ⊢
          split at h
          all_goals first | exact absurd rfl hj1 | exact absurd rfl hj2 | exact h
    · exact wpOp_assign rfl (wanted_free rfl) _ rfl _ rfl (hI.put (by decide) (by decide) (fun j _ _ h => r2F_later j _ _ _ h (below_keeps (Below.refl _ _))) (hF 11 (hpre 11 (by kernel_rfl))) (r2X_keep hI.more (Below.refl _ _) (by decide) (by decide)) (hI.below.trans ((Below.refl _ _).mono hI.below.size)))
  · intro D a w3 hI hall
    obtain ⟨fs, rfl, hf⟩ := hI.done (by decide) rfl hall
    have hB := hI.below
    obtain ⟨l, hl⟩ : ∃ l, l = la ++ pk ++ lc := ⟨_, rfl⟩
    have hll : l.length = la.length + pk.length + lc.length := by rw [hl]; simp; omega
    obtain ⟨X, cx, h12, H12⟩ := hf 12 (by decide)
    rw [← hl] at h12 H12
    have h12' : fs 12 = .slice X l.length cx := h12
    have H12' := Lib.hid H12
    have hb3 : Below w.heap.size w w3 := hbw.trans (hB.mono hbw.size)
    have Ht3 := Lib.hid (fun c (hc : c < 256) => cell_later hB (ht2 c hc))
    have hU := HU.out
    rw [← hl] at hU
    have HR := Lib.hid hU
    have Hll := Lib.hid hll
    clear hI hall hf h12 H12 hB SA SB SC HA HB HC ht2 hbw ht hl hU HU hll
    simp only [putAll, List.map_cons, List.map_nil, Act.put, List.setIfInBounds_toArray, List.set_cons_zero, List.set_cons_succ, h12']
    clear h12'
    generalize fs 22 = a22
    generalize fs 23 = a23
    generalize fs 24 = a24
    generalize fs 25 = a25
    generalize fs 26 = a26
    generalize fs 27 = a27
    generalize fs 28 = a28
    generalize fs 29 = a29
    generalize fs 30 = a30
    generalize fs 31 = a31
    generalize fs 32 = a32
    generalize fs 33 = a33
    go_wp2_with fail
    have ht3 := Ht3.out
    have ht := Ht.out
    have hll := Hll.out
    have HX3 := H12'.out
    have SA3 : ∀ W, Below w3.heap.size w3 W → _ := fun W hb => KA.out W (hb3.trans (hb.mono hb3.size))
    refine wp_region_each (RInv 104 [35, 36, 37, 38, 39, 40, 34, 41, 42, 43, 13, 14, 15] _ (r3F t A X na ca cx la l (lb, ((la ++ pk).length : Int), 0)) w3 NoMore) (by kernel_rfl) (by kernel_rfl) (RInv.start rfl trivial (Below.refl _ _).drew) ?_ ?_
    · intro i hi D a w1 hI hcl hnd hpre
      have hi' : i < 13 := hi
      have hcase : i = 0 ∨ i = 1 ∨ i = 2 ∨ i = 3 ∨ i = 4 ∨ i = 5 ∨ i = 6 ∨ i = 7 ∨ i = 8 ∨ i = 9 ∨ i = 10 ∨ i = 11 ∨ i = 12 := by omega
      have hF := hI.fact
      rcases hcase with rfl | rfl | rfl | rfl | rfl | rfl | rfl | rfl | rfl | rfl | rfl | rfl | rfl
      · exact wpOp_load rfl (wanted_free rfl) _ _ rfl _ _ (hI.same 11 (by decide)) (run_loadTab w1 g t (fun c hc => below_cells hI.below (ht3 c hc))) (hI.add (by decide) r3F_later (by decide) (Below.refl _ _) rfl)
      · exact wpOp_move rfl (wanted_free rfl) _ rfl _ (hI.same 12 (by decide)) (hI.add (by decide) r3F_later (by decide) (Below.refl _ _) rfl)
      · exact wpOp_move rfl (wanted_free rfl) _ rfl _ (hI.same 2 (by decide)) (hI.add (by decide) r3F_later (by decide) (Below.refl _ _) rfl)
      · refine wpOp_call1 rfl (wanted_free rfl) 10 _ _ rfl _ (hF 2 (hpre 2 (by kernel_rfl))) (enters_short3 _ _) (SA3 w1 hI.below) (fun e w' h => ?_)
        obtain ⟨rfl, rfl⟩ := h
        exact ⟨_, rfl, (hI.add (by decide) r3F_later (by decide) (Below.refl _ _) rfl)⟩
      · exact wpOp_len rfl (wanted_free rfl) _ _ rfl _ Try.underlying24 _ _ _ (hF 3 (hpre 3 (by kernel_rfl))) (hI.add (by decide) r3F_later (by decide) (Below.refl _ _) rfl)
      · refine wpOp_call3 rfl (wanted_free rfl) 13 _ _ _ _ rfl _ _ _ (hF 0 (hpre 0 (by kernel_rfl))) (hF 1 (hpre 1 (by kernel_rfl))) (hF 4 (hpre 4 (by kernel_rfl))) (enters_unpack _ _) (unpack_any t ht _ _ _ l _ w1 (HX3.later hI.below) (by omega)) (fun e w' h => ?_)
        obtain ⟨v, rfl, ho, hb⟩ := h
        rw [HR.out] at ho ⊢
        exact ⟨_, rfl, (hI.add (by decide) r3F_later (by decide) hb ⟨v, rfl, ho.holds⟩)⟩
      · exact wpOp_move rfl (wanted_free rfl) _ rfl _ rfl (hI.add (by decide) r3F_later (by decide) (Below.refl _ _) (hF 5 (hpre 5 (by kernel_rfl))))
      · obtain ⟨u, hu, hB⟩ := (hF 6 (hpre 6 (by kernel_rfl)))
        exact wpOp_extract rfl (wanted_free rfl) _ _ rfl _ _ hu (run_extract0 w1 _ _ _) (hI.add (by decide) r3F_later (by decide) (Below.refl _ _) hB)
      · obtain ⟨u, hu, hB⟩ := (hF 6 (hpre 6 (by kernel_rfl)))
        exact wpOp_extract rfl (wanted_free rfl) _ _ rfl _ _ hu (run_extract1 w1 _ _ _) (hI.add (by decide) r3F_later (by decide) (Below.refl _ _) rfl)
      · obtain ⟨u, hu, hB⟩ := (hF 6 (hpre 6 (by kernel_rfl)))
        exact wpOp_extract rfl (wanted_free rfl) _ _ rfl _ _ hu (run_extract2 w1 _ _ _) (hI.add (by decide) r3F_later (by decide) (Below.refl _ _) rfl)
      · exact wpOp_assign rfl (wanted_free rfl) _ rfl _ rfl (hI.add (by decide) r3F_later (by decide) (Below.refl _ _) (hF 7 (hpre 7 (by kernel_rfl))))
      · exact wpOp_assign rfl (wanted_free rfl) _ rfl _ rfl (hI.add (by decide) r3F_later (by decide) (Below.refl _ _) (hF 8 (hpre 8 (by kernel_rfl))))
      · exact wpOp_assign rfl (wanted_free rfl) _ rfl _ rfl (hI.add (by decide) r3F_later (by decide) (Below.refl _ _) (hF 9 (hpre 9 (by kernel_rfl))))
    · intro D a w4 hI hall
      obtain ⟨fs, rfl, hf⟩ := hI.done (by decide) rfl hall
      have hB := hI.below
      obtain ⟨Y, cy, h13, H13⟩ := hf 10 (by decide)
      have h13' : fs 13 = .slice Y lb.length cy := h13
      obtain ⟨nx, hnx0⟩ : ∃ nx, nx = (la ++ pk).length := ⟨_, rfl⟩
      have hnx : l.length = nx + lc.length := by rw [hnx0, hll]; simp
      have h14' : fs 14 = .int .i64 (nx : Int) := by rw [hnx0]; exact hf 11 (by decide)
      have h15' : fs 15 = .int .i64 0 := hf 12 (by decide)
      have HY4 := H13
      have hb4 : Below w.heap.size w w4 := hb3.trans (hB.mono hb3.size)
      have Ht4 := Lib.hid (fun c (hc : c < 256) => cell_later hB (ht3 c hc))
      have HX4 := Lib.hid (H12'.out.later hB)
      have HB4 := HB0.later hb4
      have Hnx := Lib.hid hnx
      have HY4' := Lib.hid HY4
      clear hI hall hf h13 H13 hB SA3 HX3 ht3 ht hll hnx hnx0 HY4 Ht3 H12' hb3
      simp only [putAll, List.map_cons, List.map_nil, Act.put, List.setIfInBounds_toArray, List.set_cons_zero, List.set_cons_succ, h13', h14', h15']
      clear h13' h14' h15'
      generalize fs 35 = b35
      generalize fs 36 = b36
      generalize fs 37 = b37
      generalize fs 38 = b38
      generalize fs 39 = b39
      generalize fs 40 = b40
      generalize fs 34 = b34
      generalize fs 41 = b41
      generalize fs 42 = b42
      generalize fs 43 = b43
      go_wp2_with fail
      have hnx := Hnx.out
      have HY4 := HY4'.out
      have SB4 : ∀ W, Below w4.heap.size w4 W → _ := fun W hb => KB.out W (hb4.trans (hb.mono hb4.size))
      have SC4 : ∀ W, Below w4.heap.size w4 W → _ := fun W hb => KC.out W (hb4.trans (hb.mono hb4.size))
      have hlm : l.length ≤ 1000000 := by have := Hll.out; omega
      refine wp_region_each (RInv 104 [44, 45, 46, 47, 48, 49, 50, 51, 52, 53, 54, 55, 56, 57, 58, 59, 60, 61, 62, 63] _ (r4F B C X Y nb nc cb cc cx cy nx lb lc l) w4 NoMore) (by kernel_rfl) (by kernel_rfl) (RInv.start rfl trivial (Below.refl _ _).drew) ?_ ?_
      · intro i hi D a w1 hI hcl hnd hpre
        have hi' : i < 20 := hi
        have hcase : i = 0 ∨ i = 1 ∨ i = 2 ∨ i = 3 ∨ i = 4 ∨ i = 5 ∨ i = 6 ∨ i = 7 ∨ i = 8 ∨ i = 9 ∨ i = 10 ∨ i = 11 ∨ i = 12 ∨ i = 13 ∨ i = 14 ∨ i = 15 ∨ i = 16 ∨ i = 17 ∨ i = 18 ∨ i = 19 := by omega
        have hF := hI.fact
        rcases hcase with rfl | rfl | rfl | rfl | rfl | rfl | rfl | rfl | rfl | rfl | rfl | rfl | rfl | rfl | rfl | rfl | rfl | rfl | rfl | rfl
        · exact wpOp_move rfl (wanted_free rfl) _ rfl _ (hI.same 15 (by decide)) (hI.add (by decide) r4F_later (by decide) (Below.refl _ _) rfl)
        · exact wpOp_bin rfl (wanted_free rfl) _ _ _ _ _ rfl _ _ _ (hF 0 (hpre 0 (by kernel_rfl))) rfl (run_neq32 _ _ _ w1) (hI.add (by decide) r4F_later (by decide) (Below.refl _ _) rfl)
        · exact wpOp_move rfl (wanted_free rfl) _ rfl _ (hF 1 (hpre 1 (by kernel_rfl))) (hI.add (by decide) r4F_later (by decide) (Below.refl _ _) rfl)
        · have g2 := hF 2 (hpre 2 (by kernel_rfl))
          exact wpOp_move rfl (wanted_by (d := 46) rfl _ rfl rfl g2) _ rfl _ (hI.same 13 (by decide)) (hI.add (by decide) r4F_later (by decide) (Below.refl _ _) rfl)
        · have g2 := hF 2 (hpre 2 (by kernel_rfl))
          exact wpOp_convert rfl (wanted_by (d := 46) rfl _ rfl rfl g2) _ _ _ rfl _ _ (hF 3 (hpre 3 (by kernel_rfl))) (run_text _ _ 5 Try.underlying24 Try.underlying5 Try.underlying9 (HY4.later hI.below)) (hI.add (by decide) r4F_later (by decide) (Below.refl _ _) rfl)
        · have g2 := hF 2 (hpre 2 (by kernel_rfl))
          exact wpOp_move rfl (wanted_by (d := 46) rfl _ rfl rfl g2) _ rfl _ (hI.same 3 (by decide)) (hI.add (by decide) r4F_later (by decide) (Below.refl _ _) rfl)
        · have g2 := hF 2 (hpre 2 (by kernel_rfl))
          refine wpOp_call1 rfl (wanted_by (d := 46) rfl _ rfl rfl g2) 10 _ _ rfl _ (hF 5 (hpre 5 (by kernel_rfl))) (enters_short3 _ _) (SB4 w1 hI.below) (fun e w' h => ?_)
          obtain ⟨rfl, rfl⟩ := h
          exact ⟨_, rfl, (hI.add (by decide) r4F_later (by decide) (Below.refl _ _) rfl)⟩
        · have g2 := hF 2 (hpre 2 (by kernel_rfl))
          exact wpOp_convert rfl (wanted_by (d := 46) rfl _ rfl rfl g2) _ _ _ rfl _ _ (hF 6 (hpre 6 (by kernel_rfl))) (run_text _ _ 5 Try.underlying24 Try.underlying5 Try.underlying9 (HB4.later hI.below)) (hI.add (by decide) r4F_later (by decide) (Below.refl _ _) rfl)
        · have g2 := hF 2 (hpre 2 (by kernel_rfl))
          exact wpOp_bin rfl (wanted_by (d := 46) rfl _ rfl rfl g2) _ _ _ _ _ rfl _ _ _ (hF 4 (hpre 4 (by kernel_rfl))) (hF 7 (hpre 7 (by kernel_rfl))) (run_differ _ _ _ _ w1 false (by simp)) (hI.add (by decide) r4F_later (by decide) (Below.refl _ _) rfl)
        · exact wpOp_pick rfl (wanted_free rfl) _ _ _ rfl false (hF 2 (hpre 2 (by kernel_rfl))) _ (hF 8 (hpre 8 (by kernel_rfl))) (hI.add (by decide) r4F_later (by decide) (Below.refl _ _) rfl)
        · exact wpOp_move rfl (wanted_free rfl) _ rfl _ (hF 9 (hpre 9 (by kernel_rfl))) (hI.add (by decide) r4F_later (by decide) (Below.refl _ _) rfl)
        · have g10 := hF 10 (hpre 10 (by kernel_rfl))
          exact wpOp_move rfl (wanted_by (d := 54) rfl _ rfl rfl g10) _ rfl _ (hI.same 14 (by decide)) (hI.add (by decide) r4F_later (by decide) (Below.refl _ _) rfl)
        · have g10 := hF 10 (hpre 10 (by kernel_rfl))
          exact wpOp_move rfl (wanted_by (d := 54) rfl _ rfl rfl g10) _ rfl _ (hI.same 12 (by decide)) (hI.add (by decide) r4F_later (by decide) (Below.refl _ _) rfl)
        · have g10 := hF 10 (hpre 10 (by kernel_rfl))
          exact wpOp_len rfl (wanted_by (d := 54) rfl _ rfl rfl g10) _ _ rfl _ Try.underlying24 _ _ _ (hF 12 (hpre 12 (by kernel_rfl))) (hI.add (by decide) r4F_later (by decide) (Below.refl _ _) rfl)
        · have g10 := hF 10 (hpre 10 (by kernel_rfl))
          exact wpOp_move rfl (wanted_by (d := 54) rfl _ rfl rfl g10) _ rfl _ (hI.same 4 (by decide)) (hI.add (by decide) r4F_later (by decide) (Below.refl _ _) rfl)
        · have g10 := hF 10 (hpre 10 (by kernel_rfl))
          refine wpOp_call1 rfl (wanted_by (d := 54) rfl _ rfl rfl g10) 10 _ _ rfl _ (hF 14 (hpre 14 (by kernel_rfl))) (enters_short3 _ _) (SC4 w1 hI.below) (fun e w' h => ?_)
          obtain ⟨rfl, rfl⟩ := h
          exact ⟨_, rfl, (hI.add (by decide) r4F_later (by decide) (Below.refl _ _) rfl)⟩
        · have g10 := hF 10 (hpre 10 (by kernel_rfl))
          exact wpOp_len rfl (wanted_by (d := 54) rfl _ rfl rfl g10) _ _ rfl _ Try.underlying24 _ _ _ (hF 15 (hpre 15 (by kernel_rfl))) (hI.add (by decide) r4F_later (by decide) (Below.refl _ _) rfl)
        · have g10 := hF 10 (hpre 10 (by kernel_rfl))
          exact wpOp_bin rfl (wanted_by (d := 54) rfl _ rfl rfl g10) _ _ _ _ _ rfl _ _ _ (hF 13 (hpre 13 (by kernel_rfl))) (hF 16 (hpre 16 (by kernel_rfl))) (run_sub64 _ _ _ _ _ w1 hnx (by omega)) (hI.add (by decide) r4F_later (by decide) (Below.refl _ _) rfl)
        · have g10 := hF 10 (hpre 10 (by kernel_rfl))
          exact wpOp_bin rfl (wanted_by (d := 54) rfl _ rfl rfl g10) _ _ _ _ _ rfl _ _ _ (hF 11 (hpre 11 (by kernel_rfl))) (hF 17 (hpre 17 (by kernel_rfl))) (run_neq64 _ _ _ w1) (hI.add (by decide) r4F_later (by decide) (Below.refl _ _) rfl)
        · exact wpOp_pick rfl (wanted_free rfl) _ _ _ rfl false (hF 10 (hpre 10 (by kernel_rfl))) _ (hF 18 (hpre 18 (by kernel_rfl))) (hI.add (by decide) r4F_later (by decide) (Below.refl _ _) rfl)
      · intro D a w5 hI hall
        obtain ⟨fs, rfl, hf⟩ := hI.done (by decide) rfl hall
        have hB := hI.below
        have h63' : fs 63 = .bool false := hf 19 (by decide)
        have hb5 : Below w.heap.size w w5 := hb4.trans (hB.mono hb4.size)
        have Ht5 := Lib.hid (fun c (hc : c < 256) => cell_later hB (Ht4.out c hc))
        clear hI hall hf hB SB4 SC4 HB4 HY4 hnx Hnx HY4' hlm Ht4 HX4
        simp only [putAll, List.map_cons, List.map_nil, Act.put, List.setIfInBounds_toArray, List.set_cons_zero, List.set_cons_succ, h63']
        clear h63'
        generalize fs 44 = c44
        generalize fs 45 = c45
        generalize fs 46 = c46
        generalize fs 47 = c47
        generalize fs 48 = c48
        generalize fs 49 = c49
        generalize fs 50 = c50
        generalize fs 51 = c51
        generalize fs 52 = c52
        generalize fs 53 = c53
        generalize fs 54 = c54
        generalize fs 55 = c55
        generalize fs 56 = c56
        generalize fs 57 = c57
        generalize fs 58 = c58
        generalize fs 59 = c59
        generalize fs 60 = c60
        generalize fs 61 = c61
        generalize fs 62 = c62
        go_wp2_with fail
        have ht6 := Ht5.out
        have ht := Ht.out
        have HC6 := HC0.later hb5
        have SC6 : ∀ W, Below w5.heap.size w5 W → _ := fun W hb => KC.out W (hb5.trans (hb.mono hb5.size))
        refine wp_region_each (RInv 104 [65, 66, 67, 68, 64, 69, 70, 71, 16, 17, 18] _ (r6F t C nc cc lc r2) w5 NoMore) (by kernel_rfl) (by kernel_rfl) (RInv.start rfl trivial (Below.refl _ _).drew) ?_ ?_
        · intro i hi D a w1 hI hcl hnd hpre
          have hi' : i < 11 := hi
          have hcase : i = 0 ∨ i = 1 ∨ i = 2 ∨ i = 3 ∨ i = 4 ∨ i = 5 ∨ i = 6 ∨ i = 7 ∨ i = 8 ∨ i = 9 ∨ i = 10 := by omega
          have hF := hI.fact
          rcases hcase with rfl | rfl | rfl | rfl | rfl | rfl | rfl | rfl | rfl | rfl | rfl
          · exact wpOp_load rfl (wanted_free rfl) _ _ rfl _ _ (hI.same 11 (by decide)) (run_loadTab w1 g t (fun c hc => below_cells hI.below (ht6 c hc))) (hI.add (by decide) r6F_later (by decide) (Below.refl _ _) rfl)
          · exact wpOp_move rfl (wanted_free rfl) _ rfl _ (hI.same 4 (by decide)) (hI.add (by decide) r6F_later (by decide) (Below.refl _ _) rfl)
          · refine wpOp_call1 rfl (wanted_free rfl) 10 _ _ rfl _ (hF 1 (hpre 1 (by kernel_rfl))) (enters_short3 _ _) (SC6 w1 hI.below) (fun e w' h => ?_)
            obtain ⟨rfl, rfl⟩ := h
            exact ⟨_, rfl, (hI.add (by decide) r6F_later (by decide) (Below.refl _ _) rfl)⟩
          · refine wpOp_call3 rfl (wanted_free rfl) 13 _ _ _ _ rfl _ _ _ (hF 0 (hpre 0 (by kernel_rfl))) (hF 2 (hpre 2 (by kernel_rfl))) rfl (enters_unpack _ _) (unpack_any t ht _ _ _ lc 0 w1 (HC6.later hI.below) (by omega)) (fun e w' h => ?_)
            obtain ⟨v, rfl, ho, hb⟩ := h
            rw [HR2.out] at ho ⊢
            exact ⟨_, rfl, (hI.add (by decide) r6F_later (by decide) hb ⟨v, rfl, ho.holds⟩)⟩
          · exact wpOp_move rfl (wanted_free rfl) _ rfl _ rfl (hI.add (by decide) r6F_later (by decide) (Below.refl _ _) (hF 3 (hpre 3 (by kernel_rfl))))
          · obtain ⟨u, hu, hB⟩ := (hF 4 (hpre 4 (by kernel_rfl)))
            exact wpOp_extract rfl (wanted_free rfl) _ _ rfl _ _ hu (run_extract0 w1 _ _ _) (hI.add (by decide) r6F_later (by decide) (Below.refl _ _) hB)
          · obtain ⟨u, hu, hB⟩ := (hF 4 (hpre 4 (by kernel_rfl)))
            exact wpOp_extract rfl (wanted_free rfl) _ _ rfl _ _ hu (run_extract1 w1 _ _ _) (hI.add (by decide) r6F_later (by decide) (Below.refl _ _) rfl)
          · obtain ⟨u, hu, hB⟩ := (hF 4 (hpre 4 (by kernel_rfl)))
            exact wpOp_extract rfl (wanted_free rfl) _ _ rfl _ _ hu (run_extract2 w1 _ _ _) (hI.add (by decide) r6F_later (by decide) (Below.refl _ _) rfl)
          · exact wpOp_assign rfl (wanted_free rfl) _ rfl _ rfl (hI.add (by decide) r6F_later (by decide) (Below.refl _ _) (hF 5 (hpre 5 (by kernel_rfl))))
          · exact wpOp_assign rfl (wanted_free rfl) _ rfl _ rfl (hI.add (by decide) r6F_later (by decide) (Below.refl _ _) (hF 6 (hpre 6 (by kernel_rfl))))
          · exact wpOp_assign rfl (wanted_free rfl) _ rfl _ rfl (hI.add (by decide) r6F_later (by decide) (Below.refl _ _) (hF 7 (hpre 7 (by kernel_rfl))))
        · intro D a w6 hI hall
          obtain ⟨fs, rfl, hf⟩ := hI.done (by decide) rfl hall
          have hB := hI.below
          obtain ⟨y, aft, er⟩ := r2
          obtain ⟨Z, cz, h16, H16⟩ := hf 8 (by decide)
          have h16' : fs 16 = .slice Z y.length cz := h16
          have h17' : fs 17 = .int .i64 aft := hf 9 (by decide)
          have h18' : fs 18 = .int .i64 er := hf 10 (by decide)
          have HZ := Lib.hid H16
          have hb6 : Below w.heap.size w w6 := hb5.trans (hB.mono hb5.size)
          have Ht6 := Lib.hid (fun c (hc : c < 256) => cell_later hB (Ht5.out c hc))
          clear hI hall hf hB SC6 HC6 ht ht6 h16 H16 Ht5 hb5
          simp only [putAll, List.map_cons, List.map_nil, Act.put, List.setIfInBounds_toArray, List.set_cons_zero, List.set_cons_succ, h16', h17', h18']
          clear h16' h17' h18'
          generalize fs 65 = d65
          generalize fs 66 = d66
          generalize fs 67 = d67
          generalize fs 68 = d68
          generalize fs 64 = d64
          generalize fs 69 = d69
          generalize fs 70 = d70
          generalize fs 71 = d71
          by_cases he : er = 0
          · subst he
            obtain ⟨m, rfl, hml, hpy⟩ := Hon.out y aft rfl
            have HPy := Lib.hid hpy
            have hyl : y.length ≤ 900 := by
              have h1 := pack_ge (sum4_sums t) y.length y (Nat.le_refl _)
              rw [hpy, List.length_take] at h1
              omega
            clear hpy Hon Her
            go_wp2_with fail
            have ht9 := Ht6.out
            have ht := Ht.out
            have HC9 := HC0.later hb6
            have HZ9 := HZ.out
            have SC9 : ∀ W, Below w6.heap.size w6 W → _ := fun W hb => KC.out W (hb6.trans (hb.mono hb6.size))
            have hbw := hb6
            refine wp_region_each (RInv 104 [84, 85, 86, 87, 88, 89, 90, 91, 92, 93, 94, 95, 96, 97, 98, 99, 100, 101, 102, 103, 10] _ (r9F t C Z nc cc cz m lc y) w6 NoMore) (by kernel_rfl) (by kernel_rfl) (RInv.start rfl trivial (Below.refl _ _).drew) ?_ ?_
            · intro i hi D a w1 hI hcl hnd hpre
              have hi' : i < 21 := hi
              have hcase : i = 0 ∨ i = 1 ∨ i = 2 ∨ i = 3 ∨ i = 4 ∨ i = 5 ∨ i = 6 ∨ i = 7 ∨ i = 8 ∨ i = 9 ∨ i = 10 ∨ i = 11 ∨ i = 12 ∨ i = 13 ∨ i = 14 ∨ i = 15 ∨ i = 16 ∨ i = 17 ∨ i = 18 ∨ i = 19 ∨ i = 20 := by omega
              have hF := hI.fact
              rcases hcase with rfl | rfl | rfl | rfl | rfl | rfl | rfl | rfl | rfl | rfl | rfl | rfl | rfl | rfl | rfl | rfl | rfl | rfl | rfl | rfl | rfl
              · exact wpOp_call0 rfl (wanted_free rfl) 8 _ rfl (enters_awake3 _ _) (awake3_any w1) (fun e w' h => ⟨_, h.1, (hI.add (by decide) r9F_later (by decide) h.2 rfl)⟩)
              · exact wpOp_move rfl (wanted_free rfl) _ rfl _ (hF 0 (hpre 0 (by kernel_rfl))) (hI.add (by decide) r9F_later (by decide) (Below.refl _ _) rfl)
              · have g1 := hF 1 (hpre 1 (by kernel_rfl))
                exact wpOp_move rfl (wanted_by (d := 85) rfl _ rfl rfl g1) _ rfl _ (hI.same 17 (by decide)) (hI.add (by decide) r9F_later (by decide) (Below.refl _ _) rfl)
              · have g1 := hF 1 (hpre 1 (by kernel_rfl))
                exact wpOp_move rfl (wanted_by (d := 85) rfl _ rfl rfl g1) _ rfl _ (hI.same 4 (by decide)) (hI.add (by decide) r9F_later (by decide) (Below.refl _ _) rfl)
              · have g1 := hF 1 (hpre 1 (by kernel_rfl))
                refine wpOp_call1 rfl (wanted_by (d := 85) rfl _ rfl rfl g1) 10 _ _ rfl _ (hF 3 (hpre 3 (by kernel_rfl))) (enters_short3 _ _) (SC9 w1 hI.below) (fun e w' h => ?_)
                obtain ⟨rfl, rfl⟩ := h
                exact ⟨_, rfl, (hI.add (by decide) r9F_later (by decide) (Below.refl _ _) rfl)⟩
              · have g1 := hF 1 (hpre 1 (by kernel_rfl))
                exact wpOp_len rfl (wanted_by (d := 85) rfl _ rfl rfl g1) _ _ rfl _ Try.underlying24 _ _ _ (hF 4 (hpre 4 (by kernel_rfl))) (hI.add (by decide) r9F_later (by decide) (Below.refl _ _) rfl)
              · have g1 := hF 1 (hpre 1 (by kernel_rfl))
                exact wpOp_bin rfl (wanted_by (d := 85) rfl _ rfl rfl g1) _ _ _ _ _ rfl _ _ _ (hF 2 (hpre 2 (by kernel_rfl))) (hF 5 (hpre 5 (by kernel_rfl))) (run_leq64 _ _ _ _ w1 hml) (hI.add (by decide) r9F_later (by decide) (Below.refl _ _) rfl)
              · exact wpOp_pick rfl (wanted_free rfl) _ _ _ rfl true (hF 1 (hpre 1 (by kernel_rfl))) _ (hF 6 (hpre 6 (by kernel_rfl))) (hI.add (by decide) r9F_later (by decide) (Below.refl _ _) rfl)
              · exact wpOp_move rfl (wanted_free rfl) _ rfl _ (hF 7 (hpre 7 (by kernel_rfl))) (hI.add (by decide) r9F_later (by decide) (Below.refl _ _) rfl)
              · have g8 := hF 8 (hpre 8 (by kernel_rfl))
                exact wpOp_load rfl (wanted_by (d := 92) rfl _ rfl rfl g8) _ _ rfl _ _ (hI.same 11 (by decide)) (run_loadTab w1 g t (fun c hc => below_cells hI.below (ht9 c hc))) (hI.add (by decide) r9F_later (by decide) (Below.refl _ _) rfl)
              · have g8 := hF 8 (hpre 8 (by kernel_rfl))
                exact wpOp_move rfl (wanted_by (d := 92) rfl _ rfl rfl g8) _ rfl _ (hI.same 16 (by decide)) (hI.add (by decide) r9F_later (by decide) (Below.refl _ _) rfl)
              · have g8 := hF 8 (hpre 8 (by kernel_rfl))
                refine wpOp_call2 rfl (wanted_by (d := 92) rfl _ rfl rfl g8) 9 _ _ _ rfl _ _ (hF 9 (hpre 9 (by kernel_rfl))) (hF 10 (hpre 10 (by kernel_rfl))) (enters_pack _ _) (pack_any t ht _ _ _ y w1 (HZ9.later hI.below) (by omega)) (fun e w' h => ?_)
                obtain ⟨v, rfl, ho, hb⟩ := h
                rw [HPy.out] at ho
                exact ⟨_, rfl, (hI.add (by decide) r9F_later (by decide) hb ho.holds)⟩
              · have g8 := hF 8 (hpre 8 (by kernel_rfl))
                obtain ⟨A1, c1, h1, H1⟩ := (hF 11 (hpre 11 (by kernel_rfl)))
                exact wpOp_convert rfl (wanted_by (d := 92) rfl _ rfl rfl g8) _ _ _ rfl _ _ h1 (run_text _ _ 5 Try.underlying24 Try.underlying5 Try.underlying9 H1) (hI.add (by decide) r9F_later (by decide) (Below.refl _ _) rfl)
              · have g8 := hF 8 (hpre 8 (by kernel_rfl))
                exact wpOp_move rfl (wanted_by (d := 92) rfl _ rfl rfl g8) _ rfl _ (hI.same 4 (by decide)) (hI.add (by decide) r9F_later (by decide) (Below.refl _ _) rfl)
              · have g8 := hF 8 (hpre 8 (by kernel_rfl))
                refine wpOp_call1 rfl (wanted_by (d := 92) rfl _ rfl rfl g8) 10 _ _ rfl _ (hF 13 (hpre 13 (by kernel_rfl))) (enters_short3 _ _) (SC9 w1 hI.below) (fun e w' h => ?_)
                obtain ⟨rfl, rfl⟩ := h
                exact ⟨_, rfl, (hI.add (by decide) r9F_later (by decide) (Below.refl _ _) rfl)⟩
              · have g8 := hF 8 (hpre 8 (by kernel_rfl))
                exact wpOp_move rfl (wanted_by (d := 92) rfl _ rfl rfl g8) _ rfl _ (hI.same 17 (by decide)) (hI.add (by decide) r9F_later (by decide) (Below.refl _ _) rfl)
              · have g8 := hF 8 (hpre 8 (by kernel_rfl))
                exact wpOp_slice rfl (wanted_by (d := 92) rfl _ rfl rfl g8) _ _ _ _ _ rfl _ _ _ _ _ (hF 14 (hpre 14 (by kernel_rfl))) rfl (congrArg some (hF 15 (hpre 15 (by kernel_rfl)))) rfl (run_frontA w1 C lc.length cc m hml hlcc) (hI.add (by decide) r9F_later (by decide) (Below.refl _ _) rfl)
              · have g8 := hF 8 (hpre 8 (by kernel_rfl))
                exact wpOp_convert rfl (wanted_by (d := 92) rfl _ rfl rfl g8) _ _ _ rfl _ _ (hF 16 (hpre 16 (by kernel_rfl))) (run_text _ _ 5 Try.underlying24 Try.underlying5 Try.underlying9 ((HC9.front hml).later hI.below)) (hI.add (by decide) r9F_later (by decide) (Below.refl _ _) rfl)
              · have g8 := hF 8 (hpre 8 (by kernel_rfl))
                exact wpOp_bin rfl (wanted_by (d := 92) rfl _ rfl rfl g8) _ _ _ _ _ rfl _ _ _ (hF 12 (hpre 12 (by kernel_rfl))) (hF 17 (hpre 17 (by kernel_rfl))) (run_same_text _ _ _ w1) (hI.add (by decide) r9F_later (by decide) (Below.refl _ _) rfl)
              · exact wpOp_pick rfl (wanted_free rfl) _ _ _ rfl true (hF 8 (hpre 8 (by kernel_rfl))) _ (hF 18 (hpre 18 (by kernel_rfl))) (hI.add (by decide) r9F_later (by decide) (Below.refl _ _) rfl)
              · exact wpOp_assign rfl (wanted_free rfl) _ rfl _ (hF 19 (hpre 19 (by kernel_rfl))) (hI.add (by decide) r9F_later (by decide) (Below.refl _ _) rfl)
            · intro D a w1 hI hall
              have fz : a.eval (.tmp 10) = .bool true := hI.fact 20 (hall 20 (by decide))
              have hd := hI.defs
              have hB := hI.below
              clear hall
              go_wp2
              refine bodyPost_ret (results_tmp rfl a.tmps _ _) hd ⟨?_, hbw.trans (hB.mono hbw.size)⟩
              show Ending.returned (a.eval (.tmp 10)) = _
              rw [fz]
          · have b0 : (er == 0) = false := by rw [beq_eq_false_iff_ne]; exact he
            obtain ⟨hy, ha⟩ := Her.out he
            simp only at hy ha
            subst hy
            subst ha
            clear Hon Her
            go_wp2_with fail
            refine (awake3_any w6).mono ?_
            rintro e w7 ⟨rfl, hb7⟩
            go_wp2_with fail
            go_ret
            exact ⟨rfl, hb6.trans (hb7.mono hb6.size)⟩
end Go.Proofs.Ytaabhnjikggomaa
