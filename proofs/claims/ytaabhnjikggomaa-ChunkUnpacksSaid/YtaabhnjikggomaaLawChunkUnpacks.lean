/-
  The walk of the statement ChunkUnpacks: for any bytes and any offset it returns true, and nothing that was there is changed.
-/
import Derived.Test.YtaabhnjikggomaaChunkAwake
namespace Go.Proofs.Ytaabhnjikggomaa
open Go.RowKit Leb

/-- What the slots of a reading hold. -/
def cuF (t : Nat → Nat) (A : Option Addr) (n c : Nat) (l : List Int) (p : Int) (r : List Int × Int × Int) (j : Nat) (v : Value) (w : World) : Prop :=
  match j with
  | 0 => v = .agg (cells32 t).toArray
  | 1 => v = .slice A n c
  | 2 => v = .slice A l.length c
  | 3 => v = .int .i64 p
  | 4 => UP r v w
  | 5 => UP r v w
  | 6 => BB r.1 v w
  | 7 => v = .int .i64 r.2.1
  | 8 => v = .int .i64 r.2.2
  | 9 => BB r.1 v w
  | 10 => v = .int .i64 r.2.1
  | 11 => v = .int .i64 r.2.2
  | _ => True
theorem cuF_later {t : Nat → Nat} {A : Option Addr} {n c : Nat} {l : List Int} {p : Int} {r : List Int × Int × Int} : Outlives (cuF t A n c l p r) := by
  intro j v w w' h hk
  unfold cuF at h ⊢
  split at h
  all_goals first | exact h.keeps hk | exact h

set_option maxRecDepth 100000 in
set_option maxHeartbeats 1600000 in
theorem chunkUnpacks_law (A : Option Addr) (n c : Nat) (l0 : List Int) (p : Int) (w : World) (hA : Holds w A n c l0) (_hp : (Lit.int .i64 p).wf = true) :
    Calls Try.prog 4 #[.slice A n c, .int .i64 p] w (Yes w) := by
  obtain ⟨l, kl, HA0, SA0⟩ := short3_later hA
  have KA := Lib.hid SA0
  clear SA0 hA
  obtain ⟨r, hr⟩ : ∃ r, Chunk.unpack (sum4 tab0) l p = r := ⟨_, rfl⟩
  have HR := Lib.hid hr
  clear hr
  obtain ⟨y, nx, er⟩ := r
  go_enter Try.func4, Try.ntmps4
  go_wp2_with fail
  refine (table_said w).mono ?_
  rintro e wt ⟨rfl, hbt⟩
  go_wp2_with (with_reducible refine wpList_table rfl _ _ rfl rfl wt.heap.size rfl tab0 rfl rfl ?_; intro w2 ht0 hg2 hb2)
  have hbw : Below w.heap.size w w2 := hbt.trans (hb2.mono hbt.size)
  have ht2 : ∀ c, c < 256 → w2.cell? ⟨wt.heap.size, c, Option.none⟩ = some (.int .u32 (tab0 c)) := ht0
  have HA := HA0.later hbw
  have SA : ∀ W, Below w2.heap.size w2 W → _ := fun W hb => KA.out W (hbw.trans (hb.mono hbw.size))
  clear ht0 hg2 hb2 hbt HA0
  generalize wt.heap.size = g at *
  refine wp_region_each (RInv 49 [14, 15, 16, 17, 18, 13, 19, 20, 21, 6, 7, 8] _ (cuF tab0 A n c l p (y, nx, er)) w2 NoMore) (by kernel_rfl) (by kernel_rfl) (RInv.start rfl trivial (Below.refl _ _).drew) ?_ ?_
  · intro i hi D a w1 hI hcl hnd hpre
    have hi' : i < 12 := hi
    have hcase : i = 0 ∨ i = 1 ∨ i = 2 ∨ i = 3 ∨ i = 4 ∨ i = 5 ∨ i = 6 ∨ i = 7 ∨ i = 8 ∨ i = 9 ∨ i = 10 ∨ i = 11 := by omega
    have hF := hI.fact
    rcases hcase with rfl | rfl | rfl | rfl | rfl | rfl | rfl | rfl | rfl | rfl | rfl | rfl
    · exact wpOp_load rfl (wanted_free rfl) _ _ rfl _ _ (hI.same 5 (by decide)) (run_loadTab w1 g tab0 (fun c hc => below_cells hI.below (ht2 c hc))) (hI.add (by decide) cuF_later (by decide) (Below.refl _ _) rfl)
    · exact wpOp_move rfl (wanted_free rfl) _ rfl _ (hI.same 0 (by decide)) (hI.add (by decide) cuF_later (by decide) (Below.refl _ _) rfl)
    · refine wpOp_call1 rfl (wanted_free rfl) 10 _ _ rfl _ (hF 1 (hpre 1 (by kernel_rfl))) (enters_short3 _ _) (SA w1 hI.below) (fun e w' h => ?_)
      obtain ⟨rfl, rfl⟩ := h
      exact ⟨_, rfl, (hI.add (by decide) cuF_later (by decide) (Below.refl _ _) rfl)⟩
    · exact wpOp_move rfl (wanted_free rfl) _ rfl _ (hI.same 1 (by decide)) (hI.add (by decide) cuF_later (by decide) (Below.refl _ _) rfl)
    · refine wpOp_call3 rfl (wanted_free rfl) 13 _ _ _ _ rfl _ _ _ (hF 0 (hpre 0 (by kernel_rfl))) (hF 2 (hpre 2 (by kernel_rfl))) (hF 3 (hpre 3 (by kernel_rfl))) (enters_unpack _ _) (unpack_any tab0 tab0_lt _ _ _ l p w1 (HA.later hI.below) (by omega)) (fun e w' h => ?_)
      obtain ⟨v, rfl, ho, hb⟩ := h
      rw [HR.out] at ho ⊢
      exact ⟨_, rfl, (hI.add (by decide) cuF_later (by decide) hb ⟨v, rfl, ho.holds⟩)⟩
    · exact wpOp_move rfl (wanted_free rfl) _ rfl _ rfl (hI.add (by decide) cuF_later (by decide) (Below.refl _ _) (hF 4 (hpre 4 (by kernel_rfl))))
    · obtain ⟨u, hu, hB⟩ := (hF 5 (hpre 5 (by kernel_rfl)))
      exact wpOp_extract rfl (wanted_free rfl) _ _ rfl _ _ hu (run_extract0 w1 _ _ _) (hI.add (by decide) cuF_later (by decide) (Below.refl _ _) hB)
    · obtain ⟨u, hu, hB⟩ := (hF 5 (hpre 5 (by kernel_rfl)))
      exact wpOp_extract rfl (wanted_free rfl) _ _ rfl _ _ hu (run_extract1 w1 _ _ _) (hI.add (by decide) cuF_later (by decide) (Below.refl _ _) rfl)
    · obtain ⟨u, hu, hB⟩ := (hF 5 (hpre 5 (by kernel_rfl)))
      exact wpOp_extract rfl (wanted_free rfl) _ _ rfl _ _ hu (run_extract2 w1 _ _ _) (hI.add (by decide) cuF_later (by decide) (Below.refl _ _) rfl)
    · exact wpOp_assign rfl (wanted_free rfl) _ rfl _ rfl (hI.add (by decide) cuF_later (by decide) (Below.refl _ _) (hF 6 (hpre 6 (by kernel_rfl))))
    · exact wpOp_assign rfl (wanted_free rfl) _ rfl _ rfl (hI.add (by decide) cuF_later (by decide) (Below.refl _ _) (hF 7 (hpre 7 (by kernel_rfl))))
    · exact wpOp_assign rfl (wanted_free rfl) _ rfl _ rfl (hI.add (by decide) cuF_later (by decide) (Below.refl _ _) (hF 8 (hpre 8 (by kernel_rfl))))
  · intro D a w3 hI hall
    obtain ⟨fs, rfl, hf⟩ := hI.done (by decide) rfl hall
    have hB := hI.below
    obtain ⟨A6, c6, h6, H6⟩ := hf 9 (by decide)
    have h6' : fs 6 = .slice A6 y.length c6 := h6
    have h7' : fs 7 = .int .i64 nx := hf 10 (by decide)
    have h8' : fs 8 = .int .i64 er := hf 11 (by decide)
    have H6' := Lib.hid H6
    have hb3 : Below w.heap.size w w3 := hbw.trans (hB.mono hbw.size)
    have ht3 : ∀ c, c < 256 → w3.cell? ⟨g, c, Option.none⟩ = some (.int .u32 (tab0 c)) := fun c hc => cell_later hB (ht2 c hc)
    have HA3 := HA.later hB
    have SA3 : ∀ W, Below w3.heap.size w3 W → _ := fun W hb => KA.out W (hb3.trans (hb.mono hb3.size))
    have Ht3 := Lib.hid ht3
    have HSA3 := Lib.hid SA3
    clear hI hall hf h6 H6 hB SA HA ht2 hbw ht3 SA3 KA
    simp only [putAll, List.map_cons, List.map_nil, Act.put, List.setIfInBounds_toArray, List.set_cons_zero, List.set_cons_succ, h6', h7', h8']
    clear h6' h7' h8'
    generalize fs 14 = z14
    generalize fs 15 = z15
    generalize fs 16 = z16
    generalize fs 17 = z17
    generalize fs 18 = z18
    generalize fs 13 = z13
    generalize fs 19 = z19
    generalize fs 20 = z20
    generalize fs 21 = z21
    go_wp2_with fail
    have ht3 := Ht3.out
    have SA3 := HSA3.out
    refine wp_region_each (RInv 49 [23, 24, 25, 26, 27, 22, 28, 29, 30, 9, 10, 11] _ (cuF tab0 A n c l p (y, nx, er)) w3 NoMore) (by kernel_rfl) (by kernel_rfl) (RInv.start rfl trivial (Below.refl _ _).drew) ?_ ?_
    · intro i hi D a w1 hI hcl hnd hpre
      have hi' : i < 12 := hi
      have hcase : i = 0 ∨ i = 1 ∨ i = 2 ∨ i = 3 ∨ i = 4 ∨ i = 5 ∨ i = 6 ∨ i = 7 ∨ i = 8 ∨ i = 9 ∨ i = 10 ∨ i = 11 := by omega
      have hF := hI.fact
      rcases hcase with rfl | rfl | rfl | rfl | rfl | rfl | rfl | rfl | rfl | rfl | rfl | rfl
      · exact wpOp_load rfl (wanted_free rfl) _ _ rfl _ _ (hI.same 5 (by decide)) (run_loadTab w1 g tab0 (fun c hc => below_cells hI.below (ht3 c hc))) (hI.add (by decide) cuF_later (by decide) (Below.refl _ _) rfl)
      · exact wpOp_move rfl (wanted_free rfl) _ rfl _ (hI.same 0 (by decide)) (hI.add (by decide) cuF_later (by decide) (Below.refl _ _) rfl)
      · refine wpOp_call1 rfl (wanted_free rfl) 10 _ _ rfl _ (hF 1 (hpre 1 (by kernel_rfl))) (enters_short3 _ _) (SA3 w1 hI.below) (fun e w' h => ?_)
        obtain ⟨rfl, rfl⟩ := h
        exact ⟨_, rfl, (hI.add (by decide) cuF_later (by decide) (Below.refl _ _) rfl)⟩
      · exact wpOp_move rfl (wanted_free rfl) _ rfl _ (hI.same 1 (by decide)) (hI.add (by decide) cuF_later (by decide) (Below.refl _ _) rfl)
      · refine wpOp_call3 rfl (wanted_free rfl) 14 _ _ _ _ rfl _ _ _ (hF 0 (hpre 0 (by kernel_rfl))) (hF 2 (hpre 2 (by kernel_rfl))) (hF 3 (hpre 3 (by kernel_rfl))) (enters_runpack _ _) (refUnpack_any tab0 tab0_lt _ _ _ l p w1 (HA3.later hI.below) (by omega)) (fun e w' h => ?_)
        obtain ⟨v, rfl, ho, hb⟩ := h
        rw [HR.out] at ho ⊢
        exact ⟨_, rfl, (hI.add (by decide) cuF_later (by decide) hb ⟨v, rfl, ho.holds⟩)⟩
      · exact wpOp_move rfl (wanted_free rfl) _ rfl _ rfl (hI.add (by decide) cuF_later (by decide) (Below.refl _ _) (hF 4 (hpre 4 (by kernel_rfl))))
      · obtain ⟨u, hu, hB⟩ := (hF 5 (hpre 5 (by kernel_rfl)))
        exact wpOp_extract rfl (wanted_free rfl) _ _ rfl _ _ hu (run_extract0 w1 _ _ _) (hI.add (by decide) cuF_later (by decide) (Below.refl _ _) hB)
      · obtain ⟨u, hu, hB⟩ := (hF 5 (hpre 5 (by kernel_rfl)))
        exact wpOp_extract rfl (wanted_free rfl) _ _ rfl _ _ hu (run_extract1 w1 _ _ _) (hI.add (by decide) cuF_later (by decide) (Below.refl _ _) rfl)
      · obtain ⟨u, hu, hB⟩ := (hF 5 (hpre 5 (by kernel_rfl)))
        exact wpOp_extract rfl (wanted_free rfl) _ _ rfl _ _ hu (run_extract2 w1 _ _ _) (hI.add (by decide) cuF_later (by decide) (Below.refl _ _) rfl)
      · exact wpOp_assign rfl (wanted_free rfl) _ rfl _ rfl (hI.add (by decide) cuF_later (by decide) (Below.refl _ _) (hF 6 (hpre 6 (by kernel_rfl))))
      · exact wpOp_assign rfl (wanted_free rfl) _ rfl _ rfl (hI.add (by decide) cuF_later (by decide) (Below.refl _ _) (hF 7 (hpre 7 (by kernel_rfl))))
      · exact wpOp_assign rfl (wanted_free rfl) _ rfl _ rfl (hI.add (by decide) cuF_later (by decide) (Below.refl _ _) (hF 8 (hpre 8 (by kernel_rfl))))
    · intro D a w4 hI hall
      obtain ⟨fs, rfl, hf⟩ := hI.done (by decide) rfl hall
      have hB := hI.below
      obtain ⟨A9, c9, h9, H9⟩ := hf 9 (by decide)
      have h9' : fs 9 = .slice A9 y.length c9 := h9
      have h10' : fs 10 = .int .i64 nx := hf 10 (by decide)
      have h11' : fs 11 = .int .i64 er := hf 11 (by decide)
      have H9' := Lib.hid H9
      have H64 := Lib.hid (H6'.out.later hB)
      have hb4 : Below w.heap.size w w4 := hb3.trans (hB.mono hb3.size)
      clear hI hall hf h9 H9 hB SA3 HA3 hb3 ht3 Ht3 HSA3 H6'
      simp only [putAll, List.map_cons, List.map_nil, Act.put, List.setIfInBounds_toArray, List.set_cons_zero, List.set_cons_succ, h9', h10', h11']
      clear h9' h10' h11'
      generalize fs 23 = x23
      generalize fs 24 = x24
      generalize fs 25 = x25
      generalize fs 26 = x26
      generalize fs 27 = x27
      generalize fs 22 = x22
      generalize fs 28 = x28
      generalize fs 29 = x29
      generalize fs 30 = x30
      go_wp2_with fail
      refine (awake3_any w4).mono ?_
      rintro e w5 ⟨rfl, hb5⟩
      have r1 := run_text (P := Try.prog) 24 9 5 Try.underlying24 Try.underlying5 Try.underlying9 (H64.out.later hb5)
      have r2 := run_text (P := Try.prog) 24 9 5 Try.underlying24 Try.underlying5 Try.underlying9 (H9'.out.later hb5)
      go_wp2_with fail
      go_ret
      exact ⟨rfl, hb4.trans (hb5.mono hb4.size)⟩
end Go.Proofs.Ytaabhnjikggomaa
