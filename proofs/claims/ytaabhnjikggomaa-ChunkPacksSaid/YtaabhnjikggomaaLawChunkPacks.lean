/-
  The walk of the statement ChunkPacks: for any table and any bytes it returns true, and nothing that was there is changed.
-/
import Derived.Test.YtaabhnjikggomaaChunkAwake
namespace Go.Proofs.Ytaabhnjikggomaa
open Go.RowKit Leb

/-- What the slots of the statement hold. -/
def cpF (t : Nat → Nat) (A : Option Addr) (n c : Nat) (l : List Int) (j : Nat) (v : Value) (w : World) : Prop :=
  match j with
  | 0 => v = .bool true
  | 1 => v = .bool true
  | 2 => v = .agg (cells32 t).toArray
  | 3 => v = .slice A n c
  | 4 => v = .slice A l.length c
  | 5 => BB (Chunk.pack (sum4 t) l) v w
  | 6 => v = .string (strOfNums (Chunk.pack (sum4 t) l))
  | 7 => v = .agg (cells32 t).toArray
  | 8 => v = .slice A n c
  | 9 => v = .slice A l.length c
  | 10 => BB (Chunk.pack (sum4 t) l) v w
  | 11 => v = .string (strOfNums (Chunk.pack (sum4 t) l))
  | 12 => v = .bool true
  | 13 => v = .bool true
  | 14 => v = .bool true
  | _ => True
theorem cpF_later {t : Nat → Nat} {A : Option Addr} {n c : Nat} {l : List Int} : Outlives (cpF t A n c l) := by
  intro j v w w' h hk
  unfold cpF at h ⊢
  split at h
  all_goals first | exact h.keeps hk | exact h

set_option maxRecDepth 100000 in
set_option maxHeartbeats 1600000 in
theorem chunkPacks_law (q m : Nat) (A : Option Addr) (n c : Nat) (l0 : List Int) (w : World) (hq : q < 65536) (hm : m < 4294967296) (hA : Holds w A n c l0) :
    Calls Try.prog 3 #[.int .u16 q, .int .u32 m, .slice A n c] w (Yes w) := by
  obtain ⟨l, kl, HA0, SA0⟩ := short3_later hA
  have KA := Lib.hid SA0
  clear SA0 hA
  obtain ⟨t, htt⟩ : ∃ t, t = tabAt q m := ⟨_, rfl⟩
  have ht : ∀ c, t c < 4294967296 := by rw [htt]; exact tabAt_lt hm
  have Hq := Lib.hid (table3_any q m w hq hm)
  rw [← htt] at Hq
  clear htt
  go_enter Try.func3, Try.ntmps3
  go_wp2_with fail
  refine Hq.out.mono ?_
  rintro e wt ⟨rfl, hbt⟩
  go_wp2_with (with_reducible refine wpList_table rfl _ _ rfl rfl wt.heap.size rfl t rfl rfl ?_; intro w2 ht0 hg2 hb2)
  have hbw : Below w.heap.size w w2 := hbt.trans (hb2.mono hbt.size)
  have ht2 : ∀ c, c < 256 → w2.cell? ⟨wt.heap.size, c, Option.none⟩ = some (.int .u32 (t c)) := ht0
  have HA := HA0.later hbw
  have SA : ∀ W, Below w2.heap.size w2 W → _ := fun W hb => KA.out W (hbw.trans (hb.mono hbw.size))
  clear ht0 hg2 hb2 hbt KA HA0 Hq
  generalize wt.heap.size = g at *
  refine wp_region_each (RInv 25 [11, 12, 13, 14, 15, 16, 17, 18, 19, 20, 21, 22, 23, 24, 6] _ (cpF t A n c l) w2 NoMore) (by kernel_rfl) (by kernel_rfl) (RInv.start rfl trivial (Below.refl _ _).drew) ?_ ?_
  · intro i hi D a w1 hI hcl hnd hpre
    have hi' : i < 15 := hi
    have hcase : i = 0 ∨ i = 1 ∨ i = 2 ∨ i = 3 ∨ i = 4 ∨ i = 5 ∨ i = 6 ∨ i = 7 ∨ i = 8 ∨ i = 9 ∨ i = 10 ∨ i = 11 ∨ i = 12 ∨ i = 13 ∨ i = 14 := by omega
    have hF := hI.fact
    rcases hcase with rfl | rfl | rfl | rfl | rfl | rfl | rfl | rfl | rfl | rfl | rfl | rfl | rfl | rfl | rfl
    · exact wpOp_call0 rfl (wanted_free rfl) 8 _ rfl (enters_awake3 _ _) (awake3_any w1) (fun e w' h => ⟨_, h.1, hI.add (by decide) cpF_later (by decide) h.2 rfl⟩)
    · exact wpOp_move rfl (wanted_free rfl) _ rfl _ (hF 0 (hpre 0 (by kernel_rfl))) (hI.add (by decide) cpF_later (by decide) (Below.refl _ _) rfl)
    · have g1 := hF 1 (hpre 1 (by kernel_rfl))
      exact wpOp_load rfl (wanted_by (d := 12) rfl _ rfl rfl g1) _ _ rfl _ _ (hI.same 7 (by decide)) (run_loadTab w1 g t (fun c hc => below_cells hI.below (ht2 c hc))) (hI.add (by decide) cpF_later (by decide) (Below.refl _ _) rfl)
    · have g1 := hF 1 (hpre 1 (by kernel_rfl))
      exact wpOp_move rfl (wanted_by (d := 12) rfl _ rfl rfl g1) _ rfl _ (hI.same 2 (by decide)) (hI.add (by decide) cpF_later (by decide) (Below.refl _ _) rfl)
    · have g1 := hF 1 (hpre 1 (by kernel_rfl))
      refine wpOp_call1 rfl (wanted_by (d := 12) rfl _ rfl rfl g1) 10 _ _ rfl _ (hF 3 (hpre 3 (by kernel_rfl))) (enters_short3 _ _) (SA w1 hI.below) (fun e w' h => ?_)
      obtain ⟨rfl, rfl⟩ := h
      exact ⟨_, rfl, (hI.add (by decide) cpF_later (by decide) (Below.refl _ _) rfl)⟩
    · have g1 := hF 1 (hpre 1 (by kernel_rfl))
      refine wpOp_call2 rfl (wanted_by (d := 12) rfl _ rfl rfl g1) 9 _ _ _ rfl _ _ (hF 2 (hpre 2 (by kernel_rfl))) (hF 4 (hpre 4 (by kernel_rfl))) (enters_pack _ _) (pack_any t ht _ _ _ l w1 (HA.later hI.below) (by omega)) (fun e w' h => ?_)
      obtain ⟨v, rfl, ho, hb⟩ := h
      exact ⟨_, rfl, hI.add (by decide) cpF_later (by decide) hb ho.holds⟩
    · have g1 := hF 1 (hpre 1 (by kernel_rfl))
      obtain ⟨A1, c1, h1, H1⟩ := (hF 5 (hpre 5 (by kernel_rfl)))
      exact wpOp_convert rfl (wanted_by (d := 12) rfl _ rfl rfl g1) _ _ _ rfl _ _ h1 (run_text _ _ 5 Try.underlying24 Try.underlying5 Try.underlying9 H1) (hI.add (by decide) cpF_later (by decide) (Below.refl _ _) rfl)
    · have g1 := hF 1 (hpre 1 (by kernel_rfl))
      exact wpOp_load rfl (wanted_by (d := 12) rfl _ rfl rfl g1) _ _ rfl _ _ (hI.same 7 (by decide)) (run_loadTab w1 g t (fun c hc => below_cells hI.below (ht2 c hc))) (hI.add (by decide) cpF_later (by decide) (Below.refl _ _) rfl)
    · have g1 := hF 1 (hpre 1 (by kernel_rfl))
      exact wpOp_move rfl (wanted_by (d := 12) rfl _ rfl rfl g1) _ rfl _ (hI.same 2 (by decide)) (hI.add (by decide) cpF_later (by decide) (Below.refl _ _) rfl)
    · have g1 := hF 1 (hpre 1 (by kernel_rfl))
      refine wpOp_call1 rfl (wanted_by (d := 12) rfl _ rfl rfl g1) 10 _ _ rfl _ (hF 8 (hpre 8 (by kernel_rfl))) (enters_short3 _ _) (SA w1 hI.below) (fun e w' h => ?_)
      obtain ⟨rfl, rfl⟩ := h
      exact ⟨_, rfl, (hI.add (by decide) cpF_later (by decide) (Below.refl _ _) rfl)⟩
    · have g1 := hF 1 (hpre 1 (by kernel_rfl))
      refine wpOp_call2 rfl (wanted_by (d := 12) rfl _ rfl rfl g1) 11 _ _ _ rfl _ _ (hF 7 (hpre 7 (by kernel_rfl))) (hF 9 (hpre 9 (by kernel_rfl))) (enters_rpack _ _) (refPack_any t ht _ _ _ l w1 (HA.later hI.below) (by omega)) (fun e w' h => ?_)
      obtain ⟨v, rfl, ho, hb⟩ := h
      exact ⟨_, rfl, hI.add (by decide) cpF_later (by decide) hb ho.holds⟩
    · have g1 := hF 1 (hpre 1 (by kernel_rfl))
      obtain ⟨A1, c1, h1, H1⟩ := (hF 10 (hpre 10 (by kernel_rfl)))
      exact wpOp_convert rfl (wanted_by (d := 12) rfl _ rfl rfl g1) _ _ _ rfl _ _ h1 (run_text _ _ 5 Try.underlying24 Try.underlying5 Try.underlying9 H1) (hI.add (by decide) cpF_later (by decide) (Below.refl _ _) rfl)
    · have g1 := hF 1 (hpre 1 (by kernel_rfl))
      exact wpOp_bin rfl (wanted_by (d := 12) rfl _ rfl rfl g1) _ _ _ _ _ rfl _ _ _ (hF 6 (hpre 6 (by kernel_rfl))) (hF 11 (hpre 11 (by kernel_rfl))) (run_same_text _ _ _ w1) (hI.add (by decide) cpF_later (by decide) (Below.refl _ _) rfl)
    · exact wpOp_pick rfl (wanted_free rfl) _ _ _ rfl true (hF 1 (hpre 1 (by kernel_rfl))) _ (hF 12 (hpre 12 (by kernel_rfl))) (hI.add (by decide) cpF_later (by decide) (Below.refl _ _) rfl)
    · exact wpOp_assign rfl (wanted_free rfl) _ rfl _ (hF 13 (hpre 13 (by kernel_rfl))) (hI.add (by decide) cpF_later (by decide) (Below.refl _ _) rfl)
  · intro D a w1 hI hall
    have fz : a.eval (.tmp 6) = .bool true := hI.fact 14 (hall 14 (by decide))
    have hd := hI.defs
    have hB := hI.below
    clear hall
    go_wp2
    refine bodyPost_ret (results_tmp rfl a.tmps _ _) hd ⟨?_, hbw.trans (hB.mono hbw.size)⟩
    show Ending.returned (a.eval (.tmp 6)) = _
    rw [fz]
end Go.Proofs.Ytaabhnjikggomaa
