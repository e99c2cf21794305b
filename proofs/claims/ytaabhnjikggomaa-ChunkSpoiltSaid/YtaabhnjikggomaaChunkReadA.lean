/-
  What chunk.read returns: as the plain function 'rd' of the mathematics says; nothing that was there is changed. Conditions: the slice reads as bytes, at most 1,000,000 of them, and the offset lies within.
-/
import Derived.Test.YtaabhnjikggomaaChunkRead
import Derived.Test.YtaabhnjikggomaaCycWords
namespace Go.Proofs.Ytaabhnjikggomaa
open Go.RowKit Leb

theorem rd_tsz (S : List Int → List Int) (s : List Int) (p : Nat) (full : Bool) : Chunk.rd S s p full =
    if (tsz s p full).2.2 ≠ 0 then ([], 0, (tsz s p full).2.2)
    else if s.length < (tsz s p full).2.1.toNat + (tsz s p full).1 + 4 then ([], 0, 7)
    else if S ((s.drop p).take ((tsz s p full).2.1.toNat + (tsz s p full).1 - p)) ≠ (s.drop ((tsz s p full).2.1.toNat + (tsz s p full).1)).take 4 then ([], 0, 6)
    else ((s.drop (tsz s p full).2.1.toNat).take (tsz s p full).1, (((tsz s p full).2.1.toNat + (tsz s p full).1 + 4 : Nat) : Int), 0) := by
  unfold Chunk.rd tsz
  generalize take s p = k
  obtain ⟨m, q, e⟩ := k
  by_cases h1 : e = 0
  · subst h1
    by_cases h2 : 256 < m
    · simp [h2]
    · by_cases h3 : m ≠ 0 ∧ full = false
      · simp [h2, h3]
      · simp [h2, h3]
  · simp [h1]

theorem tsz_fit {s : List Int} (hb : Bytes s) {p : Nat} (hp : p ≤ s.length) {full : Bool} {m : Nat} {q : Int} (h : tsz s p full = (m, q, 0)) :
    ∃ f : Nat, q = f ∧ p < f ∧ f ≤ s.length ∧ m ≤ 256 := by
  unfold tsz at h
  by_cases h1 : (take s p).2.2 = 0
  · rw [if_neg (by simpa using h1)] at h
    obtain ⟨f1, f2, f3, _⟩ := Chunk.take_fit hb hp h1
    by_cases h2 : 256 < (take s p).1
    · rw [if_pos h2] at h; simp at h
    rw [if_neg h2] at h
    by_cases h3 : (take s p).1 ≠ 0 ∧ full = false
    · rw [if_pos h3] at h; simp at h
    rw [if_neg h3] at h
    injection h with ha hq
    injection hq with hq _
    exact ⟨_, by rw [← hq]; exact f3, f1, f2, by omega⟩
  · rw [if_pos h1] at h
    injection h with _ h
    injection h with _ h
    exact absurd h h1

/-- The end of read. -/
def ReadEnd (w0 w : World) (r : List Int × Int × Int) (e : Ending) (w' : World) : Prop :=
  ∃ B k d, e = .returned (.tuple #[.agg #[.slice B k d, .int .i64 r.2.1], .int .i64 r.2.2]) ∧ Holds w0 B k d r.1 ∧ Below w.heap.size w w'

theorem run_cut2 (w : World) (b off n c : Nat) (x y : Int) (i j : Nat) (hx : x = i) (hy : y = j) (h1 : i ≤ j) (h2 : j ≤ c) (h3 : i < c) :
    (Instr.sliceAt 24 (.slice (some ⟨b, off, Option.none⟩) n c) (some (.int .i64 x)) (some (.int .i64 y)) Option.none).run Try.prog w = .ok (.slice (some ⟨b, off + i, Option.none⟩) (j - i) (c - i)) w := by
  subst hx
  subst hy
  have f2 : (0 : Int) ≤ (i : Int) := by omega
  have f3 : (0 : Int) ≤ (j : Int) := by omega
  have f4 : (i : Int) ≤ (j : Int) := by omega
  have f5 : (j : Int) ≤ (c : Int) := by omega
  have f8 : ¬ c = i := by omega
  go_simp
theorem run_build_one (w : World) (A : Option Addr) (n c : Nat) : (Instr.buildSlice 61 1 #[(0, .slice A n c)]).run Try.prog w = .ok (.slice (some ⟨w.heap.size, 0, Option.none⟩) 1 1) (w.alloc (.cells #[.slice A n c] 24)) := by go_simp
theorem enters_equal (vs : Array Value) (w : World) : (callFunc 30 vs).run Try.prog w = .ok (.enter 30 vs) w := by kernel_rfl
theorem run_not (w : World) (b : Bool) : (Op.unary .not (.bool b)).run Try.prog w = .ok (.bool (!b)) w := by go_simp
theorem pp_one (w : World) {A1 : Option Addr} {n1 c1 : Nat} {l1 : List Int} (h1 : Holds w A1 n1 c1 l1) :
    PP [l1] (.slice (some ⟨w.heap.size, 0, Option.none⟩) 1 1) (w.alloc (.cells #[.slice A1 n1 c1] 24)) := by
  refine ⟨_, 1, rfl, rfl, fun _ => ⟨w.heap.size, 0, rfl, fun j hj => ?_⟩⟩
  have hc := cell_of_row (w.alloc (.cells #[.slice A1 n1 c1] 24)) w.heap.size j _ _ (0, 0) (heap_alloc_new w _)
  rw [Nat.zero_add, hc]
  obtain rfl : j = 0 := by have : j < 1 := hj; omega
  exact ⟨A1, _, c1, rfl, h1.alloc _⟩
theorem regs_one (t : Nat → Nat) (l : List Int) : regs t [l] = Cyc.byTab t 4294967295 l := by simp [regs]
theorem regs_two (t : Nat → Nat) (a b : List Int) : regs t [a, b] = Cyc.byTab t 4294967295 (a ++ b) := by simp [regs]

/-- What the slots of read's comparison hold. -/
def rdF (t : Nat → Nat) (b off n c p f m : Nat) (txt chk : List Int) (j : Nat) (v : Value) (w : World) : Prop :=
  match j with
  | 0 => v = .slice (some ⟨b, off, Option.none⟩) n c
  | 1 => v = .int .i64 ((f : Int) + m)
  | 2 => v = .int .i64 ((f : Int) + m + 4)
  | 3 => v = .slice (some ⟨b, off + (f + m), Option.none⟩) (f + m + 4 - (f + m)) (c - (f + m))
  | 4 => v = .agg (cells32 t).toArray
  | 5 => v = .slice (some ⟨b, off, Option.none⟩) n c
  | 6 => v = .int .i64 p
  | 7 => v = .int .i64 ((f : Int) + m)
  | 8 => v = .slice (some ⟨b, off + p, Option.none⟩) (f + m - p) (c - p)
  | 9 => PP [txt] v w
  | 10 => v = .int .u32 ((4294967295 - regs t [txt] : Nat) : Int)
  | 11 => BB (sum4 t txt) v w
  | 12 => v = .bool (decide (chk = sum4 t txt))
  | 13 => v = .bool (!decide (chk = sum4 t txt))
  | _ => True
theorem rdF_later {t : Nat → Nat} {b off n c p f m : Nat} {txt chk : List Int} : Outlives (rdF t b off n c p f m txt chk) := by
  intro j v w w' h hk
  unfold rdF at h ⊢
  split at h
  all_goals first | exact h.keeps hk | exact h

set_option maxRecDepth 100000 in
set_option maxHeartbeats 1600000 in
theorem read_any (t : Nat → Nat) (ht : ∀ c, t c < 4294967296) (A : Option Addr) (n c : Nat) (s : List Int) (p : Nat) (full : Bool) (w0 w : World) (hA0 : Holds w0 A n c s) (hA : Holds w A n c s) (hp : p ≤ n) (hn : n ≤ 1000000) :
    Calls Try.prog 28 #[.agg (cells32 t).toArray, .slice A n c, .int .i64 p, .bool full] w (ReadEnd w0 w (Chunk.rd (sum4 t) s p full)) := by
  have h1 := hA.cap
  have h2 := hA.room
  unfold maxLen at h2
  have hl := hA.len
  have hW : Below w.heap.size w ((w.alloc (.cells (cells32 t).toArray 25)).alloc (.cells #[.slice Option.none 0 0, .int .i64 0] 56)) := ((Below.refl _ _).alloc (Nat.le_refl _) _).alloc (by simp) _
  have HZ := Lib.hid (takeSize_any A n c s p full _ (hA.later hW))
  have HT : Hid (∀ x, x < 256 → ((w.alloc (.cells (cells32 t).toArray 25)).alloc (.cells #[.slice Option.none 0 0, .int .i64 0] 56)).cell? ⟨w.heap.size, x, Option.none⟩ = some (.int .u32 (t x))) := fun x hx => by
    rw [cell_of_row _ w.heap.size x _ _ (0, 0) (heap_alloc2_old w _ _)]
    simpa using cells32_at t hx
  have HW := Lib.hid hW
  clear hW
  obtain ⟨r, hr⟩ : ∃ r, r = Chunk.rd (sum4 t) s p full := ⟨_, rfl⟩
  rw [← hr]
  rw [rd_tsz] at hr
  have hfit := fun m q => @tsz_fit s hA.byt p (by omega) full m q
  generalize tsz s p full = k at *
  obtain ⟨m, q, e⟩ := k
  simp only at hr
  rw [hl] at hr
  have Hr := Lib.hid hr
  have Hl := Lib.hid hl
  clear hr hl
  by_cases he : e = 0
  · subst he
    obtain ⟨f, rfl, hf1, hf2, hm⟩ := hfit m q rfl
    rw [Hl.out] at hf2
    clear hfit
    simp only [Int.toNat_natCast] at Hr
    by_cases hs : n < f + m + 4
    · obtain rfl : r = ([], 0, 7) := by rw [Hr.out, if_neg (by simp), if_pos hs]
      clear Hr HT
      generalize (cells32 t).toArray = T at *
      go_enter Try.func28, Try.ntmps28
      go_wp2_with fail
      refine HZ.out.mono ?_
      rintro e w' ⟨rfl, rfl⟩
      go_wp2_with fail
      refine bodyPost_ret (v := .tuple #[.agg #[.slice Option.none 0 0, .int .i64 0], .int .i64 7]) (by simp [results, Try.results28, go_sem]) rfl ⟨Option.none, 0, 0, rfl, holds_nil w0, HW.out⟩
    · obtain ⟨b, off, rfl, _⟩ := hA.cell (by omega)
      have hX := Lib.hid (show Holds w (some ⟨b, off + (f + m), Option.none⟩) (f + m + 4 - (f + m)) (c - (f + m)) ((s.drop (f + m)).take 4) by
        have := (hA.back (k := f + m) (by omega)).front (k := 4) (by omega)
        rwa [show f + m + 4 - (f + m) = 4 by omega])
      have hY := Lib.hid (show Holds w (some ⟨b, off + p, Option.none⟩) (f + m - p) (c - p) ((s.drop p).take (f + m - p)) from (hA.back (k := p) (by omega)).front (k := f + m - p) (by omega))
      have hZ := Lib.hid (show Holds w0 (some ⟨b, off + f, Option.none⟩) m (c - f) ((s.drop f).take m) from (hA0.back (k := f) (by omega)).front (k := m) (by omega))
      generalize (s.drop p).take (f + m - p) = txt at *
      generalize (s.drop (f + m)).take 4 = chk at *
      generalize (s.drop f).take m = bod at *
      generalize (cells32 t).toArray = T at *
      go_enter Try.func28, Try.ntmps28
      go_wp2_with fail
      refine HZ.out.mono ?_
      rintro e w' ⟨rfl, rfl⟩
      go_wp2_with fail
      obtain ⟨W, hW⟩ : ∃ W, W = (w.alloc (.cells T 25)).alloc (.cells #[.slice Option.none 0 0, .int .i64 0] 56) := ⟨_, rfl⟩
      have hcp : W.heap[w.heap.size + 1]? = some (.cells #[.slice Option.none 0 0, .int .i64 0] 56 (0, 0)) := by rw [hW]; exact heap_alloc2_new w _ _
      rw [← hW] at HT HW ⊢
      clear HZ hW
      refine wp_region_each (RInv 59 [38, 39, 40, 41, 42, 43, 44, 45, 46, 47, 48, 49, 50, 51] _ (rdF t b off n c p f m txt chk) W NoMore) (by kernel_rfl) (by kernel_rfl) (RInv.start rfl trivial (Below.refl _ _).drew) ?_ ?_
      · intro i hi D a w1 hI hcl hnd hpre
        have hi' : i < 14 := hi
        have hcase : i = 0 ∨ i = 1 ∨ i = 2 ∨ i = 3 ∨ i = 4 ∨ i = 5 ∨ i = 6 ∨ i = 7 ∨ i = 8 ∨ i = 9 ∨ i = 10 ∨ i = 11 ∨ i = 12 ∨ i = 13 := by omega
        have hF := hI.fact
        have hww : Below w.heap.size w w1 := HW.out.trans (hI.below.mono HW.out.size)
        rcases hcase with rfl | rfl | rfl | rfl | rfl | rfl | rfl | rfl | rfl | rfl | rfl | rfl | rfl | rfl
        · exact wpOp_move rfl (wanted_free rfl) _ rfl _ (hI.same 1 (by decide)) (hI.add (by decide) rdF_later (by decide) (Below.refl _ _) rfl)
        · exact wpOp_move rfl (wanted_free rfl) _ rfl _ (hI.same 13 (by decide)) (hI.add (by decide) rdF_later (by decide) (Below.refl _ _) rfl)
        · exact wpOp_move rfl (wanted_free rfl) _ rfl _ (hI.same 14 (by decide)) (hI.add (by decide) rdF_later (by decide) (Below.refl _ _) rfl)
        · exact wpOp_slice rfl (wanted_free rfl) _ _ _ _ _ rfl _ _ _ _ _ (hF 0 (hpre 0 (by kernel_rfl))) (congrArg some (hF 1 (hpre 1 (by kernel_rfl)))) (congrArg some (hF 2 (hpre 2 (by kernel_rfl)))) rfl (run_cut2 w1 b off n c _ _ (f + m) (f + m + 4) (by simp) (by simp) (by omega) (by omega) (by omega)) (hI.add (by decide) rdF_later (by decide) (Below.refl _ _) rfl)
        · exact wpOp_load rfl (wanted_free rfl) _ _ rfl _ _ (hI.same 4 (by decide)) (run_loadTab w1 w.heap.size t (fun c hc => below_cells hI.below (HT.out c hc))) (hI.add (by decide) rdF_later (by decide) (Below.refl _ _) rfl)
        · exact wpOp_move rfl (wanted_free rfl) _ rfl _ (hI.same 1 (by decide)) (hI.add (by decide) rdF_later (by decide) (Below.refl _ _) rfl)
        · exact wpOp_move rfl (wanted_free rfl) _ rfl _ (hI.same 2 (by decide)) (hI.add (by decide) rdF_later (by decide) (Below.refl _ _) rfl)
        · exact wpOp_move rfl (wanted_free rfl) _ rfl _ (hI.same 13 (by decide)) (hI.add (by decide) rdF_later (by decide) (Below.refl _ _) rfl)
        · exact wpOp_slice rfl (wanted_free rfl) _ _ _ _ _ rfl _ _ _ _ _ (hF 5 (hpre 5 (by kernel_rfl))) (congrArg some (hF 6 (hpre 6 (by kernel_rfl)))) (congrArg some (hF 7 (hpre 7 (by kernel_rfl)))) rfl (run_cut2 w1 b off n c _ _ p (f + m) rfl (by simp) (by omega) (by omega) (by omega)) (hI.add (by decide) rdF_later (by decide) (Below.refl _ _) rfl)
        · have h8 : a.eval (.tmp 46) = _ := hF 8 (hpre 8 (by kernel_rfl))
          exact wpOp_build rfl (wanted_free rfl) _ _ _ rfl #[(0, .slice (some ⟨b, off + p, Option.none⟩) (f + m - p) (c - p))] (by simp [h8]) _ (run_build_one w1 _ _ _) (hI.add (by decide) rdF_later (by decide) ((Below.refl _ _).alloc (Nat.le_refl _) _) (pp_one w1 (hY.out.later hww)))
        · obtain ⟨P, d, hv, hPP⟩ := hF 9 (hpre 9 (by kernel_rfl))
          refine wpOp_call2 rfl (wanted_free rfl) 18 _ _ _ rfl _ _ (hF 4 (hpre 4 (by kernel_rfl))) hv (enters_sum _ _) (sum_said t ht P 1 d _ w1 hPP (by omega)) (fun e w' h => ?_)
          exact ⟨_, h.1, hI.add (by decide) rdF_later (by decide) h.2 rfl⟩
        · refine wpOp_call2 rfl (wanted_free rfl) 17 _ _ _ rfl _ _ rfl (hF 10 (hpre 10 (by kernel_rfl))) (enters_put32 _ _) (put_said _ _ _ [] _ w1 (by omega) (holds_nil w1) (by simp)) (fun e w' h => ?_)
          obtain ⟨v, rfl, ho, hb⟩ := h
          refine ⟨_, rfl, hI.add (by decide) rdF_later (by decide) hb ?_⟩
          have := ho.holds
          rw [List.nil_append, regs_one] at this
          exact this
        · obtain ⟨A1, c1, hv, hH⟩ := hF 11 (hpre 11 (by kernel_rfl))
          refine wpOp_call2 rfl (wanted_free rfl) 30 _ _ _ rfl _ _ (hF 3 (hpre 3 (by kernel_rfl))) hv (enters_equal _ _) (equal_any _ _ _ _ _ _ chk _ w1 (hX.out.later hww) hH) (fun e w' h => ?_)
          obtain ⟨rfl, rfl⟩ := h
          exact ⟨_, rfl, hI.add (by decide) rdF_later (by decide) (Below.refl _ _) rfl⟩
        · exact wpOp_unary rfl (wanted_free rfl) _ _ _ rfl _ _ (hF 12 (hpre 12 (by kernel_rfl))) (run_not w1 _) (hI.add (by decide) rdF_later (by decide) (Below.refl _ _) rfl)
      · intro D a w1 hI hall
        obtain ⟨fs, rfl, hf⟩ := hI.done (by decide) rfl hall
        have hB := hI.below
        have h13 : fs 51 = .bool (!decide (chk = sum4 t txt)) := hf 13 (by decide)
        have hcw : w1.heap[w.heap.size + 1]? = some (.cells #[.slice Option.none 0 0, .int .i64 0] 56 (0, 0)) := (hB.block _ (Array.getElem?_eq_some_iff.1 hcp).1).trans hcp
        have hww : Below w.heap.size w w1 := HW.out.trans (hB.mono HW.out.size)
        have hc0 : w1.cell? ⟨w.heap.size + 1, 0, Option.none⟩ = some (.slice Option.none 0 0) := by rw [cell_of_row _ _ _ _ _ _ hcw]; rfl
        have hc1 : w1.cell? ⟨w.heap.size + 1, 1, Option.none⟩ = some (.int .i64 0) := by rw [cell_of_row _ _ _ _ _ _ hcw]; rfl
        have hf0 := frozen_of_row _ _ 0 _ _ hcw
        have hf1 := frozen_of_row _ _ 1 _ _ hcw
        clear hI hall hf hB hcw hcp
        simp only [putAll, List.map_cons, List.map_nil, Act.put, List.setIfInBounds_toArray, List.set_cons_zero, List.set_cons_succ, h13]
        clear h13
        generalize fs 38 = u38
        generalize fs 39 = u39
        generalize fs 40 = u40
        generalize fs 41 = u41
        generalize fs 42 = u42
        generalize fs 43 = u43
        generalize fs 44 = u44
        generalize fs 45 = u45
        generalize fs 46 = u46
        generalize fs 47 = u47
        generalize fs 48 = u48
        generalize fs 49 = u49
        generalize fs 50 = u50
        by_cases hq : chk = sum4 t txt
        · obtain rfl : r = (bod, ((f + m + 4 : Nat) : Int), 0) := by rw [Hr.out, if_neg (by simp), if_neg hs, if_neg (fun h => h hq.symm)]
          have bq : decide (chk = sum4 t txt) = true := decide_eq_true hq
          rw [bq]
          clear Hr hq bq
          go_wp2_with fail
          have hs1 : ((w1.setCell ⟨w.heap.size + 1, 0, Option.none⟩ (.slice (some ⟨b, off + f, Option.none⟩) m (c - f))).setCell ⟨w.heap.size + 1, 1, Option.none⟩ (.int .i64 ((f : Int) + m + 4))).cell? ⟨w.heap.size + 1, 0, Option.none⟩ = some (.slice (some ⟨b, off + f, Option.none⟩) m (c - f)) := by
            rw [World.cell?_setCell_other _ _ _ _ (by simp)]
            exact World.cell?_setCell_same' _ _ _ (by rw [hc0]; rfl)
          have hs2 : ((w1.setCell ⟨w.heap.size + 1, 0, Option.none⟩ (.slice (some ⟨b, off + f, Option.none⟩) m (c - f))).setCell ⟨w.heap.size + 1, 1, Option.none⟩ (.int .i64 ((f : Int) + m + 4))).cell? ⟨w.heap.size + 1, 1, Option.none⟩ = some (.int .i64 ((f : Int) + m + 4)) :=
            World.cell?_setCell_same' _ _ _ (by rw [World.cell?_setCell_other _ _ _ _ (by simp), hc1]; rfl)
          refine bodyPost_ret (v := .tuple #[.agg #[.slice (some ⟨b, off + f, Option.none⟩) m (c - f), .int .i64 ((f : Int) + m + 4)], .int .i64 0]) (by simp [results, Try.results28, go_sem, hs1, hs2]) rfl ⟨_, _, _, by simp, hZ.out, ?_⟩
          exact ((hww.setCell (p := ⟨w.heap.size + 1, 0, Option.none⟩) (by simp) _).setCell (p := ⟨w.heap.size + 1, 1, Option.none⟩) (by simp) _)
        · obtain rfl : r = ([], 0, 6) := by rw [Hr.out, if_neg (by simp), if_neg hs, if_pos (fun h => hq h.symm)]
          have bq : decide (chk = sum4 t txt) = false := decide_eq_false hq
          rw [bq]
          clear Hr hq bq
          go_wp2_with fail
          have hs1 : ((w1.setCell ⟨w.heap.size + 1, 0, Option.none⟩ (.slice Option.none 0 0)).setCell ⟨w.heap.size + 1, 1, Option.none⟩ (.int .i64 0)).cell? ⟨w.heap.size + 1, 0, Option.none⟩ = some (.slice Option.none 0 0) := by
            rw [World.cell?_setCell_other _ _ _ _ (by simp)]
            exact World.cell?_setCell_same' _ _ _ (by rw [hc0]; rfl)
          have hs2 : ((w1.setCell ⟨w.heap.size + 1, 0, Option.none⟩ (.slice Option.none 0 0)).setCell ⟨w.heap.size + 1, 1, Option.none⟩ (.int .i64 0)).cell? ⟨w.heap.size + 1, 1, Option.none⟩ = some (.int .i64 0) :=
            World.cell?_setCell_same' _ _ _ (by rw [World.cell?_setCell_other _ _ _ _ (by simp), hc1]; rfl)
          refine bodyPost_ret (v := .tuple #[.agg #[.slice Option.none 0 0, .int .i64 0], .int .i64 6]) (by simp [results, Try.results28, go_sem, hs1, hs2]) rfl ⟨_, _, _, rfl, holds_nil w0, ?_⟩
          exact ((hww.setCell (p := ⟨w.heap.size + 1, 0, Option.none⟩) (by simp) _).setCell (p := ⟨w.heap.size + 1, 1, Option.none⟩) (by simp) _)
  · obtain rfl : r = ([], 0, e) := by rw [Hr.out, if_pos he]
    have b0 : (e == 0) = false := by rw [beq_eq_false_iff_ne]; omega
    clear Hr HT hfit
    generalize (cells32 t).toArray = T at *
    go_enter Try.func28, Try.ntmps28
    go_wp2_with fail
    refine HZ.out.mono ?_
    rintro e w' ⟨rfl, rfl⟩
    go_wp2_with fail
    refine bodyPost_ret (v := .tuple #[.agg #[.slice Option.none 0 0, .int .i64 0], .int .i64 e]) (by simp [results, Try.results28, go_sem]) rfl ⟨Option.none, 0, 0, rfl, holds_nil w0, HW.out⟩
end Go.Proofs.Ytaabhnjikggomaa
