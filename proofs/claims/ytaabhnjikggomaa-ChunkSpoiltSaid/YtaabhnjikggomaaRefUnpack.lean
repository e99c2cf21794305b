/-
  What the reference's Unpack returns: as the plain function 'unpack' of the mathematics says, the bytes in memory of the call's own; nothing that was there is changed. Conditions: the slice reads as bytes, at most 1,000,000 of them; a table of numbers of 32 bits.
-/
import Derived.Test.YtaabhnjikggomaaRefPack
import Derived.Test.YtaabhnjikggomaaChunkUnpack
namespace Go.Proofs.Ytaabhnjikggomaa
open Go.RowKit Leb

theorem unp_stop {S : List Int → List Int} {s : List Int} {f p : Nat} {full : Bool} {acc : List Int} {e : Int} (h : Chunk.rd S s p full = ([], 0, e)) (he : e ≠ 0) : Chunk.unp S s (f + 1) p full acc = ([], 0, e) := by
  rw [Chunk.unp, h]
  simp [he]
theorem unp_end {S : List Int → List Int} {s : List Int} {f p : Nat} {full : Bool} {acc : List Int} {q : Int} (h : Chunk.rd S s p full = ([], q, 0)) : Chunk.unp S s (f + 1) p full acc = (acc, q, 0) := by
  rw [Chunk.unp, h]
  simp
theorem unp_on {S : List Int → List Int} {s : List Int} {f p : Nat} {full : Bool} {acc c : List Int} {q : Int} (h : Chunk.rd S s p full = (c, q, 0)) (hc : c ≠ []) : Chunk.unp S s (f + 1) p full acc = Chunk.unp S s f q.toNat (decide (c.length = 256)) (acc ++ c) := by
  rw [Chunk.unp, h]
  simp [hc]

/-- What the slots of the reference's comparison hold. -/
def ruF (t : Nat → Nat) (b off k c p f m : Nat) (txt chk : List Int) (j : Nat) (v : Value) (w : World) : Prop :=
  match j with
  | 0 => v = .agg (cells32 t).toArray
  | 1 => v = .slice (some ⟨b, off, Option.none⟩) k c
  | 2 => v = .int .i64 p
  | 3 => v = .int .i64 ((f : Int) + m)
  | 4 => v = .slice (some ⟨b, off + p, Option.none⟩) (f + m - p) (c - p)
  | 5 => v = .int .u32 ((4294967295 - Cyc.byTab t 4294967295 txt : Nat) : Int)
  | 6 => BB (sum4 t txt) v w
  | 7 => v = .string (strOfNums (sum4 t txt))
  | 8 => v = .slice (some ⟨b, off, Option.none⟩) k c
  | 9 => v = .int .i64 ((f : Int) + m)
  | 10 => v = .int .i64 ((f : Int) + m)
  | 11 => v = .int .i64 ((f : Int) + m + 4)
  | 12 => v = .slice (some ⟨b, off + (f + m), Option.none⟩) (f + m + 4 - (f + m)) (c - (f + m))
  | 13 => v = .string (strOfNums chk)
  | 14 => v = .bool (!decide (sum4 t txt = chk))
  | _ => True
theorem ruF_later {t : Nat → Nat} {b off k c p f m : Nat} {txt chk : List Int} : Outlives (ruF t b off k c p f m txt chk) := by
  intro j v w w' h hk
  unfold ruF at h ⊢
  split at h
  all_goals first | exact h.keeps hk | exact h

/-- What holds at the head of each round. -/
def RuRel (w : World) (S : List Int → List Int) (s : List Int) (k : Nat) (total : List Int × Int × Int) (tabAt : World → Prop) (a v l : Value) (wr : World) : Prop :=
  ∃ (f p last : Nat) (acc : List Int), a = .int .i64 p ∧ l = .int .i64 last ∧ last ≤ 256 ∧ p ≤ k ∧ k < p + f ∧ acc.length ≤ p ∧ Chunk.unp S s f p (decide (last = 256)) acc = total ∧ Owns wr w.heap.size 5 v acc ∧ tabAt wr ∧ Below w.heap.size w wr

theorem rd_e {S : List Int → List Int} {s : List Int} {p : Nat} {full : Bool} {m : Nat} {q e : Int} (ht : take s p = (m, q, e)) (he : e ≠ 0) : Chunk.rd S s p full = ([], 0, e) := by
  unfold Chunk.rd
  rw [ht]
  simp [he]
theorem rd_over {S : List Int → List Int} {s : List Int} {p : Nat} {full : Bool} {m : Nat} {q : Int} (ht : take s p = (m, q, 0)) (hm : 256 < m) : Chunk.rd S s p full = ([], 0, 2) := by
  unfold Chunk.rd
  rw [ht]
  simp [hm]
theorem rd_order {S : List Int → List Int} {s : List Int} {p : Nat} {m : Nat} {q : Int} (ht : take s p = (m, q, 0)) (hm : m ≤ 256) (h0 : m ≠ 0) : Chunk.rd S s p false = ([], 0, 9) := by
  unfold Chunk.rd
  rw [ht]
  simp [show ¬ 256 < m by omega, h0]
theorem rd_rest {S : List Int → List Int} {s : List Int} {p : Nat} {full : Bool} {m f : Nat} (ht : take s p = (m, (f : Int), 0)) (hm : m ≤ 256) (hf : m ≠ 0 → full = true) : Chunk.rd S s p full =
    if s.length < f + m + 4 then ([], 0, 7) else if S ((s.drop p).take (f + m - p)) ≠ (s.drop (f + m)).take 4 then ([], 0, 6) else ((s.drop f).take m, ((f + m + 4 : Nat) : Int), 0) := by
  unfold Chunk.rd
  rw [ht]
  have h3 : ¬ (m ≠ 0 ∧ full = false) := fun h => by rw [hf h.1] at h; cases h.2
  simp only [ne_eq, not_true_eq_false, if_false, show ¬ 256 < m by omega, if_neg h3, Int.toNat_natCast]

set_option maxRecDepth 100000 in
set_option maxHeartbeats 400000 in
theorem refUnpack_out (t : Nat → Nat) (A : Option Addr) (k c : Nat) (s : List Int) (p : Int) (w : World) (hA : Holds w A k c s) (hp : p < 0 ∨ (k : Int) < p) :
    Calls Try.prog 14 #[.agg (cells32 t).toArray, .slice A k c, .int .i64 p] w (Unpacked w (Chunk.unpack (sum4 t) s p)) := by
  have e : Chunk.unpack (sum4 t) s p = ([], 0, 1) := by rw [Chunk.unpack, if_pos (by rw [hA.len]; exact hp)]
  rw [e]
  clear e
  have et : take s p = (0, 0, 1) := by rw [take, if_pos (by rw [hA.len]; exact hp)]
  generalize (cells32 t).toArray = T at *
  have hB : Below w.heap.size w ((w.alloc (.cells T 25)).alloc (.cells #[] 5)) := ((Below.refl _ w).alloc (Nat.le_refl _) _).alloc (by simp) _
  have hT := Lib.hid (refTake_any A k c s p _ (hA.later hB))
  rw [et] at hT
  have HB := Lib.hid hB
  clear hB et hp
  go_enter Try.func14, Try.ntmps14
  go_wp2
  go_loopw [2, 9, 10] (fun a _ _ wr => a = .int .i64 p ∧ wr = (w.alloc (.cells T 25)).alloc (.cells #[] 5)) (fun _ _ _ _ => 0)
  case atStart => exact ⟨rfl, rfl⟩
  case round =>
    obtain ⟨rfl, rfl⟩ := hrel
    go_wp2_with fail
    refine hT.out.mono ?_
    rintro e w1 ⟨rfl, hb1⟩
    go_wp2_with fail
    go_ret3
    exact ⟨_, rfl, owns_nil _ _ _, HB.out.trans (hb1.mono HB.out.size)⟩

set_option maxRecDepth 100000 in
set_option maxHeartbeats 4000000 in
theorem refUnpack_in (t : Nat → Nat) (ht : ∀ c, t c < 4294967296) (A : Option Addr) (k c : Nat) (s : List Int) (p : Nat) (w : World) (hA : Holds w A k c s) (hk : k ≤ 1000000) (hp : p ≤ k) :
    Calls Try.prog 14 #[.agg (cells32 t).toArray, .slice A k c, .int .i64 p] w (Unpacked w (Chunk.unpack (sum4 t) s p)) := by
  have e : Chunk.unpack (sum4 t) s p = Chunk.unp (sum4 t) s (s.length + 1) p true [] := by rw [Chunk.unpack, if_neg (by rw [hA.len]; omega), Int.toNat_natCast]
  rw [e]
  clear e
  obtain ⟨total, htot⟩ : ∃ total, Chunk.unp (sum4 t) s (s.length + 1) p true [] = total := ⟨_, rfl⟩
  rw [htot]
  have Htot := Lib.hid htot
  clear htot
  have HT : Hid (∀ W : World, W.heap[w.heap.size]? = some (.cells (cells32 t).toArray 25 (0, 0)) → ∀ x, x < 256 → W.cell? ⟨w.heap.size, x, Option.none⟩ = some (.int .u32 (t x))) := fun W hW x hx => by
    rw [cell_of_row _ w.heap.size x _ _ (0, 0) hW]
    simpa using cells32_at t hx
  have h1 := hA.cap
  have h2 := hA.room
  unfold maxLen at h2
  have Hl := Lib.hid hA.len
  generalize (cells32 t).toArray = T at *
  obtain ⟨i0, hi, hz0, hz1, hz2⟩ := info_parts Try.info8
  have h0 := Lib.hid (owns_lit (w.alloc (.cells T 25)) w.heap.size 5 #[] [] rfl Bytes.nil (by simp) (by simp))
  have HB0 := Lib.hid (show Below w.heap.size w ((w.alloc (.cells T 25)).alloc (.cells #[] 5)) from ((Below.refl _ w).alloc (Nat.le_refl _) _).alloc (by simp) _)
  have HbT0 := Lib.hid (heap_alloc2_old w (.cells T 25) (.cells #[] 5))
  go_enter Try.func14, Try.ntmps14
  go_wp2
  go_loopw [2, 9, 10] (fun a v l wr => RuRel w (sum4 t) s k total (fun X => X.heap[w.heap.size]? = some (.cells T 25 (0, 0))) a v l wr) (fun a _ _ _ => k + 1 - (intOf a).toNat)
  case atStart => exact ⟨s.length + 1, p, 256, [], rfl, rfl, by omega, hp, by rw [Hl.out]; omega, by simp, Htot.out, by simpa using h0.out, HbT0.out, HB0.out⟩
  case round =>
    obtain ⟨f, p, last, acc, rfl, rfl, hlast, hpk, hkf, hal, hun, hown, bT, hB⟩ := hrel
    have hws := hB.size
    have HbT := Lib.hid bT
    obtain ⟨f', rfl⟩ : ∃ f', f = f' + 1 := ⟨f - 1, by omega⟩
    obtain ⟨vA, vc, rfl, _⟩ := hown.holds
    have HTk := Lib.hid (refTake_any A k c s p wr (hA.later hB))
    have hfit := Chunk.take_fit hA.byt (p := p) (by rw [Hl.out]; exact hpk)
    have hlt : U64 (take s p).1 := take_lt hA.byt p
    have Hun := Lib.hid hun
    clear hun bT Htot
    generalize hk0 : take s p = kk at *
    obtain ⟨m, q, e⟩ := kk
    simp only at hfit hlt
    have Hk0 := Lib.hid hk0
    clear hk0
    by_cases he : e = 0
    · subst he
      obtain ⟨g1, g2, g3, -⟩ := hfit rfl
      obtain ⟨f, rfl⟩ : ∃ f : Nat, q = f := ⟨_, g3⟩
      simp only [Int.toNat_natCast] at g1 g2
      rw [Hl.out] at g2
      clear g3
      by_cases h256 : 256 < m
      · obtain rfl : total = ([], 0, 2) := by rw [← Hun.out]; exact unp_stop (rd_over Hk0.out h256) (by decide)
        have Hlt := Lib.hid hlt
        clear Hun hfit hlt
        go_wp2_with fail
        refine HTk.out.mono ?_
        rintro e w1 ⟨rfl, hb1⟩
        go_wp2_with fail
        go_ret3
        exact ⟨_, rfl, owns_nil _ _ _, hB.trans (hb1.mono hws)⟩
      · clear hlt hfit
        have hm : m ≤ 256 := by omega
        by_cases hm0 : m ≤ 0
        · have b0 : ((m : Int) == 0) = true := by rw [beq_iff_eq]; omega
          have Hrd := Lib.hid (rd_rest (S := sum4 t) (full := decide (last = 256)) Hk0.out hm (fun h => by omega))
          rw [Hl.out] at Hrd
          by_cases hs : k < f + m + 4
          · obtain rfl : total = ([], 0, 7) := by rw [← Hun.out]; exact unp_stop (by rw [Hrd.out, if_pos hs]) (by decide)
            clear Hun Hrd
            go_wp2_with fail
            refine HTk.out.mono ?_
            rintro e w1 ⟨rfl, hb1⟩
            go_wp2_with fail
            go_ret3
            exact ⟨_, rfl, owns_nil _ _ _, hB.trans (hb1.mono hws)⟩
          · obtain ⟨b, off, rfl, -⟩ := hA.cell (by omega)
            have hX := Lib.hid (show Holds w (some ⟨b, off + (f + m), Option.none⟩) (f + m + 4 - (f + m)) (c - (f + m)) ((s.drop (f + m)).take 4) by
              have := (hA.back (k := f + m) (by omega)).front (k := 4) (by omega)
              rwa [show f + m + 4 - (f + m) = 4 by omega])
            have hY := Lib.hid (show Holds w (some ⟨b, off + p, Option.none⟩) (f + m - p) (c - p) ((s.drop p).take (f + m - p)) from (hA.back (k := p) (by omega)).front (k := f + m - p) (by omega))
            have hZ := Lib.hid (show Holds w (some ⟨b, off + f, Option.none⟩) (f + m - f) (c - f) ((s.drop f).take m) by
              have := (hA.back (k := f) (by omega)).front (k := m) (by omega)
              rwa [show f + m - f = m by omega])
            generalize (s.drop p).take (f + m - p) = txt at *
            generalize (s.drop (f + m)).take 4 = chk at *
            generalize (s.drop f).take m = bod at *
            go_wp2_with fail
            refine HTk.out.mono ?_
            rintro e w1 ⟨rfl, hb1⟩
            have hown1 := hown.kept hb1 (Nat.le_refl _)
            have hB1 : Below w.heap.size w w1 := hB.trans (hb1.mono hws)
            have HbT1 := Lib.hid ((hb1.block _ (Array.getElem?_eq_some_iff.1 HbT.out).1).trans HbT.out)
            clear hown HTk hb1
            go_wp2_with fail
            refine wp_region_each (RInv 73 [43, 44, 45, 46, 47, 48, 49, 50, 51, 52, 53, 54, 55, 56, 57] _ (ruF t b off k c p f m txt chk) w1 NoMore) (by kernel_rfl) (by kernel_rfl) (RInv.start rfl trivial (Below.refl _ _).drew) ?_ ?_
            · intro i hi' D a w2 hI hcl hnd hpre
              have hi'' : i < 15 := hi'
              have hcase : i = 0 ∨ i = 1 ∨ i = 2 ∨ i = 3 ∨ i = 4 ∨ i = 5 ∨ i = 6 ∨ i = 7 ∨ i = 8 ∨ i = 9 ∨ i = 10 ∨ i = 11 ∨ i = 12 ∨ i = 13 ∨ i = 14 := by omega
              have hF := hI.fact
              have hww : Below w.heap.size w w2 := hB1.trans (hI.below.mono hB1.size)
              rcases hcase with rfl | rfl | rfl | rfl | rfl | rfl | rfl | rfl | rfl | rfl | rfl | rfl | rfl | rfl | rfl
              · exact wpOp_load rfl (wanted_free rfl) _ _ rfl _ _ (hI.same 3 (by decide)) (run_loadTab w2 w.heap.size t (HT.out w2 ((hI.below.block _ (Array.getElem?_eq_some_iff.1 HbT1.out).1).trans HbT1.out))) (hI.add (by decide) ruF_later (by decide) (Below.refl _ _) rfl)
              · exact wpOp_move rfl (wanted_free rfl) _ rfl _ (hI.same 1 (by decide)) (hI.add (by decide) ruF_later (by decide) (Below.refl _ _) rfl)
              · exact wpOp_move rfl (wanted_free rfl) _ rfl _ (hI.same 2 (by decide)) (hI.add (by decide) ruF_later (by decide) (Below.refl _ _) rfl)
              · exact wpOp_move rfl (wanted_free rfl) _ rfl _ (hI.same 14 (by decide)) (hI.add (by decide) ruF_later (by decide) (Below.refl _ _) rfl)
              · exact wpOp_slice rfl (wanted_free rfl) _ _ _ _ _ rfl _ _ _ _ _ (hF 1 (hpre 1 (by kernel_rfl))) (congrArg some (hF 2 (hpre 2 (by kernel_rfl)))) (congrArg some (hF 3 (hpre 3 (by kernel_rfl)))) rfl (run_cut2 w2 b off k c _ _ p (f + m) rfl (by simp) (by omega) (by omega) (by omega)) (hI.add (by decide) ruF_later (by decide) (Below.refl _ _) rfl)
              · refine wpOp_call2 rfl (wanted_free rfl) 21 _ _ _ rfl _ _ (hF 0 (hpre 0 (by kernel_rfl))) (hF 4 (hpre 4 (by kernel_rfl))) (enters_by _ _) (refBy_any t ht _ _ _ txt w2 (hY.out.later hww)) (fun e w' h => ?_)
                exact ⟨_, h.1, hI.add (by decide) ruF_later (by decide) h.2 rfl⟩
              · refine wpOp_call1 rfl (wanted_free rfl) 20 _ _ rfl _ (hF 5 (hpre 5 (by kernel_rfl))) (enters_four _ _) (four_any _ w2 (by omega)) (fun e w' h => ?_)
                obtain ⟨v, rfl, ho, hb⟩ := h
                exact ⟨_, rfl, hI.add (by decide) ruF_later (by decide) hb ho.holds⟩
              · obtain ⟨Ax, cx, hx, hH⟩ := hF 6 (hpre 6 (by kernel_rfl))
                exact wpOp_convert rfl (wanted_free rfl) _ _ _ rfl _ _ hx (run_text _ _ 5 Try.underlying24 Try.underlying5 Try.underlying9 hH) (hI.add (by decide) ruF_later (by decide) (Below.refl _ _) rfl)
              · exact wpOp_move rfl (wanted_free rfl) _ rfl _ (hI.same 1 (by decide)) (hI.add (by decide) ruF_later (by decide) (Below.refl _ _) rfl)
              · exact wpOp_move rfl (wanted_free rfl) _ rfl _ (hI.same 14 (by decide)) (hI.add (by decide) ruF_later (by decide) (Below.refl _ _) rfl)
              · exact wpOp_move rfl (wanted_free rfl) _ rfl _ (hI.same 14 (by decide)) (hI.add (by decide) ruF_later (by decide) (Below.refl _ _) rfl)
              · exact wpOp_bin rfl (wanted_free rfl) _ _ _ _ _ rfl _ _ _ (hF 10 (hpre 10 (by kernel_rfl))) rfl (run_add64 _ _ _ _ w2 (by omega) (by omega) (by omega) (by omega)) (hI.add (by decide) ruF_later (by decide) (Below.refl _ _) rfl)
              · exact wpOp_slice rfl (wanted_free rfl) _ _ _ _ _ rfl _ _ _ _ _ (hF 8 (hpre 8 (by kernel_rfl))) (congrArg some (hF 9 (hpre 9 (by kernel_rfl)))) (congrArg some (hF 11 (hpre 11 (by kernel_rfl)))) rfl (run_cut2 w2 b off k c _ _ (f + m) (f + m + 4) (by simp) (by simp) (by omega) (by omega) (by omega)) (hI.add (by decide) ruF_later (by decide) (Below.refl _ _) rfl)
              · exact wpOp_convert rfl (wanted_free rfl) _ _ _ rfl _ _ (hF 12 (hpre 12 (by kernel_rfl))) (run_text _ _ 5 Try.underlying24 Try.underlying5 Try.underlying9 (hX.out.later hww)) (hI.add (by decide) ruF_later (by decide) (Below.refl _ _) rfl)
              · have r3 := fun x y => run_differ x y (strOfNums (sum4 t txt)) (strOfNums chk) w2 _ (show _ = !decide (sum4 t txt = chk) by rw [text_inj ((sum4_sums t).byt txt) hX.out.byt])
                exact wpOp_bin rfl (wanted_free rfl) _ _ _ _ _ rfl _ _ _ (hF 7 (hpre 7 (by kernel_rfl))) (hF 13 (hpre 13 (by kernel_rfl))) (r3 _ _) (hI.add (by decide) ruF_later (by decide) (Below.refl _ _) rfl)
            · intro D a w2 hI hall
              obtain ⟨fs, rfl, hf⟩ := hI.done (by decide) rfl hall
              have hB2 := hI.below
              have h14 : fs 57 = .bool (!decide (sum4 t txt = chk)) := hf 14 (by decide)
              have hown2 := hown1.kept hB2 (Nat.le_refl _)
              have hBw : Below w.heap.size w w2 := hB1.trans (hB2.mono hB1.size)
              have HbT2 := Lib.hid ((hB2.block _ (Array.getElem?_eq_some_iff.1 HbT1.out).1).trans HbT1.out)
              have hws2 := hBw.size
              clear hI hall hf hown1 hB2
              simp only [putAll, List.map_cons, List.map_nil, Act.put, List.setIfInBounds_toArray, List.set_cons_zero, List.set_cons_succ, h14]
              clear h14
              generalize fs 43 = y43
              generalize fs 44 = y44
              generalize fs 45 = y45
              generalize fs 46 = y46
              generalize fs 47 = y47
              generalize fs 48 = y48
              generalize fs 49 = y49
              generalize fs 50 = y50
              generalize fs 51 = y51
              generalize fs 52 = y52
              generalize fs 53 = y53
              generalize fs 54 = y54
              generalize fs 55 = y55
              generalize fs 56 = y56
              by_cases hq : sum4 t txt = chk
              · have hrd := Hrd.out
                rw [if_neg hs, if_neg (fun h => h hq)] at hrd
                have Hrd2 := Lib.hid hrd
                have bq : decide (sum4 t txt = chk) = true := decide_eq_true hq
                rw [bq]
                clear Hrd hrd hq bq
                obtain rfl : bod = [] := List.eq_nil_of_length_eq_zero (by rw [hZ.out.len]; omega)
                obtain rfl : total = (acc, ((f + m + 4 : Nat) : Int), 0) := by rw [← Hun.out]; exact unp_end Hrd2.out
                clear Hun Hrd2
                go_wp2_with fail
                go_ret3
                exact ⟨_, by simp, hown2, hBw⟩
              · obtain rfl : total = ([], 0, 6) := by rw [← Hun.out]; exact unp_stop (by rw [Hrd.out, if_neg hs, if_pos hq]) (by decide)
                have bq : decide (sum4 t txt = chk) = false := decide_eq_false hq
                rw [bq]
                clear Hun Hrd hq bq
                go_wp2_with fail
                go_ret3
                exact ⟨_, rfl, owns_nil _ _ _, hBw⟩
        · have b0 : ((m : Int) == 0) = false := by rw [beq_eq_false_iff_ne]; omega
          by_cases hlst : last < 256
          · have bl : decide (last = 256) = false := by simp; omega
            rw [bl] at Hun
            obtain rfl : total = ([], 0, 9) := by rw [← Hun.out]; exact unp_stop (rd_order Hk0.out hm (by omega)) (by decide)
            clear Hun bl
            go_wp2_with fail
            refine HTk.out.mono ?_
            rintro e w1 ⟨rfl, hb1⟩
            go_wp2_with fail
            go_ret3
            exact ⟨_, rfl, owns_nil _ _ _, hB.trans (hb1.mono hws)⟩
          have hl256 : 256 ≤ last := by omega
          have Hrd := Lib.hid (rd_rest (S := sum4 t) (full := decide (last = 256)) Hk0.out hm (fun _ => by simp; omega))
          rw [Hl.out] at Hrd
          by_cases hs : k < f + m + 4
          · obtain rfl : total = ([], 0, 7) := by rw [← Hun.out]; exact unp_stop (by rw [Hrd.out, if_pos hs]) (by decide)
            clear Hun Hrd
            go_wp2_with fail
            refine HTk.out.mono ?_
            rintro e w1 ⟨rfl, hb1⟩
            go_wp2_with fail
            go_ret3
            exact ⟨_, rfl, owns_nil _ _ _, hB.trans (hb1.mono hws)⟩
          · obtain ⟨b, off, rfl, -⟩ := hA.cell (by omega)
            have hX := Lib.hid (show Holds w (some ⟨b, off + (f + m), Option.none⟩) (f + m + 4 - (f + m)) (c - (f + m)) ((s.drop (f + m)).take 4) by
              have := (hA.back (k := f + m) (by omega)).front (k := 4) (by omega)
              rwa [show f + m + 4 - (f + m) = 4 by omega])
            have hY := Lib.hid (show Holds w (some ⟨b, off + p, Option.none⟩) (f + m - p) (c - p) ((s.drop p).take (f + m - p)) from (hA.back (k := p) (by omega)).front (k := f + m - p) (by omega))
            have hZ := Lib.hid (show Holds w (some ⟨b, off + f, Option.none⟩) (f + m - f) (c - f) ((s.drop f).take m) by
              have := (hA.back (k := f) (by omega)).front (k := m) (by omega)
              rwa [show f + m - f = m by omega])
            generalize (s.drop p).take (f + m - p) = txt at *
            generalize (s.drop (f + m)).take 4 = chk at *
            generalize (s.drop f).take m = bod at *
            go_wp2_with fail
            refine HTk.out.mono ?_
            rintro e w1 ⟨rfl, hb1⟩
            have hown1 := hown.kept hb1 (Nat.le_refl _)
            have hB1 : Below w.heap.size w w1 := hB.trans (hb1.mono hws)
            have HbT1 := Lib.hid ((hb1.block _ (Array.getElem?_eq_some_iff.1 HbT.out).1).trans HbT.out)
            clear hown HTk hb1
            go_wp2_with fail
            refine wp_region_each (RInv 73 [43, 44, 45, 46, 47, 48, 49, 50, 51, 52, 53, 54, 55, 56, 57] _ (ruF t b off k c p f m txt chk) w1 NoMore) (by kernel_rfl) (by kernel_rfl) (RInv.start rfl trivial (Below.refl _ _).drew) ?_ ?_
            · intro i hi' D a w2 hI hcl hnd hpre
              have hi'' : i < 15 := hi'
              have hcase : i = 0 ∨ i = 1 ∨ i = 2 ∨ i = 3 ∨ i = 4 ∨ i = 5 ∨ i = 6 ∨ i = 7 ∨ i = 8 ∨ i = 9 ∨ i = 10 ∨ i = 11 ∨ i = 12 ∨ i = 13 ∨ i = 14 := by omega
              have hF := hI.fact
              have hww : Below w.heap.size w w2 := hB1.trans (hI.below.mono hB1.size)
              rcases hcase with rfl | rfl | rfl | rfl | rfl | rfl | rfl | rfl | rfl | rfl | rfl | rfl | rfl | rfl | rfl
              · exact wpOp_load rfl (wanted_free rfl) _ _ rfl _ _ (hI.same 3 (by decide)) (run_loadTab w2 w.heap.size t (HT.out w2 ((hI.below.block _ (Array.getElem?_eq_some_iff.1 HbT1.out).1).trans HbT1.out))) (hI.add (by decide) ruF_later (by decide) (Below.refl _ _) rfl)
              · exact wpOp_move rfl (wanted_free rfl) _ rfl _ (hI.same 1 (by decide)) (hI.add (by decide) ruF_later (by decide) (Below.refl _ _) rfl)
              · exact wpOp_move rfl (wanted_free rfl) _ rfl _ (hI.same 2 (by decide)) (hI.add (by decide) ruF_later (by decide) (Below.refl _ _) rfl)
              · exact wpOp_move rfl (wanted_free rfl) _ rfl _ (hI.same 14 (by decide)) (hI.add (by decide) ruF_later (by decide) (Below.refl _ _) rfl)
              · exact wpOp_slice rfl (wanted_free rfl) _ _ _ _ _ rfl _ _ _ _ _ (hF 1 (hpre 1 (by kernel_rfl))) (congrArg some (hF 2 (hpre 2 (by kernel_rfl)))) (congrArg some (hF 3 (hpre 3 (by kernel_rfl)))) rfl (run_cut2 w2 b off k c _ _ p (f + m) rfl (by simp) (by omega) (by omega) (by omega)) (hI.add (by decide) ruF_later (by decide) (Below.refl _ _) rfl)
              · refine wpOp_call2 rfl (wanted_free rfl) 21 _ _ _ rfl _ _ (hF 0 (hpre 0 (by kernel_rfl))) (hF 4 (hpre 4 (by kernel_rfl))) (enters_by _ _) (refBy_any t ht _ _ _ txt w2 (hY.out.later hww)) (fun e w' h => ?_)
                exact ⟨_, h.1, hI.add (by decide) ruF_later (by decide) h.2 rfl⟩
              · refine wpOp_call1 rfl (wanted_free rfl) 20 _ _ rfl _ (hF 5 (hpre 5 (by kernel_rfl))) (enters_four _ _) (four_any _ w2 (by omega)) (fun e w' h => ?_)
                obtain ⟨v, rfl, ho, hb⟩ := h
                exact ⟨_, rfl, hI.add (by decide) ruF_later (by decide) hb ho.holds⟩
              · obtain ⟨Ax, cx, hx, hH⟩ := hF 6 (hpre 6 (by kernel_rfl))
                exact wpOp_convert rfl (wanted_free rfl) _ _ _ rfl _ _ hx (run_text _ _ 5 Try.underlying24 Try.underlying5 Try.underlying9 hH) (hI.add (by decide) ruF_later (by decide) (Below.refl _ _) rfl)
              · exact wpOp_move rfl (wanted_free rfl) _ rfl _ (hI.same 1 (by decide)) (hI.add (by decide) ruF_later (by decide) (Below.refl _ _) rfl)
              · exact wpOp_move rfl (wanted_free rfl) _ rfl _ (hI.same 14 (by decide)) (hI.add (by decide) ruF_later (by decide) (Below.refl _ _) rfl)
              · exact wpOp_move rfl (wanted_free rfl) _ rfl _ (hI.same 14 (by decide)) (hI.add (by decide) ruF_later (by decide) (Below.refl _ _) rfl)
              · exact wpOp_bin rfl (wanted_free rfl) _ _ _ _ _ rfl _ _ _ (hF 10 (hpre 10 (by kernel_rfl))) rfl (run_add64 _ _ _ _ w2 (by omega) (by omega) (by omega) (by omega)) (hI.add (by decide) ruF_later (by decide) (Below.refl _ _) rfl)
              · exact wpOp_slice rfl (wanted_free rfl) _ _ _ _ _ rfl _ _ _ _ _ (hF 8 (hpre 8 (by kernel_rfl))) (congrArg some (hF 9 (hpre 9 (by kernel_rfl)))) (congrArg some (hF 11 (hpre 11 (by kernel_rfl)))) rfl (run_cut2 w2 b off k c _ _ (f + m) (f + m + 4) (by simp) (by simp) (by omega) (by omega) (by omega)) (hI.add (by decide) ruF_later (by decide) (Below.refl _ _) rfl)
              · exact wpOp_convert rfl (wanted_free rfl) _ _ _ rfl _ _ (hF 12 (hpre 12 (by kernel_rfl))) (run_text _ _ 5 Try.underlying24 Try.underlying5 Try.underlying9 (hX.out.later hww)) (hI.add (by decide) ruF_later (by decide) (Below.refl _ _) rfl)
              · have r3 := fun x y => run_differ x y (strOfNums (sum4 t txt)) (strOfNums chk) w2 _ (show _ = !decide (sum4 t txt = chk) by rw [text_inj ((sum4_sums t).byt txt) hX.out.byt])
                exact wpOp_bin rfl (wanted_free rfl) _ _ _ _ _ rfl _ _ _ (hF 7 (hpre 7 (by kernel_rfl))) (hF 13 (hpre 13 (by kernel_rfl))) (r3 _ _) (hI.add (by decide) ruF_later (by decide) (Below.refl _ _) rfl)
            · intro D a w2 hI hall
              obtain ⟨fs, rfl, hf⟩ := hI.done (by decide) rfl hall
              have hB2 := hI.below
              have h14 : fs 57 = .bool (!decide (sum4 t txt = chk)) := hf 14 (by decide)
              have hown2 := hown1.kept hB2 (Nat.le_refl _)
              have hBw : Below w.heap.size w w2 := hB1.trans (hB2.mono hB1.size)
              have HbT2 := Lib.hid ((hB2.block _ (Array.getElem?_eq_some_iff.1 HbT1.out).1).trans HbT1.out)
              have hws2 := hBw.size
              clear hI hall hf hown1 hB2
              simp only [putAll, List.map_cons, List.map_nil, Act.put, List.setIfInBounds_toArray, List.set_cons_zero, List.set_cons_succ, h14]
              clear h14
              generalize fs 43 = y43
              generalize fs 44 = y44
              generalize fs 45 = y45
              generalize fs 46 = y46
              generalize fs 47 = y47
              generalize fs 48 = y48
              generalize fs 49 = y49
              generalize fs 50 = y50
              generalize fs 51 = y51
              generalize fs 52 = y52
              generalize fs 53 = y53
              generalize fs 54 = y54
              generalize fs 55 = y55
              generalize fs 56 = y56
              by_cases hq : sum4 t txt = chk
              · have hrd := Hrd.out
                rw [if_neg hs, if_neg (fun h => h hq)] at hrd
                have Hrd2 := Lib.hid hrd
                have bq : decide (sum4 t txt = chk) = true := decide_eq_true hq
                rw [bq]
                clear Hrd hrd hq bq
                have hbl : bod.length = m := by rw [hZ.out.len]; omega
                have hbn : bod ≠ [] := fun h => by rw [h] at hbl; simp at hbl; omega
                have htot : Chunk.unp (sum4 t) s f' (f + m + 4) (decide (m = 256)) (acc ++ bod) = total := by
                  rw [← Hun.out, unp_on Hrd2.out hbn, hbl, Int.toNat_natCast]
                have Htot := Lib.hid htot
                have Hbl := Lib.hid hbl
                clear htot Hun Hrd2 hbl hbn
                go_wp2_with (at_builtin; refine wpList_append_bytes rfl (.tmp 63) (.tmp 67) 24 rfl w.heap.size 5 i0 Try.underlying24 hi hz0 hz1 hz2 (.slice vA acc.length vc) acc rfl hown2 _ _ _ bod rfl (hZ.out.later hBw) (by omega) hws2 ?_; intro v3 w3 hown3 hg3 hat3)
                have hB3 : Below w.heap.size w w3 := below_own hBw hown2 hg3 hws2
                have hT3 := (kept_grown (Bs := []) hown2 hws2 hg3).other _ _ _ _ (by simp) (by decide) HbT2.out
                go_roundw
                case rel => exact ⟨f', f + m + 4, m, acc ++ bod, by go_num, rfl, by omega, by omega, by omega, by rw [List.length_append, Hbl.out]; omega, Htot.out, hown3, hT3, hB3⟩
                case measure => simp [intOf]; omega
              · obtain rfl : total = ([], 0, 6) := by rw [← Hun.out]; exact unp_stop (by rw [Hrd.out, if_neg hs, if_pos hq]) (by decide)
                have bq : decide (sum4 t txt = chk) = false := decide_eq_false hq
                rw [bq]
                clear Hun Hrd hq bq
                go_wp2_with fail
                go_ret3
                exact ⟨_, rfl, owns_nil _ _ _, hBw⟩
    · obtain rfl : total = ([], 0, e) := by rw [← Hun.out]; exact unp_stop (rd_e Hk0.out he) he
      have b0 : (e == 0) = false := by rw [beq_eq_false_iff_ne]; exact he
      have Hlt := Lib.hid hlt
      clear Hun hfit hlt
      go_wp2_with fail
      refine HTk.out.mono ?_
      rintro e w1 ⟨rfl, hb1⟩
      go_wp2_with fail
      go_ret3
      exact ⟨_, rfl, owns_nil _ _ _, hB.trans (hb1.mono hws)⟩

/-- The reference's Unpack, for any bytes and any offset. -/
theorem refUnpack_any (t : Nat → Nat) (ht : ∀ c, t c < 4294967296) (A : Option Addr) (k c : Nat) (s : List Int) (p : Int) (w : World) (hA : Holds w A k c s) (hk : k ≤ 1000000) :
    Calls Try.prog 14 #[.agg (cells32 t).toArray, .slice A k c, .int .i64 p] w (Unpacked w (Chunk.unpack (sum4 t) s p)) := by
  by_cases h : p < 0 ∨ (k : Int) < p
  · exact refUnpack_out t A k c s p w hA h
  · obtain ⟨q, rfl⟩ : ∃ q : Nat, p = q := ⟨p.toNat, by omega⟩
    exact refUnpack_in t ht A k c s q w hA hk (by omega)
end Go.Proofs.Ytaabhnjikggomaa
