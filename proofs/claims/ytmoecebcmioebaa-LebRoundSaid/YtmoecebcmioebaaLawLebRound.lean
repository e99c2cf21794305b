/-
  The walk of the statement LebRound: for any two slices of bytes and any number of 64 bits it returns true, and nothing that was there is changed.
-/
import Derived.Test.YtmoecebcmioebaaLawLebTakes
import Derived.Deep.QuietTactic
import Derived.BigQuiet
namespace Go.Proofs.Ytmoecebcmioebaa
open Go.RowKit Leb

/-- What a call that gives bytes back leaves, with the length under a name. -/
theorem Gives.open {w : World} {e : TypeId} {l : List Int} {en : Ending} {w' : World} (h : Gives w e l en w') : ∃ A c, en = .returned (.slice A l.length c) ∧ Holds w' A l.length c l ∧ Below w.heap.size w w' := by
  obtain ⟨v, rfl, ho, hb⟩ := h
  obtain ⟨A, c, rfl, hA⟩ := ho.holds
  exact ⟨A, c, rfl, hA, hb⟩

set_option maxRecDepth 100000 in
set_option maxHeartbeats 4000000 in
theorem lebRound_law (A : Option Addr) (na ca : Nat) (la0 : List Int) (B : Option Addr) (nb cb : Nat) (lb0 : List Int) (n : Nat) (w : World) (hA : Holds w A na ca la0) (hB : Holds w B nb cb lb0) (hn : U64 n) :
    Calls Try.prog 5 #[.slice A na ca, .slice B nb cb, .int .u64 n] w (Yes w) := by
  obtain ⟨i0, hi, hz0, hz1, hz2⟩ := info_parts Try.info8
  have hAs := hA.short
  have hBs := hB.short
  have hka : min na 200 ≤ 200 := Nat.min_le_right _ _
  have hkb : min nb 200 ≤ 200 := Nat.min_le_right _ _
  have SA : ∀ W, Below w.heap.size w W → Calls Try.prog 9 #[.slice A na ca] W fun e w' => e = .returned (.slice A (min na 200) ca) ∧ W = w' := fun W hb => short_any A na ca la0 W (hA.later hb)
  have SB : ∀ W, Below w.heap.size w W → Calls Try.prog 9 #[.slice B nb cb] W fun e w' => e = .returned (.slice B (min nb 200) cb) ∧ W = w' := fun W hb => short_any B nb cb lb0 W (hB.later hb)
  generalize min na 200 = ka at *
  generalize la0.take ka = la at *
  generalize min nb 200 = kb at *
  generalize lb0.take kb = lb at *
  have HSA := Lib.hid SA
  have HSB := Lib.hid SB
  clear SA SB hA hB
  obtain ⟨N, hN⟩ : ∃ N, (la ++ enc n).length = N := ⟨_, rfl⟩
  have hsz : size n ≤ 10 := size_le10 hn
  have hsp : 1 ≤ size n := size_pos n
  have hN1 : N = ka + size n := by rw [← hN, List.length_append, hAs.len]; rfl
  have hN2 : N ≤ 210 := by omega
  have hN3 : 1 ≤ N := by omega
  have HN := Lib.hid hN
  have HN1 := Lib.hid hN1
  clear hN hN1
  go_enter Try.func5, Try.ntmps5
  go_wp2_with fail
  refine (HSA.out w (Below.refl _ _)).mono ?_
  rintro e w' ⟨rfl, rfl⟩
  go_wp2_with fail
  refine (put_any _ _ _ _ n _ hn hAs (by omega)).mono ?_
  intro e w1 hg
  obtain ⟨X, cx, rfl, hX, hb1⟩ := hg.open
  rw [HN.out] at hX ⊢
  clear hg
  have hO1 := Lib.hid (owns_lit w1 w1.heap.size 5 #[] [] rfl Bytes.nil (by simp) (Nat.le_refl _))
  have hX1 := Lib.hid (hX.alloc (.cells #[] 5))
  have bw1 : Below w1.heap.size w1 (w1.alloc (.cells #[] 5)) := (Below.refl _ _).alloc (Nat.le_refl _) _
  go_wp2_with (at_builtin; refine wpList_append_bytes rfl (.tmp 22) (.tmp 23) 22 rfl w1.heap.size 5 i0 Try.underlying22 hi hz0 hz1 hz2 (.slice (some ⟨w1.heap.size, 0, Option.none⟩) 0 0) [] rfl hO1.out X N cx (la ++ enc n) rfl hX1.out (by simp; omega) bw1.size ?_; intro v2 w2 hown2 hg2 hat2)
  have bw2 : Below w1.heap.size w1 w2 := below_own bw1 hO1.out hg2 bw1.size
  have b2 : Below w.heap.size w w2 := hb1.trans (bw2.mono hb1.size)
  clear hO1 hX1 bw1 hg2 hat2
  refine (HSB.out w2 b2).mono ?_
  rintro e w' ⟨rfl, rfl⟩
  have hl2 : ([] ++ (la ++ enc n)).length + kb ≤ 140737488355328 := by rw [List.nil_append, HN.out]; omega
  have Hl2 := Lib.hid hl2
  have hB2 := Lib.hid (hBs.later b2)
  clear hl2
  go_wp2_with (at_builtin; refine wpList_append_bytes rfl (.tmp 24) (.tmp 26) 22 rfl w1.heap.size 5 i0 Try.underlying22 hi hz0 hz1 hz2 v2 _ rfl hown2 B kb cb lb rfl hB2.out Hl2.out bw2.size ?_; intro v3 w3 hown3 hg3 hat3)
  have bw3 : Below w1.heap.size w1 w3 := below_own bw2 hown2 hg3 bw2.size
  have b3 : Below w.heap.size w w3 := hb1.trans (bw3.mono hb1.size)
  obtain ⟨Y, cy, rfl, hY⟩ := hown3.holds
  rw [List.nil_append] at hY ⊢
  clear hown2 hg3 hat3 hown3 Hl2 hB2 bw2 b2
  refine (HSA.out w3 b3).mono ?_
  rintro e w' ⟨rfl, rfl⟩
  obtain ⟨M, hM⟩ : ∃ M, (la ++ enc n ++ lb).length = M := ⟨_, rfl⟩
  rw [hM] at hY ⊢
  have hM1 : M ≤ 500 := by rw [← hM, List.length_append, HN.out, hBs.len]; omega
  clear hM
  go_wp2_with fail
  have t1 : take (la ++ enc n ++ lb) (ka : Int) = (n, (N : Int), 0) := by
    have := take_enc la lb hn
    rw [HN.out, hAs.len] at this
    exact this
  refine (take_is hY t1).mono ?_
  rintro e w' ⟨rfl, rfl⟩
  clear t1
  go_wp2_with fail
  have hX3 := hX.later bw3
  clear hX
  obtain ⟨bx, ox, rfl, _⟩ := hX3.cell (by omega)
  have hcx := hX3.cap
  have hXs := Lib.hid (hX3.front (k := N - 1) (by omega))
  have t2 : take ((la ++ enc n).take (N - 1)) (ka : Int) = (0, 0, 7) := by
    have := take_short la hn
    rw [HN.out, hAs.len] at this
    exact this
  have T2 := Lib.hid t2
  clear t2
  have f1 : IntKind.i64.wrap ((N : Int) - 1) = (N : Int) - 1 := IntWalk.i64_in _ (by omega)
  have f2 : (0 : Int) ≤ (N : Int) - 1 := by omega
  have f3 : (N : Int) - 1 ≤ (cx : Int) := by omega
  have f4 : ((N : Int) - 1).toNat = N - 1 := by omega
  go_quiet (first
    | (go_at_call 9; exact Calls.quiet_of_same ((HSA.out _ (below_drewN b3 _)).mono fun _ _ h => ⟨h.1, h.2.symm⟩))
    | (go_at_call 12; exact Calls.quiet_of_same ((take_is (hXs.out.drewN _) T2.out).mono fun _ _ h => ⟨h.1, h.2.symm⟩)))
  have b4 : Below w.heap.size w (w3.drewN nq) := below_drewN b3 nq
  generalize w3.drewN nq = w4 at *
  clear f1 f2 f3 f4 hXs T2 hX3 hcx hY hM1 bw3 b3 hb1 HN HN1
  obtain ⟨k, q, g, ht⟩ : ∃ k q g, take lb 0 = (k, q, g) := ⟨_, _, _, rfl⟩
  have HT := Lib.hid ht
  have hB4 := hBs.later b4
  have HB4 := Lib.hid hB4
  clear ht
  by_cases hg : g = 0
  · subst hg
    obtain ⟨hq0, hq1, hq2, hk⟩ := take_only hBs.byt HT.out
    rw [hBs.len] at hq1
    go_wp2_with fail
    refine (HSB.out w4 b4).mono ?_
    rintro e w' ⟨rfl, rfl⟩
    go_wp2_with fail
    refine (take_is HB4.out HT.out).mono ?_
    rintro e w' ⟨rfl, rfl⟩
    go_wp2_with fail
    obtain ⟨Q, rfl⟩ := Int.eq_ofNat_of_zero_le hq0
    rw [Int.toNat_natCast] at hq2
    have hQ : Q ≤ kb := by omega
    have hQ1 : 1 ≤ Q := by
      have h1 : 1 ≤ (enc k).length := size_pos k
      rw [hq2, List.length_take] at h1
      omega
    have hF := hB4.front hQ
    rw [← hq2] at hF
    have HF := Lib.hid hF
    obtain ⟨bb, ob, rfl, _⟩ := hB4.cell (by omega)
    have hcb := hB4.cap
    have d1 : decide ((kb : Int) < (Q : Int)) = false := by rw [decide_eq_false_iff_not]; omega
    have d2 : decide (kb < Q) = false := by rw [decide_eq_false_iff_not]; omega
    have f2 : (0 : Int) ≤ (Q : Int) := by omega
    have f3 : (Q : Int) ≤ (cb : Int) := by omega
    clear hq0 hq1 hq2 hF HT hB4
    go_region_with (first
      | (go_at_call 9; refine (HSB.out _ (by first | exact b5 | exact b4.drew)).mono ?_; rintro e w' ⟨rfl, rfl⟩)
      | (go_at_call 8; refine (put_any _ _ _ _ k _ hk (holds_nil _) (by omega)).mono ?_; intro e w5 hg5; obtain ⟨A5, c5, rfl, hA5, hb5⟩ := hg5.open; clear hg5; rw [List.nil_append] at hA5 ⊢; have b5 : Below w.heap.size w w5 := b4.drew.trans (hb5.mono b4.size); have cv1 := run_text (P := Try.prog) 22 9 5 Try.underlying22 Try.underlying5 Try.underlying9 hA5; have cv2 := run_text (P := Try.prog) 22 9 5 Try.underlying22 Try.underlying5 Try.underlying9 (HF.out.drew.later hb5)))
    all_goals
      clear cv1 cv2 d1 d2 hA5 HF hcb f2 f3
      go_wp2_with fail
      refine (awake_any _).mono ?_
      rintro e w6 ⟨rfl, hb6⟩
      go_wp2
      go_ret
      exact ⟨rfl, b5.trans (hb6.mono b5.size)⟩
  · have bg : (g == 0) = false := by rw [beq_eq_false_iff_ne]; exact hg
    go_wp2_with fail
    refine (HSB.out w4 b4).mono ?_
    rintro e w' ⟨rfl, rfl⟩
    go_wp2_with fail
    refine (take_is HB4.out HT.out).mono ?_
    rintro e w' ⟨rfl, rfl⟩
    go_wp2_with fail
    go_quiet (fail)
    go_wp2_with fail
    refine (awake_any _).mono ?_
    rintro e w5 ⟨rfl, hb5⟩
    go_wp2
    go_ret
    exact ⟨rfl, (below_drewN b4 _).trans (hb5.mono (below_drewN b4 _).size)⟩
end Go.Proofs.Ytmoecebcmioebaa
