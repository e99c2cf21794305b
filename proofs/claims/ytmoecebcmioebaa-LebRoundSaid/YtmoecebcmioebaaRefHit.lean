/-
  The reference's Take where a byte ends the number: it returns what the plain function 'take' says. Condition: the slice reads as bytes.
-/
import Derived.Test.YtmoecebcmioebaaRefTake
import Derived.Deep.RegionHeld3
namespace Go.Proofs.Ytmoecebcmioebaa
open Go.RowKit Leb

set_option maxRecDepth 100000 in
set_option maxHeartbeats 800000 in
theorem refTake_hit (b off : Nat) (n c : Nat) (l : List Int) (p s : Nat) (w : World) (hA : Holds w (some ⟨b, off, Option.none⟩) n c l) (hps : p + s < n) (hs10 : s < 10)
    (hall : ∀ j, j < s → 128 ≤ (l.drop p)[j]?.getD 0) (hend : (l.drop p)[s]?.getD 0 < 128) :
    Calls Try.prog 13 #[.slice (some ⟨b, off, Option.none⟩) n c, .int .i64 p] w (RefTook w (take l p)) := by
  have h1 := hA.cap
  have h2 := hA.room
  unfold maxLen at h2
  have hR := hA.back (k := p) (by omega)
  have hspan : span (l.drop p) = s + 1 := span_hit (by rw [hR.len]; omega) hs10 hall hend
  obtain ⟨r, hr⟩ : ∃ r, r = take l p := ⟨_, rfl⟩
  rw [← hr]
  rw [take, if_neg (by rw [hA.len]; omega)] at hr
  simp only [Int.toNat_natCast] at hr
  rw [hspan, if_neg (fun h => by have := h.1; omega)] at hr
  have hE : Leb.Ends ((l.drop p).take (s + 1)) := by rw [← hspan]; exact ends_span hR.byt (by omega)
  have hF := hR.front (k := s + 1) (by omega)
  have hcell : ∀ j, p ≤ j → j ≤ p + s → ∃ x : Int, 0 ≤ x ∧ x ≤ 255 ∧ x = (l.drop p)[j - p]?.getD 0 ∧ (j < p + s → 128 ≤ x) ∧ (j = p + s → x < 128) ∧ w.cell? ⟨b, off + j, Option.none⟩ = some (.int .u8 x) := by
    intro j hj hjn
    obtain ⟨b', off', e, hc⟩ := hA.cell (by omega)
    injection e with e
    injection e with e1 e2
    subst e1
    subst e2
    have h3 := hA.byt.getD j
    have h4 : (l.drop p)[j - p]?.getD 0 = l[j]?.getD 0 := by rw [List.getElem?_drop, show p + (j - p) = j by omega]
    refine ⟨_, h3.1, h3.2, h4.symm, fun h => ?_, fun h => ?_, hc j (by omega)⟩
    · rw [← h4]; exact hall _ (by omega)
    · rw [← h4, show j - p = s by omega]; exact hend
  have hq := hR.len
  generalize l.drop p = q at *
  have HC := Lib.hid hcell
  have Hr := Lib.hid hr
  have HE := Lib.hid hE
  have Hq := Lib.hid hq
  clear hcell hr hE hq hall hend hspan
  go_enter Try.func13, Try.ntmps13
  go_wp2
  go_loop [7] (fun t => ∃ j : Nat, p ≤ j ∧ j ≤ p + s ∧ t = .int .i64 j) (fun t => p + s - (intOf t).toNat)
  case atStart => exact ⟨p, Nat.le_refl _, by omega, rfl⟩
  case round =>
    obtain ⟨j, hj, hjn, rfl⟩ := hrel
    obtain ⟨x, hx0, hx1, hx2, hx3, hx4, hc⟩ := HC.out j hj hjn
    clear hx2
    by_cases hlt : j < p + s
    · have hx5 := hx3 hlt
      clear hx3 hx4
      go_wp2
      go_round
      case rel => exact ⟨j + 1, by omega, by omega, by go_num⟩
      case measure => simp [intOf]; omega
    · obtain rfl : j = p + s := by omega
      have hx5 := hx4 rfl
      clear hx3 hx4
      have b10 : ((p : Int) + s - p == 10) = false := by rw [beq_eq_false_iff_ne]; omega
      have bn : ((p : Int) + s == n) = false := by rw [beq_eq_false_iff_ne]; omega
      go_wp2
      clear hc hx5 hx0 hx1 b10 bn
      go_loop [8, 9, 10] (fun t u v => ∃ i : Nat, p ≤ i ∧ i ≤ p + s + 1 ∧ v = .int .i64 i ∧ t = .int .u64 (low64 (val (q.take (i - p)))) ∧ u = .int .u64 (low64 (128 ^ (i - p)))) (fun _ _ v => p + s + 1 - (intOf v).toNat)
      case atStart => exact ⟨p, Nat.le_refl _, by omega, rfl, by simp [val, low64], by simp [low64]⟩
      case round =>
        obtain ⟨i, hi, hin, rfl, rfl, rfl⟩ := hrel
        by_cases hle : i ≤ p + s
        · obtain ⟨y, hy0, hy1, hy2, hy3, hy4, hc⟩ := HC.out i hi hle
          have S1 := Lib.hid (sum_step (k := i - p) (q := q) (by have := Hq.out; omega) hy2)
          have S2 := Lib.hid (pow_step (i - p))
          have e3 : i + 1 - p = i - p + 1 := by omega
          have E3 := Lib.hid e3
          clear hy2 hy3 hy4 e3
          go_wp2
          go_round
          case rel => exact ⟨i + 1, by omega, by omega, by go_num, by rw [E3.out, ← S1.out], by rw [E3.out, ← S2.out]⟩
          case measure => simp [intOf]; omega
        · obtain rfl : i = p + s + 1 := by omega
          have e4 : p + s + 1 - p = s + 1 := by omega
          rw [e4]
          clear e4
          go_wp2
          have f1 : IntKind.i64.wrap ((p : Int) + s + 1) = (p : Int) + s + 1 := IntWalk.i64_in _ (by omega)
          have f2 : (0 : Int) ≤ (p : Int) := by omega
          have f3 : (0 : Int) ≤ (p : Int) + s + 1 := by omega
          have f4 : (p : Int) ≤ (p : Int) + s + 1 := by omega
          have f5 : (p : Int) + s + 1 ≤ (c : Int) := by omega
          have f6 : ((p : Int) + s + 1).toNat = p + s + 1 := by omega
          have hFd : Holds w.drew (some ⟨b, off + p, Option.none⟩) (p + s + 1 - p) (c - p) (q.take (s + 1)) := by rw [show p + s + 1 - p = s + 1 by omega]; exact hF.drew
          have cv0 := run_text (P := Try.prog) 22 9 5 Try.underlying22 Try.underlying5 Try.underlying9 hFd
          go_region_with (go_at_call 10; refine (bytes_any _ _ (low64_u _)).mono ?_; rintro e w1 ⟨v, rfl, hown, hb1⟩; obtain ⟨A1, c1, rfl, hA1⟩ := hown.holds; have cv1 := run_text (P := Try.prog) 22 9 5 Try.underlying22 Try.underlying5 Try.underlying9 hA1; have cv2 := run_text (P := Try.prog) 22 9 5 Try.underlying22 Try.underlying5 Try.underlying9 (hFd.later hb1))
          all_goals
            have hB : Below w.heap.size w w1 := (Below.refl _ _).drew.trans hb1
            have hN := wrap_of (low64_u (val (q.take (s + 1))))
            clear hFd cv0 cv1 cv2 hown hb1 hA1 f1 f6 hN
            cases hu : uniq (q.take (s + 1)) with
            | false =>
              have hne : (!(strOfNums (enc (low64 (val (q.take (s + 1)))))).toList == (strOfNums (q.take (s + 1))).toList) = true := by
                rw [Bool.not_eq_true', text_inj (enc_bytes _) hF.byt, decide_eq_false_iff_not, low64, uniq_enc HE.out (by rw [hF.len]; omega), hu]
                simp
              obtain rfl : r = (0, 0, 4) := by rw [Hr.out, if_pos (.inr hu)]
              rw [hne]
              clear hu Hr hne
              go_wp2
              go_ret3
              exact ⟨rfl, hB⟩
            | true =>
              have heq : (!(strOfNums (enc (low64 (val (q.take (s + 1)))))).toList == (strOfNums (q.take (s + 1))).toList) = false := by
                rw [Bool.not_eq_false', text_inj (enc_bytes _) hF.byt, decide_eq_true_iff, low64, uniq_enc HE.out (by rw [hF.len]; omega), hu]
              have hr : r = (low64 (val (q.take (s + 1))), (p : Int) + s + 1, 0) := by
                rw [Hr.out, if_neg (fun h => h.elim (fun h => by omega) (fun h => by rw [hu] at h; cases h))]
                have e1 : low64 (val (q.take (s + 1))) = val (q.take (s + 1)) := Nat.mod_eq_of_lt (val_lt HE.out (by rw [hF.len]; omega) ((uniq_iff _).1 hu).1)
                rw [e1]
                congr 2
              obtain rfl := hr
              rw [heq]
              clear hu Hr heq
              go_wp2
              go_ret3
              exact ⟨rfl, hB⟩

/-- The reference's Take, for any bytes and any offset. -/
theorem refTake_any (A : Option Addr) (n c : Nat) (l : List Int) (p : Int) (w : World) (hA : Holds w A n c l) :
    Calls Try.prog 13 #[.slice A n c, .int .i64 p] w (RefTook w (take l p)) := by
  by_cases h : p < 0 ∨ (n : Int) < p
  · exact refTake_out A n c l p w hA h
  · obtain ⟨k, rfl⟩ : ∃ k : Nat, p = k := ⟨p.toNat, by omega⟩
    have hkn : k ≤ n := by omega
    have hlen : (l.drop k).length = n - k := by rw [List.length_drop, hA.len]
    rcases span_cases (l.drop k) with ⟨_, hall⟩ | ⟨s, _, h1, h2, h3, h4⟩
    · by_cases h10 : n - k < 10
      · exact refTake_short A n c l k w hA hkn h10 hall
      · exact refTake_long A n c l k w hA (by omega) hall
    · rw [hlen] at h1
      obtain ⟨b, off, rfl, _⟩ := hA.cell (by omega)
      exact refTake_hit b off n c l k s w hA (by omega) h2 h3 h4
end Go.Proofs.Ytmoecebcmioebaa
