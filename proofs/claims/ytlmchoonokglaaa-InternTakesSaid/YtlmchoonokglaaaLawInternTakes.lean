/-
  The walk of the statement InternTakes: for any texts and any bytes it returns true, and nothing that was there is changed.
-/
import Derived.Test.YtlmchoonokglaaaTabWords
namespace Go.Proofs.Ytlmchoonokglaaa
open Go.RowKit Go.Lib Go.Maps Go.WideMaps Leb

set_option maxHeartbeats 16000000 in
set_option maxRecDepth 100000 in
theorem internTakes_law (B : Option Addr) (m d : Nat) (l0 : List (List UInt8)) (A : Option Addr) (n c : Nat) (X : List Int) (w : World) (hl : Txs w B m d l0) (hX : Holds w A n c X) :
    Calls Try.prog 4 #[.slice B m d, .slice A n c] w fun e w' => e = .returned (.bool true) ∧ Below w.heap.size w w' := by
  have hl' := Lib.hid hl
  have hX' := Lib.hid hX
  have hcap := hX.cap
  have hroom := hX.room
  unfold maxLen at hroom
  have hfl := fewT_len l0
  have hfs := Lib.hid (fewT_short l0)
  obtain ⟨L, hL⟩ : ∃ L, L = fewT l0 := ⟨_, rfl⟩
  rw [← hL] at hfl hfs
  have hL' := Lib.hid hL.symm
  clear hl hX hL
  go_enter Try.func4, Try.ntmps4
  go_wp2_with (first
    | (go_at_call 6; refine (newP_any w).mono ?_; rintro e w1 ⟨b1, S1, rfl, hp1, hlo1, hb1⟩; have hb1' := Lib.hid hb1; have hD2 := Lib.hid (duo_new hp1 hlo1 hb1); have hB2 := Lib.hid (hb1.alloc hb1.size (.cells #[.slice Option.none 0 0] 28)); have hT2 := Lib.hid (hl'.out.later hB2.out); clear hp1 hlo1 hb1)
    | (go_at_call 7; refine (few19_any B m d l0 _ hT2.out).mono ?_; rintro e w3 ⟨v3, rfl, ho3, hb3⟩; have hD3 := Lib.hid (hD2.out.later hb3); have hB3 := Lib.hid (belowB hB2.out hb3 hB2.out.size); rw [hL'.out] at ho3; obtain ⟨A3, c3, rfl, hL3⟩ := lst_own ho3 hD2.out.p.low hD2.out.r.low; obtain ⟨m3, hm3⟩ : ∃ m3, m3 = L.length := ⟨_, rfl⟩; rw [← hm3] at hL3; have hL3' := Lib.hid hL3; rw [← hm3]; rw [← hm3] at hfl; clear hm3; clear ho3 hb3 hL3))
  go_loopw [8] (fun i wr => ∃ (k : Nat) (T : List (List UInt8)) (S1 S2 : Nat → Prop), k ≤ m3 ∧ i = .int .i64 k ∧ Duo w.heap.size wr b1 T S1 w1.heap.size T S2 ∧ T.length ≤ k ∧ Lst wr A3 m3 L S1 S2 ∧ Below w.heap.size w wr) (fun i _ => m3 - (RowKit.intOf i).toNat)
  case atStart => exact ⟨0, [], _, _, Nat.zero_le _, rfl, hD3.out, Nat.zero_le _, hL3'.out, hB3.out⟩
  case round =>
    obtain ⟨k, T, S1', S2', hk, rfl, hD, hTl, hL, hB⟩ := hrel
    have hD := Lib.hid hD
    have hL := Lib.hid hL
    have hB := Lib.hid hB
    replace hD := hD
    by_cases hk : k < m3
    · obtain ⟨g, y, rfl, hy, h1⟩ := lst_at hL.out hk
      have hys : y.length ≤ 300 := hfs.out y (List.mem_of_getElem? hy)
      have hputP := Lib.hid (fun W S (h : PTab W b1 T S) => putP_any b1 T S Option.none 0 0 [] y W h (by omega) (holds_nil W) (fun _ _ e => by cases e) (by omega))
      have hputR := Lib.hid (fun W S (h : RTab W w1.heap.size T S) => putR_any w1.heap.size T S Option.none 0 0 [] y W h (by omega) (holds_nil W) (by omega))
      have hy' := Lib.hid hy
      obtain ⟨x, hx⟩ : ∃ x, x = mk y := ⟨_, rfl⟩
      have hx' := Lib.hid hx
      rw [← hx] at h1 hputP hputR
      have hpl := Lib.hid (putL_len T y)
      clear hy hx hys
      go_wp2_with (first
        | (go_at_call 8; refine (hputP.out _ _ hD.out.p).mono ?_; rintro e w4 ⟨r4, S4, rfl, _, _, hs4⟩; have hD4 := Lib.hid (hD.out.stepP hs4 hB.out.size); have hB4 := Lib.hid (hD.out.onP hB.out hs4 hB.out.size); have hL4 := Lib.hid (hL.out.stepP hs4); obtain ⟨g4, y4, e4, f4, h4⟩ := lst_at hL4.out hk; injection e4 with e4; injection e4 with e4; subst e4; rw [hy'.out] at f4; injection f4 with f4; subst f4; rw [← hx'.out] at h4; clear hs4)
        | (go_at_call 9; refine (hputR.out _ _ hD4.out.r).mono ?_; rintro e w5 ⟨r5, S5, rfl, _, _, hs5⟩; have hD5 := Lib.hid (hD4.out.stepR hs5 hB4.out.size); have hB5 := Lib.hid (hD4.out.onR hB4.out hs5 hB4.out.size); have hL5 := Lib.hid (hL4.out.stepR hs5); clear hs5))
      go_roundw
      case rel => exact ⟨k + 1, _, _, _, by omega, by go_num, hD5.out, Nat.le_trans hpl.out (by omega), hL5.out, hB5.out⟩
      case measure => simp [RowKit.intOf]; omega
    · obtain rfl : k = m3 := by omega
      by_cases h3 : 3000 < n
      · have hXn := hX'.out.cell (by omega)
        obtain ⟨gX, oX, rfl, _⟩ := hXn
        have hd3 : decide ((3000 : Int) < (n : Int)) = true := decide_eq_true (by omega)
        have h3' := Lib.hid h3
        have hc3 : 3000 ≤ c := by omega
        clear h3
        go_wp2
        go_loopw [10, 11] (fun at_ i wr => ∃ (k : Nat) (q : Int) (T : List (List UInt8)) (S1 S2 : Nat → Prop), k ≤ 40 ∧ i = .int .i64 k ∧ at_ = .int .i64 q ∧ Duo w.heap.size wr b1 T S1 w1.heap.size T S2 ∧ T.length ≤ 40 + k ∧ Below w.heap.size w wr) (fun _ i _ => 40 - (RowKit.intOf i).toNat)
        case atStart => exact ⟨0, 0, T, _, _, by omega, rfl, rfl, hD.out, by omega, hB.out⟩
        case round =>
          obtain ⟨k, q, T, S1', S2', hk, rfl, rfl, hD, hTl, hB⟩ := hrel
          have hD := Lib.hid hD
          have hB := Lib.hid hB
          have haw := Lib.hid (fun W => awake19_any W)
          by_cases hk4 : k < 40
          · have htP := fun W S (h : PTab W b1 T S) (hb : Below w.heap.size w W) => takeP_any b1 T S _ 3000 c (X.take 3000) q W h (by omega) ((hX'.out.front (k := 3000) (Nat.le_of_lt h3'.out)).later hb) (by omega)
            have htR := fun W S (h : RTab W w1.heap.size T S) (hb : Below w.heap.size w W) => takeR_any w1.heap.size T S _ 3000 c (X.take 3000) q W h (by omega) ((hX'.out.front (k := 3000) (Nat.le_of_lt h3'.out)).later hb) (by omega)
            have htl := takeL_len T (X.take 3000) q
            obtain ⟨r, hr⟩ : ∃ r, r = takeB T (X.take 3000) q := ⟨_, rfl⟩
            obtain ⟨T', hT'⟩ : ∃ T', T' = takeL T (X.take 3000) q := ⟨_, rfl⟩
            simp only [← hr, ← hT'] at htP htR htl
            clear hr hT'
            obtain ⟨s, n1, e1⟩ := r
            unfold TakeEnd at htP
            unfold TakeEndR at htR
            simp only at htP htR
            obtain ⟨z, hz⟩ : ∃ z, z = mk s := ⟨_, rfl⟩
            rw [← hz] at htP htR
            have htP' := Lib.hid htP
            have htR' := Lib.hid htR
            have htl' := Lib.hid htl
            have hkd : decide ((k : Int) < 40) = true := decide_eq_true (by omega)
            have hk4' := Lib.hid hk4
            clear htP htR hz htl hk4
            go_wp2_with (first
              | (go_at_call 12; refine (htP'.out _ _ hD.out.p hB.out).mono ?_; rintro e w4 ⟨S4, rfl, hs4⟩; have hD4 := Lib.hid (hD.out.stepP hs4 hB.out.size); have hB4 := Lib.hid (hD.out.onP hB.out hs4 hB.out.size); clear hs4)
              | (go_at_call 13; refine (htR'.out _ _ hD4.out.r hB4.out).mono ?_; rintro e w5 ⟨S5, rfl, hs5⟩; have hD3 := Lib.hid (hD4.out.stepR hs5 hB4.out.size); have hB5 := Lib.hid (hD4.out.onR hB4.out hs5 hB4.out.size); clear hs5; obtain ⟨A9, c9, hc⟩ := hD3.out.r.list; have hc9 := Lib.hid hc; clear hc))
            obtain ⟨b2, hb2⟩ : ∃ b2, b2 = w1.heap.size := ⟨_, rfl⟩
            rw [← hb2] at hc9 hD3 ⊢
            refine wp_region_each (RInv 95 [67, 68, 69, 70, 71, 72, 73, 74, 75, 76, 77, 78, 79, 80, 81, 82, 83, 84, 85, 86, 87, 88, 89] _ (tkF z n1 e1 b1 b2 A9 T'.length c9) w5 NoMore) (by kernel_rfl) (by kernel_rfl) (RInv.start rfl trivial (Below.refl _ _).drew) ?_ ?_
            · intro i hi D a wy hI hcl hnd hpre
              have hi' : i < 23 := hi
              have hcase : i = 0 ∨ i = 1 ∨ i = 2 ∨ i = 3 ∨ i = 4 ∨ i = 5 ∨ i = 6 ∨ i = 7 ∨ i = 8 ∨ i = 9 ∨ i = 10 ∨ i = 11 ∨ i = 12 ∨ i = 13 ∨ i = 14 ∨ i = 15 ∨ i = 16 ∨ i = 17 ∨ i = 18 ∨ i = 19 ∨ i = 20 ∨ i = 21 ∨ i = 22 := by omega
              have hF := hI.fact
              rcases hcase with rfl | rfl | rfl | rfl | rfl | rfl | rfl | rfl | rfl | rfl | rfl | rfl | rfl | rfl | rfl | rfl | rfl | rfl | rfl | rfl | rfl | rfl | rfl
              · exact wpOp_move rfl (wanted_free rfl) _ rfl _ (hI.same 12 (by decide)) (hI.add (by decide) tkF_later (by decide) (Below.refl _ _) rfl)
              · exact wpOp_move rfl (wanted_free rfl) _ rfl _ (hI.same 15 (by decide)) (hI.add (by decide) tkF_later (by decide) (Below.refl _ _) rfl)
              · exact wpOp_bin rfl (wanted_free rfl) _ _ _ _ _ rfl _ _ _ (hF 0 (hpre 0 (by kernel_rfl))) (hF 1 (hpre 1 (by kernel_rfl))) (run_neqS9 _ _ _ wy) (hI.add (by decide) tkF_later (by decide) (Below.refl _ _) rfl)
              · exact wpOp_move rfl (wanted_free rfl) _ rfl _ (hF 2 (hpre 2 (by kernel_rfl))) (hI.add (by decide) tkF_later (by decide) (Below.refl _ _) rfl)
              · have g3 := hF 3 (hpre 3 (by kernel_rfl))
                exact wpOp_move rfl (wanted_by (d := 70) rfl _ rfl rfl g3) _ rfl _ (hI.same 13 (by decide)) (hI.add (by decide) tkF_later (by decide) (Below.refl _ _) rfl)
              · have g3 := hF 3 (hpre 3 (by kernel_rfl))
                exact wpOp_move rfl (wanted_by (d := 70) rfl _ rfl rfl g3) _ rfl _ (hI.same 16 (by decide)) (hI.add (by decide) tkF_later (by decide) (Below.refl _ _) rfl)
              · have g3 := hF 3 (hpre 3 (by kernel_rfl))
                exact wpOp_bin rfl (wanted_by (d := 70) rfl _ rfl rfl g3) _ _ _ _ _ rfl _ _ _ (hF 4 (hpre 4 (by kernel_rfl))) (hF 5 (hpre 5 (by kernel_rfl))) (run_neqI9 _ _ _ wy) (hI.add (by decide) tkF_later (by decide) (Below.refl _ _) rfl)
              · exact wpOp_pick rfl (wanted_free rfl) _ _ _ rfl false (hF 3 (hpre 3 (by kernel_rfl))) _ (hF 6 (hpre 6 (by kernel_rfl))) (hI.add (by decide) tkF_later (by decide) (Below.refl _ _) rfl)
              · exact wpOp_move rfl (wanted_free rfl) _ rfl _ (hF 7 (hpre 7 (by kernel_rfl))) (hI.add (by decide) tkF_later (by decide) (Below.refl _ _) rfl)
              · have g8 := hF 8 (hpre 8 (by kernel_rfl))
                exact wpOp_move rfl (wanted_by (d := 75) rfl _ rfl rfl g8) _ rfl _ (hI.same 14 (by decide)) (hI.add (by decide) tkF_later (by decide) (Below.refl _ _) rfl)
              · have g8 := hF 8 (hpre 8 (by kernel_rfl))
                exact wpOp_move rfl (wanted_by (d := 75) rfl _ rfl rfl g8) _ rfl _ (hI.same 17 (by decide)) (hI.add (by decide) tkF_later (by decide) (Below.refl _ _) rfl)
              · have g8 := hF 8 (hpre 8 (by kernel_rfl))
                exact wpOp_bin rfl (wanted_by (d := 75) rfl _ rfl rfl g8) _ _ _ _ _ rfl _ _ _ (hF 9 (hpre 9 (by kernel_rfl))) (hF 10 (hpre 10 (by kernel_rfl))) (run_neqI9 _ _ _ wy) (hI.add (by decide) tkF_later (by decide) (Below.refl _ _) rfl)
              · exact wpOp_pick rfl (wanted_free rfl) _ _ _ rfl false (hF 8 (hpre 8 (by kernel_rfl))) _ (hF 11 (hpre 11 (by kernel_rfl))) (hI.add (by decide) tkF_later (by decide) (Below.refl _ _) rfl)
              · exact wpOp_move rfl (wanted_free rfl) _ rfl _ (hF 12 (hpre 12 (by kernel_rfl))) (hI.add (by decide) tkF_later (by decide) (Below.refl _ _) rfl)
              · have g13 := hF 13 (hpre 13 (by kernel_rfl))
                exact wpOp_move rfl (wanted_by (d := 80) rfl _ rfl rfl g13) _ rfl _ (hI.same 5 (by decide)) (hI.add (by decide) tkF_later (by decide) (Below.refl _ _) rfl)
              · have g13 := hF 13 (hpre 13 (by kernel_rfl))
                exact wpOp_call1 rfl (wanted_by (d := 80) rfl _ rfl rfl g13) 10 _ _ rfl _ (hF 14 (hpre 14 (by kernel_rfl))) (enters_len _ _) (lenP_any b1 T' _ wy (hD3.out.p.later hI.below)) (fun e w' h => ⟨_, h.1, by obtain ⟨_, rfl⟩ := h; exact (hI.add (by decide) tkF_later (by decide) (Below.refl _ _) rfl)⟩)
              · have g13 := hF 13 (hpre 13 (by kernel_rfl))
                exact wpOp_move rfl (wanted_by (d := 80) rfl _ rfl rfl g13) _ rfl _ (hI.same 6 (by decide)) (hI.add (by decide) tkF_later (by decide) (Below.refl _ _) rfl)
              · have g13 := hF 13 (hpre 13 (by kernel_rfl))
                exact wpOp_nil9 rfl (wanted_by (d := 80) rfl _ rfl rfl g13) _ rfl _ (hF 16 (hpre 16 (by kernel_rfl))) (hI.add (by decide) tkF_later (by decide) (Below.refl _ _) rfl)
              · have g13 := hF 13 (hpre 13 (by kernel_rfl))
                exact wpOp_field rfl (wanted_by (d := 80) rfl _ rfl rfl g13) _ _ _ rfl _ _ (hF 17 (hpre 17 (by kernel_rfl))) (run_fieldR wy b2) (hI.add (by decide) tkF_later (by decide) (Below.refl _ _) rfl)
              · have g13 := hF 13 (hpre 13 (by kernel_rfl))
                exact wpOp_load rfl (wanted_by (d := 80) rfl _ rfl rfl g13) _ _ rfl _ _ (hF 18 (hpre 18 (by kernel_rfl))) (run_loadT1 wy b2 0 A9 _ c9 (cell_later hI.below hc9.out)) (hI.add (by decide) tkF_later (by decide) (Below.refl _ _) rfl)
              · have g13 := hF 13 (hpre 13 (by kernel_rfl))
                exact wpOp_len rfl (wanted_by (d := 80) rfl _ rfl rfl g13) _ _ rfl _ Try.underlying23 _ _ _ (hF 19 (hpre 19 (by kernel_rfl))) (hI.add (by decide) tkF_later (by decide) (Below.refl _ _) rfl)
              · have g13 := hF 13 (hpre 13 (by kernel_rfl))
                exact wpOp_bin rfl (wanted_by (d := 80) rfl _ rfl rfl g13) _ _ _ _ _ rfl _ _ _ (hF 15 (hpre 15 (by kernel_rfl))) (hF 20 (hpre 20 (by kernel_rfl))) (run_neqI9 _ _ _ wy) (hI.add (by decide) tkF_later (by decide) (Below.refl _ _) rfl)
              · exact wpOp_pick rfl (wanted_free rfl) _ _ _ rfl false (hF 13 (hpre 13 (by kernel_rfl))) _ (hF 21 (hpre 21 (by kernel_rfl))) (hI.add (by decide) tkF_later (by decide) (Below.refl _ _) rfl)
            · intro D a w9 hI hall
              have hB9 := Lib.hid hI.below
              obtain ⟨fs, rfl, hfs⟩ := hI.done (by decide) rfl (fun i hi => hall i hi)
              have e9 : fs 89 = .bool false := hfs 22 (by decide)
              clear hI hall hfs
              simp only [putAll, List.map_cons, List.map_nil, Act.put, List.setIfInBounds_toArray, List.set_cons_zero, List.set_cons_succ]
              rw [e9]
              clear e9
              generalize fs 67 = u67
              generalize fs 68 = u68
              generalize fs 69 = u69
              generalize fs 70 = u70
              generalize fs 71 = u71
              generalize fs 72 = u72
              generalize fs 73 = u73
              generalize fs 74 = u74
              generalize fs 75 = u75
              generalize fs 76 = u76
              generalize fs 77 = u77
              generalize fs 78 = u78
              generalize fs 79 = u79
              generalize fs 80 = u80
              generalize fs 81 = u81
              generalize fs 82 = u82
              generalize fs 83 = u83
              generalize fs 84 = u84
              generalize fs 85 = u85
              generalize fs 86 = u86
              generalize fs 87 = u87
              generalize fs 88 = u88
              have hD6 := Lib.hid (hD3.out.later hB9.out)
              have hB6 := Lib.hid (belowB hB5.out hB9.out (Nat.le_trans hB5.out.size (Nat.le_refl _)))
              subst hb2
              by_cases he : e1 = 0
              · subst he
                go_wp2
                go_roundw
                case rel => exact ⟨k + 1, n1, T', _, _, by have := hk4'.out; omega, by go_num, rfl, hD6.out, by have := htl'.out; omega, hB6.out⟩
                case measure => have := hk4'.out; simp [RowKit.intOf]; omega
              · have q1 : (e1 == 0) = false := beq_eq_false_iff_ne.2 he
                have q2 : decide (e1 = 0) = false := decide_eq_false he
                go_wp2_with (go_at_call 11; refine (haw.out _).mono ?_; rintro e w7 ⟨rfl, hb7⟩; have hb7' := Lib.hid (belowB hB6.out hb7 hB6.out.size); clear hb7)
                go_ret
                exact ⟨rfl, hb7'.out⟩
          · obtain rfl : k = 40 := by omega
            go_wp2_with (go_at_call 11; refine (haw.out _).mono ?_; rintro e w7 ⟨rfl, hb7⟩; have hb7' := Lib.hid (belowB hB.out hb7 hB.out.size); clear hb7)
            go_ret
            exact ⟨rfl, hb7'.out⟩
      · go_wp2
        go_loopw [10, 11] (fun at_ i wr => ∃ (k : Nat) (q : Int) (T : List (List UInt8)) (S1 S2 : Nat → Prop), k ≤ 40 ∧ i = .int .i64 k ∧ at_ = .int .i64 q ∧ Duo w.heap.size wr b1 T S1 w1.heap.size T S2 ∧ T.length ≤ 40 + k ∧ Below w.heap.size w wr) (fun _ i _ => 40 - (RowKit.intOf i).toNat)
        case atStart => exact ⟨0, 0, T, _, _, by omega, rfl, rfl, hD.out, by omega, hB.out⟩
        case round =>
          obtain ⟨k, q, T, S1', S2', hk, rfl, rfl, hD, hTl, hB⟩ := hrel
          have hD := Lib.hid hD
          have hB := Lib.hid hB
          have haw := Lib.hid (fun W => awake19_any W)
          by_cases hk4 : k < 40
          · have htP := fun W S (h : PTab W b1 T S) (hb : Below w.heap.size w W) => takeP_any b1 T S A n c X q W h (by omega) (hX'.out.later hb) (by omega)
            have htR := fun W S (h : RTab W w1.heap.size T S) (hb : Below w.heap.size w W) => takeR_any w1.heap.size T S A n c X q W h (by omega) (hX'.out.later hb) (by omega)
            have htl := takeL_len T X q
            obtain ⟨r, hr⟩ : ∃ r, r = takeB T X q := ⟨_, rfl⟩
            obtain ⟨T', hT'⟩ : ∃ T', T' = takeL T X q := ⟨_, rfl⟩
            simp only [← hr, ← hT'] at htP htR htl
            clear hr hT'
            obtain ⟨s, n1, e1⟩ := r
            unfold TakeEnd at htP
            unfold TakeEndR at htR
            simp only at htP htR
            obtain ⟨z, hz⟩ : ∃ z, z = mk s := ⟨_, rfl⟩
            rw [← hz] at htP htR
            have htP' := Lib.hid htP
            have htR' := Lib.hid htR
            have htl' := Lib.hid htl
            have hkd : decide ((k : Int) < 40) = true := decide_eq_true (by omega)
            have hk4' := Lib.hid hk4
            clear htP htR hz htl hk4
            go_wp2_with (first
              | (go_at_call 12; refine (htP'.out _ _ hD.out.p hB.out).mono ?_; rintro e w4 ⟨S4, rfl, hs4⟩; have hD4 := Lib.hid (hD.out.stepP hs4 hB.out.size); have hB4 := Lib.hid (hD.out.onP hB.out hs4 hB.out.size); clear hs4)
              | (go_at_call 13; refine (htR'.out _ _ hD4.out.r hB4.out).mono ?_; rintro e w5 ⟨S5, rfl, hs5⟩; have hD3 := Lib.hid (hD4.out.stepR hs5 hB4.out.size); have hB5 := Lib.hid (hD4.out.onR hB4.out hs5 hB4.out.size); clear hs5; obtain ⟨A9, c9, hc⟩ := hD3.out.r.list; have hc9 := Lib.hid hc; clear hc))
            obtain ⟨b2, hb2⟩ : ∃ b2, b2 = w1.heap.size := ⟨_, rfl⟩
            rw [← hb2] at hc9 hD3 ⊢
            refine wp_region_each (RInv 95 [67, 68, 69, 70, 71, 72, 73, 74, 75, 76, 77, 78, 79, 80, 81, 82, 83, 84, 85, 86, 87, 88, 89] _ (tkF z n1 e1 b1 b2 A9 T'.length c9) w5 NoMore) (by kernel_rfl) (by kernel_rfl) (RInv.start rfl trivial (Below.refl _ _).drew) ?_ ?_
            · intro i hi D a wy hI hcl hnd hpre
              have hi' : i < 23 := hi
              have hcase : i = 0 ∨ i = 1 ∨ i = 2 ∨ i = 3 ∨ i = 4 ∨ i = 5 ∨ i = 6 ∨ i = 7 ∨ i = 8 ∨ i = 9 ∨ i = 10 ∨ i = 11 ∨ i = 12 ∨ i = 13 ∨ i = 14 ∨ i = 15 ∨ i = 16 ∨ i = 17 ∨ i = 18 ∨ i = 19 ∨ i = 20 ∨ i = 21 ∨ i = 22 := by omega
              have hF := hI.fact
              rcases hcase with rfl | rfl | rfl | rfl | rfl | rfl | rfl | rfl | rfl | rfl | rfl | rfl | rfl | rfl | rfl | rfl | rfl | rfl | rfl | rfl | rfl | rfl | rfl
              · exact wpOp_move rfl (wanted_free rfl) _ rfl _ (hI.same 12 (by decide)) (hI.add (by decide) tkF_later (by decide) (Below.refl _ _) rfl)
              · exact wpOp_move rfl (wanted_free rfl) _ rfl _ (hI.same 15 (by decide)) (hI.add (by decide) tkF_later (by decide) (Below.refl _ _) rfl)
              · exact wpOp_bin rfl (wanted_free rfl) _ _ _ _ _ rfl _ _ _ (hF 0 (hpre 0 (by kernel_rfl))) (hF 1 (hpre 1 (by kernel_rfl))) (run_neqS9 _ _ _ wy) (hI.add (by decide) tkF_later (by decide) (Below.refl _ _) rfl)
              · exact wpOp_move rfl (wanted_free rfl) _ rfl _ (hF 2 (hpre 2 (by kernel_rfl))) (hI.add (by decide) tkF_later (by decide) (Below.refl _ _) rfl)
              · have g3 := hF 3 (hpre 3 (by kernel_rfl))
                exact wpOp_move rfl (wanted_by (d := 70) rfl _ rfl rfl g3) _ rfl _ (hI.same 13 (by decide)) (hI.add (by decide) tkF_later (by decide) (Below.refl _ _) rfl)
              · have g3 := hF 3 (hpre 3 (by kernel_rfl))
                exact wpOp_move rfl (wanted_by (d := 70) rfl _ rfl rfl g3) _ rfl _ (hI.same 16 (by decide)) (hI.add (by decide) tkF_later (by decide) (Below.refl _ _) rfl)
              · have g3 := hF 3 (hpre 3 (by kernel_rfl))
                exact wpOp_bin rfl (wanted_by (d := 70) rfl _ rfl rfl g3) _ _ _ _ _ rfl _ _ _ (hF 4 (hpre 4 (by kernel_rfl))) (hF 5 (hpre 5 (by kernel_rfl))) (run_neqI9 _ _ _ wy) (hI.add (by decide) tkF_later (by decide) (Below.refl _ _) rfl)
              · exact wpOp_pick rfl (wanted_free rfl) _ _ _ rfl false (hF 3 (hpre 3 (by kernel_rfl))) _ (hF 6 (hpre 6 (by kernel_rfl))) (hI.add (by decide) tkF_later (by decide) (Below.refl _ _) rfl)
              · exact wpOp_move rfl (wanted_free rfl) _ rfl _ (hF 7 (hpre 7 (by kernel_rfl))) (hI.add (by decide) tkF_later (by decide) (Below.refl _ _) rfl)
              · have g8 := hF 8 (hpre 8 (by kernel_rfl))
                exact wpOp_move rfl (wanted_by (d := 75) rfl _ rfl rfl g8) _ rfl _ (hI.same 14 (by decide)) (hI.add (by decide) tkF_later (by decide) (Below.refl _ _) rfl)
              · have g8 := hF 8 (hpre 8 (by kernel_rfl))
                exact wpOp_move rfl (wanted_by (d := 75) rfl _ rfl rfl g8) _ rfl _ (hI.same 17 (by decide)) (hI.add (by decide) tkF_later (by decide) (Below.refl _ _) rfl)
              · have g8 := hF 8 (hpre 8 (by kernel_rfl))
                exact wpOp_bin rfl (wanted_by (d := 75) rfl _ rfl rfl g8) _ _ _ _ _ rfl _ _ _ (hF 9 (hpre 9 (by kernel_rfl))) (hF 10 (hpre 10 (by kernel_rfl))) (run_neqI9 _ _ _ wy) (hI.add (by decide) tkF_later (by decide) (Below.refl _ _) rfl)
              · exact wpOp_pick rfl (wanted_free rfl) _ _ _ rfl false (hF 8 (hpre 8 (by kernel_rfl))) _ (hF 11 (hpre 11 (by kernel_rfl))) (hI.add (by decide) tkF_later (by decide) (Below.refl _ _) rfl)
              · exact wpOp_move rfl (wanted_free rfl) _ rfl _ (hF 12 (hpre 12 (by kernel_rfl))) (hI.add (by decide) tkF_later (by decide) (Below.refl _ _) rfl)
              · have g13 := hF 13 (hpre 13 (by kernel_rfl))
                exact wpOp_move rfl (wanted_by (d := 80) rfl _ rfl rfl g13) _ rfl _ (hI.same 5 (by decide)) (hI.add (by decide) tkF_later (by decide) (Below.refl _ _) rfl)
              · have g13 := hF 13 (hpre 13 (by kernel_rfl))
                exact wpOp_call1 rfl (wanted_by (d := 80) rfl _ rfl rfl g13) 10 _ _ rfl _ (hF 14 (hpre 14 (by kernel_rfl))) (enters_len _ _) (lenP_any b1 T' _ wy (hD3.out.p.later hI.below)) (fun e w' h => ⟨_, h.1, by obtain ⟨_, rfl⟩ := h; exact (hI.add (by decide) tkF_later (by decide) (Below.refl _ _) rfl)⟩)
              · have g13 := hF 13 (hpre 13 (by kernel_rfl))
                exact wpOp_move rfl (wanted_by (d := 80) rfl _ rfl rfl g13) _ rfl _ (hI.same 6 (by decide)) (hI.add (by decide) tkF_later (by decide) (Below.refl _ _) rfl)
              · have g13 := hF 13 (hpre 13 (by kernel_rfl))
                exact wpOp_nil9 rfl (wanted_by (d := 80) rfl _ rfl rfl g13) _ rfl _ (hF 16 (hpre 16 (by kernel_rfl))) (hI.add (by decide) tkF_later (by decide) (Below.refl _ _) rfl)
              · have g13 := hF 13 (hpre 13 (by kernel_rfl))
                exact wpOp_field rfl (wanted_by (d := 80) rfl _ rfl rfl g13) _ _ _ rfl _ _ (hF 17 (hpre 17 (by kernel_rfl))) (run_fieldR wy b2) (hI.add (by decide) tkF_later (by decide) (Below.refl _ _) rfl)
              · have g13 := hF 13 (hpre 13 (by kernel_rfl))
                exact wpOp_load rfl (wanted_by (d := 80) rfl _ rfl rfl g13) _ _ rfl _ _ (hF 18 (hpre 18 (by kernel_rfl))) (run_loadT1 wy b2 0 A9 _ c9 (cell_later hI.below hc9.out)) (hI.add (by decide) tkF_later (by decide) (Below.refl _ _) rfl)
              · have g13 := hF 13 (hpre 13 (by kernel_rfl))
                exact wpOp_len rfl (wanted_by (d := 80) rfl _ rfl rfl g13) _ _ rfl _ Try.underlying23 _ _ _ (hF 19 (hpre 19 (by kernel_rfl))) (hI.add (by decide) tkF_later (by decide) (Below.refl _ _) rfl)
              · have g13 := hF 13 (hpre 13 (by kernel_rfl))
                exact wpOp_bin rfl (wanted_by (d := 80) rfl _ rfl rfl g13) _ _ _ _ _ rfl _ _ _ (hF 15 (hpre 15 (by kernel_rfl))) (hF 20 (hpre 20 (by kernel_rfl))) (run_neqI9 _ _ _ wy) (hI.add (by decide) tkF_later (by decide) (Below.refl _ _) rfl)
              · exact wpOp_pick rfl (wanted_free rfl) _ _ _ rfl false (hF 13 (hpre 13 (by kernel_rfl))) _ (hF 21 (hpre 21 (by kernel_rfl))) (hI.add (by decide) tkF_later (by decide) (Below.refl _ _) rfl)
            · intro D a w9 hI hall
              have hB9 := Lib.hid hI.below
              obtain ⟨fs, rfl, hfs⟩ := hI.done (by decide) rfl (fun i hi => hall i hi)
              have e9 : fs 89 = .bool false := hfs 22 (by decide)
              clear hI hall hfs
              simp only [putAll, List.map_cons, List.map_nil, Act.put, List.setIfInBounds_toArray, List.set_cons_zero, List.set_cons_succ]
              rw [e9]
              clear e9
              generalize fs 67 = u67
              generalize fs 68 = u68
              generalize fs 69 = u69
              generalize fs 70 = u70
              generalize fs 71 = u71
              generalize fs 72 = u72
              generalize fs 73 = u73
              generalize fs 74 = u74
              generalize fs 75 = u75
              generalize fs 76 = u76
              generalize fs 77 = u77
              generalize fs 78 = u78
              generalize fs 79 = u79
              generalize fs 80 = u80
              generalize fs 81 = u81
              generalize fs 82 = u82
              generalize fs 83 = u83
              generalize fs 84 = u84
              generalize fs 85 = u85
              generalize fs 86 = u86
              generalize fs 87 = u87
              generalize fs 88 = u88
              have hD6 := Lib.hid (hD3.out.later hB9.out)
              have hB6 := Lib.hid (belowB hB5.out hB9.out (Nat.le_trans hB5.out.size (Nat.le_refl _)))
              subst hb2
              by_cases he : e1 = 0
              · subst he
                go_wp2
                go_roundw
                case rel => exact ⟨k + 1, n1, T', _, _, by have := hk4'.out; omega, by go_num, rfl, hD6.out, by have := htl'.out; omega, hB6.out⟩
                case measure => have := hk4'.out; simp [RowKit.intOf]; omega
              · have q1 : (e1 == 0) = false := beq_eq_false_iff_ne.2 he
                have q2 : decide (e1 = 0) = false := decide_eq_false he
                go_wp2_with (go_at_call 11; refine (haw.out _).mono ?_; rintro e w7 ⟨rfl, hb7⟩; have hb7' := Lib.hid (belowB hB6.out hb7 hB6.out.size); clear hb7)
                go_ret
                exact ⟨rfl, hb7'.out⟩
          · obtain rfl : k = 40 := by omega
            go_wp2_with (go_at_call 11; refine (haw.out _).mono ?_; rintro e w7 ⟨rfl, hb7⟩; have hb7' := Lib.hid (belowB hB.out hb7 hB.out.size); clear hb7)
            go_ret
            exact ⟨rfl, hb7'.out⟩
end Go.Proofs.Ytlmchoonokglaaa
