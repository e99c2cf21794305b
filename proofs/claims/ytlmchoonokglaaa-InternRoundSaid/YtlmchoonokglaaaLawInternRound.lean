/-
  The walk of the statement InternRound: for any texts it returns true, and nothing that was there is changed.
-/
import Derived.Test.YtlmchoonokglaaaTabPutsX
namespace Go.Proofs.Ytlmchoonokglaaa
open Go.RowKit Go.Lib Go.Maps Go.WideMaps Leb

theorem Lst.step2 {w w' : World} {A : Option Addr} {n b : Nat} {L l' : List (List UInt8)} {S1 S2 S' : Nat → Prop} (h : Lst w A n L S1 S2) (hs : PStep w w' b S2 S' l') : Lst w' A n L S1 S' := (h.swap.stepP hs).swap
/-- Where the texts' bytes stand, one by one. -/
def offT (L : List (List UInt8)) (k : Nat) : Nat := (putsB [] (L.take k)).length
theorem offT_step {L : List (List UInt8)} {k : Nat} {p : List UInt8} (hp : L[k]? = some p) : putsB [] (L.take (k + 1)) = putsB [] (L.take k) ++ putB (putsL [] (L.take k)) p ∧ putsL [] (L.take (k + 1)) = putL (putsL [] (L.take k)) p := by
  have h1 : L.take (k + 1) = L.take k ++ [p] := by rw [List.take_add_one, hp]; rfl
  rw [h1, putsB_snoc, putsL_snoc]
  exact ⟨rfl, rfl⟩
theorem offT_lt {L : List (List UInt8)} {k : Nat} {p : List UInt8} (hp : L[k]? = some p) : offT L k < offT L (k + 1) := by
  unfold offT
  rw [(offT_step hp).1, List.length_append]
  have := putB_pos (putsL [] (L.take k)) p
  omega
theorem round_take {L : List (List UInt8)} {k : Nat} {p : List UInt8} (hp : L[k]? = some p) (hl : L.length ≤ 1000) (hs : p.length ≤ 300) :
    takeB (putsL [] (L.take k)) (putsB [] L) (offT L k) = (p, (offT L (k + 1) : Int), 0) ∧ takeL (putsL [] (L.take k)) (putsB [] L) (offT L k) = putsL [] (L.take (k + 1)) := by
  obtain ⟨hk, e⟩ := List.getElem?_eq_some_iff.1 hp
  have h0 : L = L.take k ++ p :: L.drop (k + 1) := by
    conv => lhs; rw [← List.take_append_drop k L]
    rw [List.drop_eq_getElem_cons hk, e]
  have h1 : L.take (k + 1) = L.take k ++ [p] := by rw [List.take_add_one, hp]; rfl
  have h2 := takes_puts [] (L.take k) (L.drop (k + 1)) p (by have h3 := putsL_len [] (L.take k); have h4 := List.length_take_le k L; have h5 := List.length_take_le' k L; simp only [List.length_nil] at h3; omega) (by omega)
  rw [← h0, ← h1] at h2
  exact h2

set_option maxHeartbeats 16000000 in
set_option maxRecDepth 100000 in
theorem internRound_law (B : Option Addr) (m d : Nat) (l0 : List (List UInt8)) (w : World) (hl : Txs w B m d l0) :
    Calls Try.prog 5 #[.slice B m d] w fun e w' => e = .returned (.bool true) ∧ Below w.heap.size w w' := by
  have hl' := Lib.hid hl
  have hfl := fewT_len l0
  have hfs := Lib.hid (fewT_short l0)
  obtain ⟨L, hL⟩ : ∃ L, L = fewT l0 := ⟨_, rfl⟩
  rw [← hL] at hfl hfs
  have hL' := Lib.hid hL.symm
  have t1 : True := trivial
  have t2 : True := trivial
  clear hl hL
  go_enter Try.func5, Try.ntmps5
  go_wp2_with (first
    | (go_at_call 6; have _t := t1; refine (newP_any w).mono ?_; rintro e w1 ⟨b1, S1, rfl, hp1, hlo1, hb1⟩; have hp1' := Lib.hid hp1; have hlo1' := Lib.hid hlo1; have hb1' := Lib.hid hb1; clear hp1 hlo1 hb1 t1)
    | (go_at_call 6; have _t := t2; refine (newP_any w1).mono ?_; rintro e w2 ⟨b2, S2, rfl, hp2, hlo2, hb2⟩; have hT2 := Lib.hid (twin_new hp1'.out hlo1'.out hb1'.out hp2 hlo2 hb2); have hB2 := Lib.hid ((below_then hb1'.out hb2).alloc (Nat.le_trans hb1'.out.size hb2.size) (.cells #[] 5)); have hT2 := Lib.hid (hT2.out.later (below_box w2 (.cells #[] 5))); have hX2 := Lib.hid (hl'.out.later hB2.out); have he2 := Lib.hid (owns_lit w2 w2.heap.size 5 #[] [] rfl Bytes.nil (by simp) (Nat.le_refl _)); have hlow := Lib.hid (show (∀ k, S1 k → k < w2.heap.size) ∧ ∀ k, S2 k → k < w2.heap.size from ⟨fun k hk => Nat.lt_of_lt_of_le (hp1'.out.low k hk) hb2.size, hp2.low⟩); clear hp2 hlo2 hb2 hp1' hlo1' hb1' t2)
    | (go_at_call 7; refine (few19_any B m d l0 _ hX2.out).mono ?_; rintro e w3 ⟨v3, rfl, ho3, hb3⟩; have hT3 := Lib.hid (hT2.out.later hb3); have hB3 := Lib.hid (belowB hB2.out hb3 hB2.out.size); have hE3 := Lib.hid ((bts_own he2.out (he2.out.off hlow.out.1) (he2.out.off hlow.out.2)).later hb3); rw [hL'.out] at ho3; obtain ⟨A3, c3, rfl, hL3⟩ := lst_own ho3 hT2.out.p1.low hT2.out.p2.low; obtain ⟨m3, hm3⟩ : ∃ m3, m3 = L.length := ⟨_, rfl⟩; have hm3' := Lib.hid hm3; rw [← hm3] at hL3; have hL3' := Lib.hid hL3; rw [← hm3]; rw [← hm3] at hfl; clear hm3 ho3 hb3 hL3))
  go_loopw [5, 7] (fun bv i wr => ∃ (k : Nat) (T : List (List UInt8)) (Y : List Int) (S1 S2 : Nat → Prop), k ≤ m3 ∧ i = .int .i64 k ∧ Twin w.heap.size wr b1 T S1 b2 [] S2 ∧ Hid (T = putsL [] (L.take k)) ∧ Hid (Y = putsB [] (L.take k)) ∧ T.length ≤ k ∧ Y.length ≤ 311 * k ∧ Lst wr A3 m3 L S1 S2 ∧ Below w.heap.size w wr ∧ Bts wr bv Y S1 S2) (fun _ i _ => m3 - (RowKit.intOf i).toNat)
  case atStart => exact ⟨0, [], [], _, _, Nat.zero_le _, rfl, hT3.out, Lib.hid rfl, Lib.hid rfl, Nat.zero_le _, Nat.zero_le _, hL3'.out, hB3.out, hE3.out⟩
  case round =>
    obtain ⟨k, T, Y, S1', S2', hk, rfl, hD, hTe, hYe, hTl, hYl, hL, hB, hbx⟩ := hrel
    have hD := Lib.hid hD
    have hL := Lib.hid hL
    have hB := Lib.hid hB
    obtain ⟨Ax, cx, rfl, hXx, hox, _⟩ := hbx.rd
    have hbx' := Lib.hid hbx
    obtain ⟨ny, hny⟩ : ∃ ny, ny = Y.length := ⟨_, rfl⟩
    rw [← hny] at hXx hox hbx' ⊢
    have hny' := Lib.hid hny
    clear hbx
    by_cases hk : k < m3
    · obtain ⟨g, p, rfl, hy, h1⟩ := lst_at hL.out hk
      have hys : p.length ≤ 300 := hfs.out p (List.mem_of_getElem? hy)
      have hpl := Lib.hid (putL_len T p)
      have hbl := putB_len T p (by omega) (by omega)
      have hYl' := Lib.hid (show (Y ++ putB T p).length ≤ 311 * (k + 1) by rw [List.length_append]; omega)
      have hst := Lib.hid (offT_step hy)
      have hputP := Lib.hid (putP_any b1 T S1' Ax ny cx Y p wr hD.out.p1 (by omega) hXx hox (by omega))
      obtain ⟨s, hs⟩ : ∃ s, s = mk p := ⟨_, rfl⟩
      rw [← hs] at h1 hputP
      obtain ⟨Y', hY'⟩ : ∃ Y', Y' = Y ++ putB T p := ⟨_, rfl⟩
      obtain ⟨T', hT'⟩ : ∃ T', T' = putL T p := ⟨_, rfl⟩
      have hY9 := Lib.hid (show Y' = putsB [] (L.take (k + 1)) by rw [hY', hst.out.1, hYe.out, hTe.out])
      have hT9 := Lib.hid (show T' = putsL [] (L.take (k + 1)) by rw [hT', hst.out.2, hTe.out])
      rw [← hY', ← hT'] at hputP
      rw [← hY'] at hYl'
      rw [← hT'] at hpl
      have hTl' := Lib.hid (show T'.length ≤ k + 1 from Nat.le_trans hpl.out (by omega))
      clear hy hs hys hbl hYl hny hY' hT' hTl hst hXx hox hpl
      go_wp2_with (go_at_call 8; refine hputP.out.mono ?_; rintro e w4 ⟨r4, S4, rfl, ho4, hf4, hs4⟩; have hD4 := Lib.hid (hD.out.step1 hs4 hB.out.size); have hB4 := Lib.hid (hD.out.on hB.out hs4 hB.out.size); have hL4 := Lib.hid (hL.out.stepP hs4); have hb4 := Lib.hid (hD.out.made ho4 hf4); clear hs4 ho4 hf4)
      go_roundw
      case rel => exact ⟨k + 1, T', Y', S4, S2', by omega, by go_num, hD4.out, hT9, hY9, hTl'.out, hYl'.out, hL4.out, hB4.out, hb4.out⟩
      case measure => simp [RowKit.intOf]; omega
    · obtain rfl : k = m3 := by omega
      have hLk : L.take k = L := List.take_of_length_le (by rw [← hm3'.out]; exact Nat.le_refl _)
      rw [hLk] at hTe hYe
      have hLn := Lib.hid (show L.length ≤ 1000 by rw [← hm3'.out]; omega)
      have hnb : ny ≤ 140737488355328 := by omega
      have hyo : Hid (ny = offT L k) := Lib.hid (by unfold offT; rw [hLk, ← hYe.out]; exact hny)
      clear hny hXx hox hLk
      go_wp2
      go_loopw [8, 9] (fun at_ i wq => ∃ (j : Nat) (q : Nat) (S2 : Nat → Prop), j ≤ k ∧ i = .int .i64 j ∧ at_ = .int .i64 q ∧ Hid (q = offT L j) ∧ Twin w.heap.size wq b1 T S1' b2 (putsL [] (L.take j)) S2 ∧ Lst wq A3 k L S1' S2 ∧ Below w.heap.size w wq ∧ Bts wq (.slice Ax ny cx) Y S1' S2) (fun _ i _ => k - (RowKit.intOf i).toNat)
      case atStart => exact ⟨0, 0, _, Nat.zero_le _, rfl, rfl, Lib.hid rfl, hD.out, hL.out, hB.out, hbx'.out⟩
      case round =>
        obtain ⟨j, q, S3, hj, rfl, rfl, hq, hD3, hL3, hB3, hb3⟩ := hrel
        have hD3 := Lib.hid hD3
        have hL3 := Lib.hid hL3
        have hB3 := Lib.hid hB3
        have hb3 := Lib.hid hb3
        by_cases hjk : j < k
        · obtain ⟨g, p, rfl, hy, h1⟩ := lst_at hL3.out hjk
          have hys : p.length ≤ 300 := hfs.out p (List.mem_of_getElem? hy)
          obtain ⟨ht1, ht2⟩ := round_take hy hLn.out hys
          have hlt := offT_lt hy
          have hXy := (bts_holds hb3.out).2.1
          have htake := takeP_any b2 (putsL [] (L.take j)) S3 Ax ny cx Y (offT L j : Int) wr hD3.out.p2 (by have h5 := putsL_len [] (L.take j); have h6 := List.length_take_le j L; simp only [List.length_nil] at h5; omega) hXy hnb
          rw [hYe.out] at htake
          rw [ht1, ht2] at htake
          unfold TakeEnd at htake
          simp only at htake
          obtain ⟨s, hs⟩ : ∃ s, s = mk p := ⟨_, rfl⟩
          rw [← hs] at h1 htake
          obtain ⟨q2, hq2⟩ : ∃ q2, q2 = offT L (j + 1) := ⟨_, rfl⟩
          rw [← hq2, ← hq.out] at htake
          rw [← hq2, ← hq.out] at hlt
          have htake' := Lib.hid htake
          have hy' := Lib.hid hy
          have hs' := Lib.hid hs
          have hq2' := Lib.hid hq2
          clear hy hs hys ht1 ht2 htake hXy hq2
          go_wp2_with (go_at_call 12; refine htake'.out.mono ?_; rintro e w4 ⟨S4, rfl, hs4⟩; have hD4 := Lib.hid (hD3.out.step2 hs4 hB3.out.size); have hB4 := Lib.hid (hD3.out.swap.on hB3.out hs4 hB3.out.size); have hL4 := Lib.hid (hL3.out.step2 hs4); have hb4 := Lib.hid (hb3.out.step2 hs4); obtain ⟨g9, p9, e9, f9, h9⟩ := lst_at hL4.out hjk; injection e9 with e9; injection e9 with e9; subst e9; rw [hy'.out] at f9; injection f9 with f9; subst f9; rw [← hs'.out] at h9; clear hs4)
          go_roundw
          case rel => exact ⟨j + 1, q2, S4, by omega, by go_num, rfl, Lib.hid hq2'.out, hD4.out, hL4.out, hB4.out, hb4.out⟩
          case measure => simp [RowKit.intOf]; omega
        · obtain rfl : j = k := by omega
          obtain rfl : q = ny := hq.out.trans hyo.out.symm
          have hLk : L.take j = L := List.take_of_length_le (by rw [← hm3'.out]; exact Nat.le_refl _)
          have hD3 := hD3.out
          rw [hLk, ← hTe.out] at hD3
          have hD3 := Lib.hid hD3
          have hTn : T.length ≤ 1000000 := by omega
          have hTm := Lib.hid (fun p (hp : p ∈ L) => show p ∈ T by rw [hTe.out]; exact putsL_mem [] L hp)
          have hT40 := Lib.hid (show T.length ≤ 40 by omega)
          have hTj := Lib.hid (show T.length ≤ j by omega)
          have htn := Lib.hid (fun W => take19_nil Ax q cx 0 W)
          clear hLk hTl hYl hyo hq
          go_wp2_with (go_at_call 12; refine (htn.out _).mono ?_; rintro e w5 ⟨rfl, hw5⟩; subst hw5)
          go_loopw [17] (fun i wq => ∃ (x : Nat) (S1 S2 : Nat → Prop), x ≤ j ∧ i = .int .i64 x ∧ Twin w.heap.size wq b1 T S1 b2 T S2 ∧ Lst wq A3 j L S1 S2 ∧ Below w.heap.size w wq ∧ Bts wq (.slice Ax q cx) Y S1 S2) (fun i _ => j - (RowKit.intOf i).toNat)
          case atStart => exact ⟨0, _, _, Nat.zero_le _, rfl, hD3.out, hL3.out, hB3.out, hb3.out⟩
          case round =>
            obtain ⟨x, S5, S6, hx, rfl, hD5, hL5, hB5, hb5⟩ := hrel
            have hD5 := Lib.hid hD5
            have hL5 := Lib.hid hL5
            have hB5 := Lib.hid hB5
            have hb5 := Lib.hid hb5
            by_cases hxj : x < j
            · obtain ⟨g, p, rfl, hy, h1⟩ := lst_at hL5.out hxj
              have hys : p.length ≤ 300 := hfs.out p (List.mem_of_getElem? hy)
              have hnm : numT T p ≠ 0 := (numT_mem T p).2 (hTm.out p (List.mem_of_getElem? hy))
              have hputP := putP_any b1 T S5 Option.none 0 0 [] p wr hD5.out.p1 hTn (holds_nil wr) (fun _ _ e => by cases e) (by omega)
              obtain ⟨Y', hY'⟩ : ∃ Y', Y' = [] ++ putB T p := ⟨_, rfl⟩
              have hn1 := Lib.hid (show Y'.length = 1 by rw [hY', List.nil_append, putB_old hnm, enc_small (by have h5 := numT_le T p; have h6 := hT40.out; omega)]; rfl)
              rw [← hY', putL_old hnm] at hputP
              have hputP' := Lib.hid hputP
              obtain ⟨s, hs⟩ : ∃ s, s = mk p := ⟨_, rfl⟩
              rw [← hs] at h1 hputP'
              clear hy hys hnm hputP hY' hs
              go_wp2_with (go_at_call 8; refine hputP'.out.mono ?_; rintro e w6 ⟨r6, S7, rfl, ho6, hf6, hs6⟩; have hD6 := Lib.hid (hD5.out.step1 hs6 hB5.out.size); have hB6 := Lib.hid (hD5.out.on hB5.out hs6 hB5.out.size); have hL6 := Lib.hid (hL5.out.stepP hs6); have hb6 := Lib.hid (hb5.out.stepP hs6); obtain ⟨A6, c6, rfl, _⟩ := (hD5.out.made ho6 hf6).of hn1.out; clear hs6 ho6 hf6)
              go_roundw
              case rel => exact ⟨x + 1, S7, S6, by omega, by go_num, hD6.out, hL6.out, hB6.out, hb6.out⟩
              case measure => simp [RowKit.intOf]; omega
            · obtain rfl : x = j := by omega
              have haw := Lib.hid (awake19_any wr)
              have hln1 := fun W (hb : Below wr.heap.size wr W) => lenP_any b1 T S5 W (hD5.out.later hb).p1
              have hln2 := fun W (hb : Below wr.heap.size wr W) => lenP_any b2 T S6 W (hD5.out.later hb).p2
              have hln0 := Lib.hid (fun W => len19_nil W)
              have hpn := Lib.hid (fun W => put19_nil Ax q cx [120] W)
              have hle := hTj.out
              obtain ⟨nT, hnT⟩ : ∃ nT, nT = T.length := ⟨_, rfl⟩
              rw [← hnT] at hln1 hln2 hle
              have hln1' := Lib.hid hln1
              have hln2' := Lib.hid hln2
              clear hln1 hln2 hnT hTn
              go_wp2_with (first
                | (go_at_call 11; refine haw.out.mono ?_; rintro e w7 ⟨rfl, hb7⟩; have hb7' := Lib.hid hb7; clear hb7)
                | (go_at_call 10; with_reducible refine (hln1'.out _ hb7'.out).mono ?_; rintro e w9 ⟨rfl, hw9⟩; subst hw9)
                | (go_at_call 10; with_reducible refine (hln2'.out _ hb7'.out).mono ?_; rintro e w9 ⟨rfl, hw9⟩; subst hw9)
                | (go_at_call 10; with_reducible refine (hln0.out _).mono ?_; rintro e w9 ⟨rfl, hw9⟩; subst hw9)
                | (go_at_call 8; refine (hpn.out _).mono ?_; rintro e w9 ⟨rfl, hw9⟩; subst hw9))
              go_ret
              exact ⟨rfl, belowB hB5.out hb7'.out hB5.out.size⟩
end Go.Proofs.Ytlmchoonokglaaa
