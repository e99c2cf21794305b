/-
  The walk of EventTakes, under contracts of event's Book, of the reference's Take and of the fixed fact. Conditions: those that each theorem states.
-/
import Derived.Test.YtodncamohimmmaaLow5
import Derived.Deep.CutBlock
namespace Go.Proofs.Ytodncamohimmmaa
open Go.RowKit Go.Lib Leb

def RefTakes : Prop := ∀ (b t : Nat) (T0 : Nat → Prop) (u : Value) (ls : List Ln) (k : Bk) (A : Option Addr) (n c : Nat) (X : List Int) (p : Int) (W : World), RBk W b t T0 u ls k.tab k.tick → (∀ s a, findL ls s a = k.look s a) → k.Ok → Holds W A n c X → Off (inB b T0 u) A n → k.tab.length ≤ 200000 → n ≤ 900000000 → ls.length ≤ 1000000 → -9223372036854775808 ≤ p → p ≤ 9223372036854775807 →
  Calls Try.prog 19 #[.pointer (some ⟨b, 0, Option.none⟩), .slice A n c, .int .i64 p] W fun e w' => ∃ Ax m cx T1 u' ls', e = .returned (.tuple #[evv (takeE k X p).1.1 Ax m cx, .int .i64 (takeE k X p).1.2.1, .int .i64 (takeE k X p).1.2.2]) ∧
    ((takeE k X p).1.2.2 = 0 → RBk w' b t T1 u' ls' (takeE k X p).2.tab (takeE k X p).2.tick ∧ (∀ s a, findL ls' s a = (takeE k X p).2.look s a) ∧ ls'.length ≤ ls.length + 1 ∧ ∀ l ∈ ls', (∃ l0 ∈ ls, l.A = l0.A ∧ l.n = l0.n) ∨ (∀ g off, l.A = some ⟨g, off, Option.none⟩ → 0 < l.n → W.heap.size ≤ g)) ∧
      Alt W w' (inB b T0 u) ∧ (∀ j, inB b T1 u' j → inB b T0 u j ∨ W.heap.size ≤ j) ∧ Hds w' Ax m cx (takeE k X p).1.1.hs

set_option maxHeartbeats 32000000 in
set_option maxRecDepth 100000 in
theorem eventTakes_walk {PB : World → Nat → (Nat → Prop) → Bk → Prop} (hs : BookTakes PB) (hr : RefTakes) (haw : ∀ W : World, Calls Try.prog 10 #[] W fun e w' => e = .returned (.bool true) ∧ Below W.heap.size W w')
    (A : Option Addr) (n c : Nat) (l : List Eva) (B : Option Addr) (m d : Nat) (X : List Int) (w : World) (hl : Evs w A n c l) (h6 : ∀ q ∈ l, Six12 q.ev) (hX : Holds w B m d X) :
    Calls Try.prog 5 #[.slice A n c, .slice B m d] w fun e w' => e = .returned (.bool true) ∧ Below w.heap.size w w' := by
  have hs' := Lib.hid hs.said
  have hst := Lib.hid hs
  have hrt := Lib.hid hr
  have haw' := Lib.hid haw
  have hl' := Lib.hid hl
  have h6' := Lib.hid h6
  have hX' := Lib.hid hX
  clear hs hr haw hl h6 hX
  go_enter Try.func5, Try.ntmps5
  go_upto_block 0 with (first
    | (go_at_call 14; refine (hs'.out.new w).mono ?_; rintro e w1 ⟨kb, S, rfl, hp1, hlo1, hb1⟩; have hp1' := Lib.hid hp1; have hlo1' := Lib.hid hlo1; have hb1' := Lib.hid hb1; clear hp1 hlo1 hb1)
    | (go_at_call 15; refine (refNewE_any w1).mono ?_; rintro e w2 ⟨rb, t, T0, rfl, hr2, hlo2, hb2⟩; have hr2' := Lib.hid hr2; have hlo2' := Lib.hid hlo2; have hb2' := Lib.hid hb2; clear hr2 hlo2 hb2))
  have hsz1 := Lib.hid hb1'.out.size
  have hTwo := Lib.hid (show Two PB w kb rb t S T0 (.slice Option.none 0 0) [] newB w2 from
    ⟨hs'.out.alt hp1'.out (alt_below hb2'.out fun _ => False) (fun _ _ h => h), hr2'.out, fun _ _ => rfl, Bk.Ok.new, fun j hj hR => by have h1 := hs'.out.low hp1'.out j hj; have h2 := hlo2'.out j hR; omega, hlo1'.out, fun j hR => by have h2 := hlo2'.out j hR; have := hsz1.out; omega, fun l hl => by cases hl⟩)
  have hB0 := Lib.hid (below_then hb1'.out hb2'.out)
  clear hsz1 hp1' hlo1' hb1' hr2' hlo2' hb2'
  go_cut [] from 17 to 87 (fun wr => Hid (∃ S T0 u ls k, Two PB w kb rb t S T0 u ls k wr ∧ Below w.heap.size w wr ∧ ls.length ≤ 20 ∧ k.tab.length ≤ 1080))
  case first =>
    as_aux_lemma =>
      go_wp2_with fail
      go_loopw [7] (fun i wr => ∃ (p : Nat) (S : Nat → Prop) (T0 : Nat → Prop) (u : Value) (ls : List Ln) (k : Bk), p ≤ n ∧ p ≤ 20 ∧ i = .int .i64 p ∧ Two PB w kb rb t S T0 u ls k wr ∧ Below w.heap.size w wr ∧ ls.length ≤ p ∧ k.tab.length ≤ 54 * p) (fun i _ => 20 - (RowKit.intOf i).toNat)
      case atStart => exact ⟨0, S, T0, .slice Option.none 0 0, [], newB, Nat.zero_le _, Nat.zero_le _, rfl, hTwo.out, hB0.out, Nat.le_refl _, Nat.le_refl _⟩
      case round =>
        clear hTwo hB0
        obtain ⟨p, S, T0, u, ls, k, hpn, hp30, rfl, hT, hB, hll, htl⟩ := hrel
        by_cases hgo : p < n ∧ p < 20
        · obtain ⟨h1, h2⟩ := hgo
          have hE := hl'.out.later hB
          obtain ⟨g, off, q, rfl, hq, hcell, hqh⟩ := hE.at h1
          have hsix := h6'.out q (List.mem_of_getElem? hq)
          have hlow := Lib.hid (fun g' off' (e : q.A = some ⟨g', off', Option.none⟩) (h0 : 0 < q.m) => (hl'.out.hds q (List.mem_of_getElem? hq)).lowA (Nat.le_refl _) g' off' e h0)
          obtain ⟨qe, qA, qm, qc⟩ := q
          simp only at hqh hsix hlow
          have hcell1 := Lib.hid hcell
          have hq1 := Lib.hid hq
          have hp1 := Lib.hid h1
          have hqh1 := Lib.hid hqh
          obtain ⟨x, hx⟩ : ∃ x, x = cutE qe := ⟨_, rfl⟩
          have hx64 : U64 x.n := by rw [hx]; exact hsix.2.2.2.2.2
          have hxc : x.code ≤ 9223372036854775807 := by rw [hx]; exact hsix.2.2.2.2.1.2
          have hx' := Lib.hid hx
          have hcs := putE_case hT.ok [] x hx64.out (by omega)
          have hcut := Lib.hid (fun W h => cutE_at qe qA qm qc W h)
          rw [← hx] at hcut
          have hputP := Lib.hid (fun mx W (hp : PB W kb S k) hh => hs'.out.put kb S k Option.none 0 0 [] x qA mx qc W hp hT.ok (holds_nil W) (fun _ _ e => by cases e) hh hx64 hxc (by omega) (by omega))
          have hputR := Lib.hid (fun mx W (hr : RBk W rb t T0 u ls k.tab k.tick) hh => refPutE_any rb t T0 u ls k Option.none 0 0 [] x qA mx qc W hr hT.look hT.ok (holds_nil W) hh hx64 hxc (by omega) (by omega) (by omega))
          obtain ⟨PE, hPE⟩ : ∃ PE, PE = putE k [] x := ⟨_, rfl⟩
          rw [← hPE] at hcs hputP hputR
          obtain ⟨⟨Z, f⟩, k'⟩ := PE
          simp only at hcs hputP hputR
          obtain ⟨ht', hz', hok'⟩ := hcs
          have hok2 := Lib.hid hok'
          have ht2 := Lib.hid ht'
          have hT' := Lib.hid hT
          have hB' := Lib.hid hB
          have hll' := Lib.hid hll
          have htl' := Lib.hid htl
          have hsz := Lib.hid hB.size
          clear hcell hqh hsix hx hx64 hxc hT hB hll htl hok' ht' hz' hPE hq hE
          have hi1 : (p : Int) < (n : Int) := by omega
          have hi2 : (p : Int) < 20 := by omega
          have hoffR := Lib.hid (fun (W : World) (u : Value) (T0 : Nat → Prop) (m1 : Nat) (hm1 : m1 ≤ qm) (hnew : ∀ j, inB rb T0 u j → w.heap.size ≤ j) => (show Off (inB rb T0 u) qA m1 from fun g' off' e h0 hj => by have a1 := hlow.out g' off' e (by omega); have a2 := hnew g' hj; omega))
          have tl1 : True := trivial
          have tl2 : True := trivial
          have tc1 : True := trivial
          have tc2 : True := trivial
          go_wp2_with (first
            | (have _t := tl1; refine wpList_loadV rfl _ _ rfl (.pointer (some ⟨g, off + p * 12, Option.none⟩)) (evv qe qA qm qc) rfl (run_loadE _ g (off + p * 12) qe qA qm qc hcell1.out) ?_; clear tl1 _t)
            | (go_at_call 8; have _t := tc1; refine (hcut.out _ hqh1.out).mono ?_; rintro e w3 ⟨m1, rfl, hm1, hH1, hb1⟩; have hH1' := Lib.hid hH1; have hb1' := Lib.hid hb1; have hm1' := Lib.hid hm1; have hT3 := Lib.hid (hT'.out.later hs'.out hb1); have hsz3 := Lib.hid (Nat.le_trans hsz.out hb1.size); clear tc1 _t hH1 hb1 hm1)
            | (go_at_call 16; refine (hputP.out m1 _ hT3.out.p ⟨hH1'.out, fun g' off' e h0 hj => by have a1 := hlow.out g' off' e (by have := hm1'.out; omega); have a2 := hT3.out.newP g' hj; omega⟩).mono ?_; rintro e w4 ⟨r1, S', rfl, hp4, ha4, hn4, hown4, hof4⟩; have hH4 := Lib.hid (hT3.out.half hsz3.out hp4 ha4 hn4); have hb4 := Lib.hid ((hB'.out.trans (hb1'.out.mono hsz.out)).trans (ha4.below (Nat.le_trans hsz.out hb1'.out.size) hT3.out.newP)); have hsz4 := Lib.hid (Nat.le_trans hsz3.out ha4.size); have hcell4 := Lib.hid (hl'.out.later hb4.out); clear hp4 ha4 hn4 hown4 hof4)
            | (have _t := tl2; refine wpList_loadV rfl _ _ rfl (.pointer (some ⟨g, off + p * 12, Option.none⟩)) (evv qe qA qm qc) rfl (run_loadE _ g (off + p * 12) qe qA qm qc (hcell4.out.atq hp1.out hq1.out).1) ?_; clear tl2 _t)
            | (go_at_call 8; have _t := tc2; refine (hcut.out _ (hcell4.out.atq hp1.out hq1.out).2).mono ?_; rintro e w5 ⟨m2, rfl, hm2, hH2, hb5⟩; have hH2' := Lib.hid hH2; have hb5' := Lib.hid hb5; have hm2' := Lib.hid hm2; have hH5 := Lib.hid (hH4.out.later hs'.out hb5); have hsz5 := Lib.hid (Nat.le_trans hsz4.out hb5.size); clear tc2 _t hH2 hb5 hm2)
            | (go_at_call 17; refine (hputR.out m2 _ hH5.out.r ⟨hH2'.out, hoffR.out w5 u T0 m2 hm2'.out hH5.out.newR⟩).mono ?_; rintro e w6 ⟨r2, T1, u', ls', rfl, hB6, hO6, hlk6, hln6, hm6⟩; have hT6 := Lib.hid (hH5.out.two hs'.out hsz5.out hB6 hlk6 hok2.out (fun l hl g' off' e h0 hj => (hm6 l hl).elim (fun ⟨l0, h0', e1, e2⟩ => hH5.out.old l0 h0' g' off' (e1 ▸ e) (e2 ▸ h0) hj) (fun ⟨e1, e2⟩ => by have a1 := hlow.out g' off' (e1 ▸ e) (Nat.lt_of_lt_of_le (e2 ▸ h0) hm2'.out); have a2 := hH5.out.newP g' hj; omega))); have hb6 := Lib.hid ((hb4.out.trans (hb5'.out.mono hsz4.out)).trans (hB6.alt.below hsz5.out hH5.out.newR)); have hln6' := Lib.hid hln6; clear hB6 hO6 hlk6 hln6 hm6))
          go_roundw
          case rel => exact ⟨p + 1, _, _, _, _, k', by omega, by omega, by go_num, hT6.out, hb6.out, by have := hln6'.out; have := hll'.out; omega, by have := ht2.out; have := htl'.out; omega⟩
          case measure => simp [RowKit.intOf]; omega
        · have hR1 := Lib.hid (show ∃ S T0 u ls k, Two PB w kb rb t S T0 u ls k wr ∧ Below w.heap.size w wr ∧ ls.length ≤ 20 ∧ k.tab.length ≤ 1080 from ⟨S, T0, u, ls, k, hT, hB, by omega, by omega⟩)
          clear hT hB hll htl
          by_cases h1 : p < n
          · have h2 : p = 20 := by omega
            subst h2
            go_wp2_with fail
            go_meet
            case rel => exact hR1
          · go_wp2_with fail
            go_meet
            case rel => exact hR1
  case rest =>
    clear hTwo hB0
    have hcut1 := hcut
    clear hcut
    have hXn := hX'.out.len
    have hXc := hX'.out.cap
    go_upto_if 46 with fail
    go_cut [8] from 43 to 87 (fun y wr => (∃ m' X', y = .slice B m' d ∧ Hid (Holds w B m' d X') ∧ m' ≤ 6000) ∧ wr = wc)
    case first =>
      as_aux_lemma =>
        by_cases hm : 6000 < m
        · have g1 : decide ((6000 : Int) < (m : Int)) = true := decide_eq_true (by omega)
          have g3 : decide (6000 < m) = true := decide_eq_true hm
          have g4 : (6000 : Int) < (m : Int) := by omega
          have g2 : (6000 : Int) ≤ (d : Int) := by omega
          have hm' := Lib.hid hm
          clear hm
          go_wp2
          go_meet
          case rel => exact ⟨⟨6000, _, rfl, Lib.hid (hX'.out.front (k := 6000) (Nat.le_of_lt hm'.out)), Nat.le_refl _⟩, rfl⟩
        · have g1 : decide ((6000 : Int) < (m : Int)) = false := decide_eq_false (by omega)
          have g3 : decide (6000 < m) = false := decide_eq_false hm
          have g4 : ¬ (6000 : Int) < (m : Int) := by omega
          have hm' := Lib.hid hm
          clear hm
          go_wp2
          go_meet
          case rel => exact ⟨⟨m, X, rfl, hX', Nat.le_of_not_lt hm'.out⟩, rfl⟩
    case rest =>
      clear hXn hXc
      obtain ⟨⟨m', X', rfl, hX2, hm2⟩, hw9⟩ := hcut
      subst hw9
      obtain ⟨S, T0, u, ls, k, hTw, hBw, hls20, htb⟩ := hcut1.out
      clear hcut1
      have hT0 := Lib.hid hTw
      have hB0 := Lib.hid hBw
      have hls' := Lib.hid hls20
      have htb' := Lib.hid htb
      clear hTw hBw hls20 htb
      go_wp2_with fail
      go_loopw [9, 10] (fun at_ i wr => ∃ (p : Nat) (S T0 : Nat → Prop) (u : Value) (ls : List Ln) (k : Bk) (q : Nat), p ≤ 30 ∧ i = .int .i64 p ∧ at_ = .int .i64 (q : Int) ∧ q ≤ m' ∧ Two PB w kb rb t S T0 u ls k wr ∧ Below w.heap.size w wr ∧ ls.length ≤ 20 + p ∧ k.tab.length ≤ 1080 + 54 * p) (fun _ i _ => 30 - (RowKit.intOf i).toNat)
      case atStart => exact ⟨0, S, T0, u, ls, k, 0, Nat.zero_le _, rfl, rfl, Nat.zero_le _, hT0.out, hB0.out, hls'.out, htb'.out⟩
      case round =>
        clear hT0 hB0 hls' htb'
        obtain ⟨p, S, T0, u, ls, k, q, hp30, rfl, rfl, hqm, hT, hB, hll, htl⟩ := hrel
        by_cases hgo : p < 30
        · have hgi : (p : Int) < 30 := by omega
          have hXw := Lib.hid (hX2.out.later hB)
          have hoffX := Lib.hid (fun (S : Nat → Prop) (hn : ∀ j, S j → w.heap.size ≤ j) => (show Off S B m' from fun g off e h0 hj => by have h1 := hX2.out; rw [e] at h1; have h2 := h1.block h0; have h3 := hn g hj; omega))
          have htake := fun W (hp : PB W kb S k) hX ho => hst.out.take kb S k B m' d X' (q : Int) W hp hT.ok hX ho (by omega) (by omega) (by omega) (by omega)
          have htakeR := fun W (hp : RBk W rb t T0 u ls k.tab k.tick) hX ho => hrt.out rb t T0 u ls k B m' d X' (q : Int) W hp hT.look hT.ok hX ho (by omega) (by omega) (by omega) (by omega) (by omega)
          have hT' := Lib.hid hT
          have hB' := Lib.hid hB
          have hll' := Lib.hid hll
          have htl' := Lib.hid htl
          have hok := Lib.hid hT.ok
          obtain ⟨TE, hTE⟩ : ∃ TE, TE = takeE k X' q := ⟨_, rfl⟩
          rw [← hTE] at htake htakeR
          obtain ⟨⟨x, nx, e⟩, k'⟩ := TE
          have hTE' := Lib.hid hTE.symm
          simp only at htake htakeR
          unfold evv ecell12 at htake htakeR
          have htake' := Lib.hid htake
          have htakeR' := Lib.hid htakeR
          have tb1 : True := trivial
          have tb2 : True := trivial
          clear htake htakeR hTE hT hB hll htl hqm
          by_cases he : e = 0
          · subst he
            obtain ⟨z0, z1, z2, z3, z4, z5, z6, z7⟩ := takeE_is hX2.out.byt hok.out hTE'.out
            obtain ⟨nn, rfl⟩ : ∃ nn : Nat, nx = nn := ⟨nx.toNat, by omega⟩
            have hnm := Lib.hid (show nn ≤ m' by have := hX2.out.len; omega)
            subst z7
            have hok' := Lib.hid (hok.out.tell z3)
            have hlen' := Lib.hid (show (tellE k x).tab.length ≤ k.tab.length + 54 from headL_len z3)
            clear z0 z1 z2 z3 z4 z5 z6
            go_wp2_with (first
              | (go_at_call 18; refine (htake'.out wr hT'.out.p hXw.out (hoffX.out S hT'.out.newP)).mono ?_; rintro e4 w4 ⟨Ax, mx, cx, S3, rfl, hp4, ha4, hn4, hH4, hl4⟩; have hb4 := Lib.hid (hB'.out.trans (ha4.below hB'.out.size hT'.out.newP)); have hr4 := Lib.hid (hT'.out.other ha4); have hoffY := Lib.hid (show Off (inB rb T0 u) Ax mx from fun g9 off9 e9 h9 hj => by have a1 := hT'.out.r.low g9 hj; rcases hl4 g9 off9 e9 h9 with h8 | h8; rcases hn4 g9 h8 with h7 | h7; exact hT'.out.apart g9 h7 hj; omega; omega); have hsz4 := Lib.hid ha4.size; have hbE := Lib.hid (below_box w4 (.cells (ecell12 x Ax mx cx) 25)); have row4 := Lib.hid (heap_alloc_new w4 (.cells (ecell12 x Ax mx cx) 25)); have hlt4 := Lib.hid (show w4.heap.size < (w4.alloc (.cells (ecell12 x Ax mx cx) 25)).heap.size by simp); have hb5 := Lib.hid (hb4.out.trans (hbE.out.mono hb4.out.size)); have hX5 := Lib.hid (hX2.out.later hb5.out); have hH5x := Lib.hid (hH4.later hbE.out); have hp4' := Lib.hid hp4; have ha4' := Lib.hid ha4; have hn4' := Lib.hid hn4; unfold ecell12 at hbE row4 hlt4 hb5 hX5 hH5x; clear hp4 ha4 hn4 hH4 hl4)
              | (go_at_call 19; refine (htakeR'.out _ (hr4.out.later hbE.out) hX5.out (hoffX.out (inB rb T0 u) hT'.out.newR)).mono ?_; rintro e6 w6 ⟨Ay, my, cy, T1, u', ls', rfl, hq6, ha6, hn6, hH6⟩; have hb6 := Lib.hid (hb5.out.trans (ha6.below hb5.out.size hT'.out.newR)); have hbF := Lib.hid (below_box w6 (.cells (ecell12 x Ay my cy) 25)); have hevx := Lib.hid ((EvAt.row ((ha6.block w4.heap.size hlt4.out (fun hj => by have a1 := hT'.out.r.low w4.heap.size hj; have a2 := hsz4.out; omega)).trans row4.out) : EvAt w6 w4.heap.size x Ax mx cx).later hbF.out); have hevy := Lib.hid (evAt_new w6 x Ay my cy 25); have hHx := Lib.hid ((hH5x.out.alt ha6 hoffY.out).later hbF.out); have hHy := Lib.hid (hH6.later hbF.out); have hq6' := Lib.hid hq6; have ha6' := Lib.hid ha6; have hn6' := Lib.hid hn6; unfold ecell12 at hbF hevx hevy hHx hHy; clear hq6 ha6 hn6 hH6)
              | (have _t := tb1; refine wpList_loadV rfl _ _ rfl (.pointer (some ⟨w4.heap.size, 0, Option.none⟩)) (evv x Ax mx cx) rfl (run_loadE12 _ w4.heap.size x Ax mx cx hevx.out) ?_; clear tb1 _t)
              | (have _t := tb2; refine wpList_loadV rfl _ _ rfl (.pointer (some ⟨w6.heap.size, 0, Option.none⟩)) (evv x Ay my cy) rfl (run_loadE12 _ w6.heap.size x Ay my cy hevy.out) ?_; clear tb2 _t)
              | (go_at_call 20; refine (sameE_any x Ax Ay mx my cx cy _ hHx.out hHy.out).mono ?_; rintro e8 w8 ⟨rfl, hb8⟩; have hb8' := Lib.hid (below_then hbF.out hb8); clear hb8))
            obtain ⟨g1, g2, g3, g4⟩ := hq6'.out (by simp)
            have hH4 := hT'.out.half hB'.out.size (hp4'.out (by simp)) ha4'.out hn4'.out
            have hT8 := Lib.hid (((hH4.later hs'.out hbE.out).two hs'.out hb5.out.size ⟨g1, ha6'.out, hn6'.out⟩ g2 hok'.out (fun l hl g' off' e9 h0 hj => by
              have a2 := hs'.out.low hH4.p g' hj
              rcases g4 l hl with ⟨l0, h1, e1, e2⟩ | h1
              · exact hH4.old l0 h1 g' off' (e1 ▸ e9) (e2 ▸ h0) hj
              · have a1 := h1 g' off' e9 h0
                have a3 := hbE.out.size
                omega)).later hs'.out hb8'.out)
            have hb8 := Lib.hid (hb6.out.trans (hb8'.out.mono hb6.out.size))
            have hg3 := Lib.hid g3
            clear g1 g2 g3 g4 hH4
            go_roundw
            case rel => exact ⟨p + 1, _, _, _, _, tellE k x, nn, by omega, by go_num, rfl, hnm.out, hT8.out, hb8.out, by have := hg3.out; have := hll'.out; omega, by have := hlen'.out; have := htl'.out; omega⟩
            case measure => simp [RowKit.intOf]; omega
          · have he1 : (e == 0) = false := by simpa using he
            have he2 : (e != 0) = true := by simpa using he
            clear he
            go_wp2_with (first
              | (go_at_call 18; refine (htake'.out wr hT'.out.p hXw.out (hoffX.out S hT'.out.newP)).mono ?_; rintro e4 w4 ⟨Ax, mx, cx, S3, rfl, hp4, ha4, hn4, hH4, hl4⟩; have hb4 := Lib.hid (hB'.out.trans (ha4.below hB'.out.size hT'.out.newP)); have hr4 := Lib.hid (hT'.out.other ha4); have hoffY := Lib.hid (show Off (inB rb T0 u) Ax mx from fun g9 off9 e9 h9 hj => by have a1 := hT'.out.r.low g9 hj; rcases hl4 g9 off9 e9 h9 with h8 | h8; rcases hn4 g9 h8 with h7 | h7; exact hT'.out.apart g9 h7 hj; omega; omega); have hsz4 := Lib.hid ha4.size; have hbE := Lib.hid (below_box w4 (.cells (ecell12 x Ax mx cx) 25)); have row4 := Lib.hid (heap_alloc_new w4 (.cells (ecell12 x Ax mx cx) 25)); have hlt4 := Lib.hid (show w4.heap.size < (w4.alloc (.cells (ecell12 x Ax mx cx) 25)).heap.size by simp); have hb5 := Lib.hid (hb4.out.trans (hbE.out.mono hb4.out.size)); have hX5 := Lib.hid (hX2.out.later hb5.out); have hH5x := Lib.hid (hH4.later hbE.out); have hp4' := Lib.hid hp4; have ha4' := Lib.hid ha4; have hn4' := Lib.hid hn4; unfold ecell12 at hbE row4 hlt4 hb5 hX5 hH5x; clear hp4 ha4 hn4 hH4 hl4)
              | (go_at_call 19; refine (htakeR'.out _ (hr4.out.later hbE.out) hX5.out (hoffX.out (inB rb T0 u) hT'.out.newR)).mono ?_; rintro e6 w6 ⟨Ay, my, cy, T1, u', ls', rfl, hq6, ha6, hn6, hH6⟩; have hb6 := Lib.hid (hb5.out.trans (ha6.below hb5.out.size hT'.out.newR)); have hbF := Lib.hid (below_box w6 (.cells (ecell12 x Ay my cy) 25)); have hevx := Lib.hid ((EvAt.row ((ha6.block w4.heap.size hlt4.out (fun hj => by have a1 := hT'.out.r.low w4.heap.size hj; have a2 := hsz4.out; omega)).trans row4.out) : EvAt w6 w4.heap.size x Ax mx cx).later hbF.out); have hevy := Lib.hid (evAt_new w6 x Ay my cy 25); have hHx := Lib.hid ((hH5x.out.alt ha6 hoffY.out).later hbF.out); have hHy := Lib.hid (hH6.later hbF.out); have hq6' := Lib.hid hq6; have ha6' := Lib.hid ha6; have hn6' := Lib.hid hn6; unfold ecell12 at hbF hevx hevy hHx hHy; clear hq6 ha6 hn6 hH6)
              | (have _t := tb1; refine wpList_loadV rfl _ _ rfl (.pointer (some ⟨w4.heap.size, 0, Option.none⟩)) (evv x Ax mx cx) rfl (run_loadE12 _ w4.heap.size x Ax mx cx hevx.out) ?_; clear tb1 _t)
              | (have _t := tb2; refine wpList_loadV rfl _ _ rfl (.pointer (some ⟨w6.heap.size, 0, Option.none⟩)) (evv x Ay my cy) rfl (run_loadE12 _ w6.heap.size x Ay my cy hevy.out) ?_; clear tb2 _t)
              | (go_at_call 20; refine (sameE_any x Ax Ay mx my cx cy _ hHx.out hHy.out).mono ?_; rintro e8 w8 ⟨rfl, hb8⟩; have hb8' := Lib.hid (below_then hbF.out hb8); clear hb8)
              | (go_at_call 10; refine (haw'.out _).mono ?_; rintro e9 w9 ⟨rfl, hb9⟩; have hb9' := Lib.hid hb9; clear hb9))
            go_ret
            have hb8 := hb6.out.trans (hb8'.out.mono hb6.out.size)
            exact ⟨rfl, hb8.trans (hb9'.out.mono hb8.size)⟩
        · have hpe : p = 30 := by omega
          subst hpe
          have hbw := Lib.hid hB
          clear hT hB
          go_wp2_with (go_at_call 10; refine (haw'.out wr).mono ?_; rintro e w9 ⟨rfl, hb9⟩; have hb9' := Lib.hid hb9; clear hb9)
          go_ret
          exact ⟨rfl, hbw.out.trans (hb9'.out.mono hbw.out.size)⟩
end Go.Proofs.Ytodncamohimmmaa
