/-
  The walk of EventRound, under contracts of event's Book and of the fixed fact. Conditions: those that each theorem states.
-/
import Derived.Test.YtodncamohimmmaaLow5
import Derived.Deep.CutBlock
import Derived.Test.YtodncamohimmmaaLow25
namespace Go.Proofs.Ytodncamohimmmaa
open Go.RowKit Go.Lib Leb

def er1F (x : Ev) (Ax : Option Addr) (mx cx : Nat) (qA : Option Addr) (qm qc : Nat) (nx q : Int) (gw nl cw p : Nat) (j : Nat) (v : Value) (_ : World) : Prop :=
  match j with
  | 0 => v = .int .i64 0
  | 1 => v = .bool false
  | 2 => v = .bool false
  | 3 => v = evv x Ax mx cx
  | 4 => v = .slice (some ⟨gw, 0, Option.none⟩) nl cw
  | 5 => v = .int .i64 (p : Int)
  | 6 => v = .pointer (some ⟨gw, 0 + p * 12, Option.none⟩)
  | 7 => v = evv x qA qm qc
  | 8 => v = .bool true
  | 9 => v = .bool false
  | 10 => v = .bool false
  | 11 => v = .bool false
  | 12 => v = .int .i64 nx
  | 13 => v = .int .i64 q
  | 14 => v = .bool false
  | 15 => v = .bool false
  | _ => True
theorem er1F_later {x : Ev} {Ax : Option Addr} {mx cx : Nat} {qA : Option Addr} {qm qc : Nat} {nx q : Int} {gw nl cw p : Nat} : Outlives (er1F x Ax mx cx qA qm qc nx q gw nl cw p) := by
  intro j v w w' h hk
  unfold er1F at h ⊢
  split at h
  all_goals first | exact h.keeps hk | exact h
def er2F (Ar : Option Addr) (nr cr gB oB m' d q nn : Nat) (s : ByteArray) (j : Nat) (v : Value) (_ : World) : Prop :=
  match j with
  | 0 => v = .int .i64 0
  | 1 => v = .bool false
  | 2 => v = .bool false
  | 3 => v = .int .i64 (nn : Int)
  | 4 => v = .slice (some ⟨gB, oB, Option.none⟩) m' d
  | 5 => v = .int .i64 (m' : Int)
  | 6 => v = .bool false
  | 7 => v = .bool false
  | 8 => v = .bool false
  | 9 => v = .slice Ar nr cr
  | 10 => v = .string s
  | 11 => v = .slice (some ⟨gB, oB, Option.none⟩) m' d
  | 12 => v = .int .i64 (q : Int)
  | 13 => v = .int .i64 (nn : Int)
  | 14 => v = .slice (some ⟨gB, oB + q, Option.none⟩) (nn - q) (d - q)
  | 15 => v = .string s
  | 16 => v = .bool false
  | 17 => v = .bool false
  | _ => True
theorem er2F_later {Ar : Option Addr} {nr cr gB oB m' d q nn : Nat} {s : ByteArray} : Outlives (er2F Ar nr cr gB oB m' d q nn s) := by
  intro j v w w' h hk
  unfold er2F at h ⊢
  split at h
  all_goals first | exact h.keeps hk | exact h
set_option maxHeartbeats 32000000 in
set_option maxRecDepth 100000 in
theorem eventRound_walk {PB : World → Nat → (Nat → Prop) → Bk → Prop} (hs : BookTakes PB) (haw : ∀ W : World, Calls Try.prog 10 #[] W fun e w' => e = .returned (.bool true) ∧ Below W.heap.size W w')
    (A : Option Addr) (n c : Nat) (l : List Eva) (B : Option Addr) (m d : Nat) (X : List Int) (w : World) (hl : Evs w A n c l) (h6 : ∀ q ∈ l, Six12 q.ev) (hX : Holds w B m d X) :
    Calls Try.prog 6 #[.slice A n c, .slice B m d] w fun e w' => e = .returned (.bool true) ∧ Below w.heap.size w w' := by
  obtain ⟨ie, he1, he2, he3, he4⟩ := info_parts infoEv3
  have hs' := Lib.hid hs.said
  have hst := Lib.hid hs
  have haw' := Lib.hid haw
  have hl' := Lib.hid hl
  have h6' := Lib.hid h6
  have hX' := Lib.hid hX
  clear hs haw hl h6 hX
  have tn1 : True := trivial
  have tn2 : True := trivial
  go_enter Try.func6, Try.ntmps6
  go_upto_block 0 with (first
    | (go_at_call 14; have _t := tn1; refine (hs'.out.new w).mono ?_; rintro e w1 ⟨kb, S, rfl, hp1, hlo1, hb1⟩; have hp1' := Lib.hid hp1; have hlo1' := Lib.hid hlo1; have hb1' := Lib.hid hb1; clear hp1 hlo1 hb1 tn1 _t)
    | (go_at_call 14; have _t := tn2; refine (hs'.out.new w1).mono ?_; rintro e w2 ⟨lb, S2, rfl, hp2, hlo2, hb2⟩; have hp2' := Lib.hid hp2; have hlo2' := Lib.hid hlo2; have hb2' := Lib.hid hb2; clear hp2 hlo2 hb2 tn2 _t))
  have hsz1 := Lib.hid hb1'.out.size
  have hsz2 := Lib.hid hb2'.out.size
  have hTwo := Lib.hid (show Pair2 PB w kb lb S S2 newB newB w2 from
    ⟨hs'.out.alt hp1'.out (alt_below hb2'.out fun _ => False) (fun _ _ h => h), hp2'.out, Bk.Ok.new, Bk.Ok.new, fun j hj hR => by have h1 := hs'.out.low hp1'.out j hj; have h2 := hlo2'.out j hR; omega, hlo1'.out, fun j hR => by have h2 := hlo2'.out j hR; have := hsz1.out; omega⟩)
  have hB1 := Lib.hid (below_box w2 (.cells #[] 5))
  have hB2 := Lib.hid (below_box (w2.alloc (.cells #[] 5)) (.cells #[] 25))
  have hO1 := Lib.hid (owns_lit w2 w2.heap.size 5 #[] [] rfl Bytes.nil (by simp) (Nat.le_refl _))
  have hO2 := ownsA_none (w2.alloc (.cells #[] 5)) w2.heap.size hB1.out.size
  simp only [World.size_alloc] at hO2
  replace hO2 := Lib.hid hO2
  have hbase := Lib.hid (show w.heap.size ≤ w2.heap.size from Nat.le_trans hsz1.out hsz2.out)
  have hRA0 := Lib.hid (show RA PB w kb lb S S2 newB [] [] (.slice (some ⟨w2.heap.size, 0, Option.none⟩) 0 0) (.slice (some ⟨w2.heap.size + 1, 0, Option.none⟩) 0 0) ((w2.alloc (.cells #[] 5)).alloc (.cells #[] 25)) by
    refine ⟨(hTwo.out.later hs'.out hB1.out).later hs'.out hB2.out, ?_, ⟨hO2.out.low hbase.out, fun g e hj => ?_, fun g e hj => ?_⟩, fun g e e2 => ?_, Chain.nil, (fun q hq => by cases hq), below_then (below_then (below_then hb1'.out hb2'.out) hB1.out) hB2.out⟩
    · refine (Out2.mk (hO1.out.low hbase.out) (fun g e hj => ?_) (fun g e hj => ?_)).later hB2.out
      · have h1 := hs'.out.low hTwo.out.p g hj
        have h2 : w2.heap.size = g := by simpa [Value.ownBlock] using e
        omega
      · have h1 := hs'.out.low hTwo.out.p2 g hj
        have h2 : w2.heap.size = g := by simpa [Value.ownBlock] using e
        omega
    · have h1 := hs'.out.low hTwo.out.p g hj
      have h2 : w2.heap.size + 1 = g := by simpa [Value.ownBlock] using e
      omega
    · have h1 := hs'.out.low hTwo.out.p2 g hj
      have h2 : w2.heap.size + 1 = g := by simpa [Value.ownBlock] using e
      omega
    · have h2 : w2.heap.size + 1 = g := by simpa [Value.ownBlock] using e
      have h3 : w2.heap.size = g := by simpa [Value.ownBlock] using e2
      omega)
  clear hTwo hB1 hB2 hO1 hO2 hbase hsz1 hsz2 hp1' hlo1' hb1' hp2' hlo2' hb2'
  go_cut [7, 8] from 27 to 147 (fun va vw wr => Hid (∃ S k Y l2, RA PB w kb lb S S2 k Y l2 va vw wr ∧ l2.length ≤ 30 ∧ Y.length ≤ 3600000))
  case first =>
    as_aux_lemma =>
      go_wp2_with fail
      go_loopw [7, 8, 9] (fun va vw i wr => ∃ (p : Nat) (S : Nat → Prop) (k : Bk) (Y : List Int) (l2 : List Eva), p ≤ n ∧ p ≤ 30 ∧ i = .int .i64 p ∧ RA PB w kb lb S S2 k Y l2 va vw wr ∧ l2.length ≤ p ∧ Y.length ≤ 120000 * p) (fun _ _ i _ => 30 - (RowKit.intOf i).toNat)
      case atStart => exact ⟨0, S, newB, [], [], Nat.zero_le _, Nat.zero_le _, rfl, hRA0.out, Nat.le_refl _, Nat.le_refl _⟩
      case round =>
        clear hRA0
        obtain ⟨p, S, k, Y, l2, hpn, hp30, rfl, hR, hll, hyl⟩ := hrel
        by_cases hgo : p < n ∧ p < 30
        · obtain ⟨h1, h2⟩ := hgo
          have hE := hl'.out.later hR.bel
          obtain ⟨g, off, q, rfl, hq, hcell, hqh⟩ := hE.at h1
          have hsix := h6'.out q (List.mem_of_getElem? hq)
          have hlow := Lib.hid (fun g' off' (e : q.A = some ⟨g', off', Option.none⟩) (h0 : 0 < q.m) => (hl'.out.hds q (List.mem_of_getElem? hq)).lowA (Nat.le_refl _) g' off' e h0)
          obtain ⟨qe, qA, qm, qc⟩ := q
          simp only at hqh hsix hlow
          have hcell1 := Lib.hid hcell
          have hq1 := Lib.hid hq
          have hp1 := Lib.hid h1
          have hqh1 := Lib.hid hqh
          obtain ⟨x, hx⟩ : ∃ x, x = cutE qe := ⟨_, rfl⟩
          have hx64 : U64 x.n := by rw [hx]; exact hsix.2.2.2.2.2
          have hxc : x.code ≤ 9223372036854775807 := by rw [hx]; exact hsix.2.2.2.2.1.2
          have hx' := Lib.hid hx
          have htab := hR.chain.tab
          rw [List.length_map] at htab
          have htab' : k.tab.length ≤ 54 * l2.length := by simpa [newB] using htab
          have hcs := putE_case hR.two.ok Y x hx64.out (by omega)
          have hcut := Lib.hid (fun W h => cutE_at qe qA qm qc W h)
          rw [← hx] at hcut
          obtain ⟨Bb, cb, rfl, hXb⟩ := hR.all.own.holds
          have hputP := fun mx W (hp : PB W kb S k) hX ho hh => hs'.out.put kb S k Bb Y.length cb Y x qA mx qc W hp hR.two.ok hX ho hh hx64 hxc (by omega) (by omega)
          have hRR := Lib.hid hR
          have hll' := Lib.hid hll
          have hyl' := Lib.hid hyl
          have hsz := Lib.hid hR.bel.size
          obtain ⟨ny, hny⟩ : ∃ ny, ny = Y.length := ⟨_, rfl⟩
          rw [← hny] at hXb hputP hRR ⊢
          have hny' := Lib.hid hny
          have hx64' := Lib.hid hx64
          have hi1 : (p : Int) < (n : Int) := by omega
          have hi2 : (p : Int) < 30 := by omega
          clear hcell hqh hsix hx hx64 hxc hR hll hyl hny hq hE hXb htab htab'
          have tl1 : True := trivial
          have tl2 : True := trivial
          have tc1 : True := trivial
          have tc2 : True := trivial
          by_cases hgt : GoodE x ∧ k.tick ≤ x.tick
          · obtain ⟨hgx, htx⟩ := hgt
            rw [putE_ok hgx htx] at hputP hcs
            simp only at hputP hcs
            have hput' := Lib.hid hputP
            have hcs' := Lib.hid hcs
            have hch := Lib.hid (Chain.snoc hRR.out.chain hgx htx hx64'.out)
            have hokk := Lib.hid (hRR.out.two.ok.tell hgx)
            clear hputP hcs hgx htx
            go_wp2_with (first
              | (have _t := tl1; refine wpList_loadV rfl _ _ rfl (.pointer (some ⟨g, off + p * 12, Option.none⟩)) (evv qe qA qm qc) rfl (run_loadE _ g (off + p * 12) qe qA qm qc hcell1.out) ?_; clear tl1 _t)
              | (go_at_call 8; have _t := tc1; refine (hcut.out _ hqh1.out).mono ?_; rintro e w3 ⟨m1, rfl, hm1, hH1, hb1⟩; have hH1' := Lib.hid hH1; have hb1' := Lib.hid hb1; have hm1' := Lib.hid hm1; have hT3 := Lib.hid (hRR.out.two.later hs'.out hb1); have hsz3 := Lib.hid (Nat.le_trans hsz.out hb1.size); clear tc1 _t hH1 hb1 hm1)
              | (go_at_call 16; refine (hput'.out m1 _ hT3.out.p ((hRR.out.all.later hb1'.out).own.holdsAt) (hRR.out.all.offP.off) ⟨hH1'.out, fun g' off' e h0 hj => by have a1 := hlow.out g' off' e (by have := hm1'.out; omega); have a2 := hT3.out.newS g' hj; omega⟩).mono ?_; rintro e w4 ⟨r1, S', rfl, hp4, ha4, hn4, hown4, hof4⟩; have hT4 := Lib.hid (hT3.out.first hs'.out hsz3.out hp4 hokk.out ha4 hn4); have hr4 := Lib.hid (out_pair (w := w) hs'.out hT3.out.p2 hsz3.out hown4 hof4); have hv4 := Lib.hid ((hRR.out.was.later hb1'.out).altP ha4 hn4); have hb4 := Lib.hid ((hRR.out.bel.trans (hb1'.out.mono hsz.out)).trans (ha4.below hsz3.out hT3.out.newS)); have hsz4 := Lib.hid (Nat.le_trans hsz3.out ha4.size); have hcell4 := Lib.hid (hl'.out.later hb4.out); have hrb4 := Lib.hid (fun g e => (hown4.2.lt g e)); clear hp4 ha4 hn4 hown4 hof4)
              | (have _t := tl2; refine wpList_loadV rfl _ _ rfl (.pointer (some ⟨g, off + p * 12, Option.none⟩)) (evv qe qA qm qc) rfl (run_loadE _ g (off + p * 12) qe qA qm qc (hcell4.out.atq hp1.out hq1.out).1) ?_; clear tl2 _t)
              | (go_at_call 8; have _t := tc2; refine (hcut.out _ (hcell4.out.atq hp1.out hq1.out).2).mono ?_; rintro e w5 ⟨m2, rfl, hm2, hH2, hb5⟩; have hb5' := Lib.hid (below_then hb5 (below_box w5 (.cells (ecell12 x qA m2 qc) 25))); have hT6 := Lib.hid (hT4.out.later hs'.out hb5'.out); have hr6 := Lib.hid (hr4.out.later hb5'.out); have hv6 := Lib.hid (hv4.out.later hb5'.out); have hsz6 := Lib.hid (Nat.le_trans hsz4.out hb5'.out.size); have hb6 := Lib.hid (hb4.out.trans (hb5'.out.mono hsz4.out)); have hq0 := Lib.hid (hH2.before (hb4.out.trans (hb5.mono hsz4.out)) fun g' off' e h0 => hlow.out g' off' e (by omega)); clear tc2 _t hH2 hb5 hm2)
              | (refine wpList_buildV rfl _ _ _ rfl #[(0, evv x qA m2 qc)] (by simp [Act.eval]) _ (run_buildEv w5 x qA m2 qc) ?_)
              | (at_builtin; refine wpList_append_ev rfl (.tmp 55) (.tmp 61) 38 rfl w.heap.size ie Try.underlying38 he1 he2 he3 he4 _ l2 rfl hv6.out.own w5.heap.size ⟨x, qA, m2, qc⟩ rfl (ev_cell w5 x qA m2 qc) (by have := hll'.out; omega) hsz6.out ?_; intro v7 w7 hO7 hg7 hat7; have hO7' := Lib.hid hO7; have hg7' := Lib.hid hg7; have hat7' := Lib.hid hat7; clear hO7 hg7 hat7))
            go_roundw
            case rel =>
              refine ⟨p + 1, S', tellE k x, Y ++ encB k x, l2 ++ [⟨x, qA, m2, qc⟩], by omega, by omega, by go_num, ⟨hT6.out.app hs'.out hv6.out hg7'.out, hr6.out.app hg7'.out ?_, hv6.out.app hO7'.out hat7'.out (fun j hj => hs'.out.low hT6.out.p j hj) (fun j hj => hs'.out.low hT6.out.p2 j hj), ?_, ?_, ?_, ?_⟩, ?_, ?_⟩
              · exact fun g' e e2 => by have a1 := (World.ownsRow.lt hRR.out.was.own g' e).2; have a2 := (hrb4.out g' e2).1; have a3 := hb1'.out.size; omega
              · refine fun g' e e2 => hat7'.out.elim (fun h => ?_) (fun h => ?_)
                · rw [h] at e
                  have a1 := (World.ownsRow.lt hRR.out.was.own g' e).2
                  have a2 := (hrb4.out g' e2).1
                  have a3 := hb1'.out.size
                  omega
                · rw [h] at e
                  injection e with e
                  have a2 := (hrb4.out g' e2).2
                  have a3 := hb5'.out.size
                  omega
              · rw [List.map_append]; exact hch.out
              · intro q hq
                rcases List.mem_append.1 hq with h | h
                · exact hRR.out.hds q h
                · have : q = ⟨x, qA, m2, qc⟩ := by simpa using h
                  subst this
                  exact hq0.out
              · exact hb6.out.grown hg7'.out hsz6.out (fun k hk => (World.ownsRow.lt hv6.out.own k hk).1)
              · rw [List.length_append]; have := hll'.out; simp; omega
              · have := hcs'.out.2.1; have := hyl'.out; have := hny'.out; omega
            case measure => simp [RowKit.intOf]; omega
          · obtain ⟨f, hf0, hpe⟩ : ∃ f : Int, (f == 0) = false ∧ putE k Y x = (([], f), k) := by
              by_cases hgx : GoodE x
              · exact ⟨9, rfl, putE_order hgx (Int.not_le.1 fun h => hgt ⟨hgx, h⟩)⟩
              · exact ⟨4, rfl, putE_bad hgx⟩
            rw [hpe] at hputP
            simp only at hputP
            have hput' := Lib.hid hputP
            clear hputP hcs hpe hgt
            go_wp2_with (first
              | (have _t := tl1; refine wpList_loadV rfl _ _ rfl (.pointer (some ⟨g, off + p * 12, Option.none⟩)) (evv qe qA qm qc) rfl (run_loadE _ g (off + p * 12) qe qA qm qc hcell1.out) ?_; clear tl1 _t)
              | (go_at_call 8; have _t := tc1; refine (hcut.out _ hqh1.out).mono ?_; rintro e w3 ⟨m1, rfl, hm1, hH1, hb1⟩; have hH1' := Lib.hid hH1; have hb1' := Lib.hid hb1; have hm1' := Lib.hid hm1; have hT3 := Lib.hid (hRR.out.two.later hs'.out hb1); have hsz3 := Lib.hid (Nat.le_trans hsz.out hb1.size); clear tc1 _t hH1 hb1 hm1)
              | (go_at_call 16; refine (hput'.out m1 _ hT3.out.p ((hRR.out.all.later hb1'.out).own.holdsAt) (hRR.out.all.offP.off) ⟨hH1'.out, fun g' off' e h0 hj => by have a1 := hlow.out g' off' e (by have := hm1'.out; omega); have a2 := hT3.out.newS g' hj; omega⟩).mono ?_; rintro e w4 ⟨r1, S', rfl, hp4, ha4, hn4, hown4, hof4⟩; have hT4 := Lib.hid (hT3.out.first hs'.out hsz3.out hp4 hRR.out.two.ok ha4 hn4); have hr4 := Lib.hid ((hRR.out.all.later hb1'.out).altP ha4 hn4); have hv4 := Lib.hid ((hRR.out.was.later hb1'.out).altP ha4 hn4); have hb4 := Lib.hid ((hRR.out.bel.trans (hb1'.out.mono hsz.out)).trans (ha4.below hsz3.out hT3.out.newS)); clear hp4 ha4 hn4 hown4 hof4))
            go_roundw
            case rel => exact ⟨p + 1, S', k, Y, l2, by omega, by omega, by go_num, ⟨hT4.out, hr4.out, hv4.out, hRR.out.ne, hRR.out.chain, hRR.out.hds, hb4.out⟩, by have := hll'.out; omega, by have := hyl'.out; omega⟩
            case measure => simp [RowKit.intOf]; omega
        · have hR1 := Lib.hid (show ∃ S k Y l2, RA PB w kb lb S S2 k Y l2 u7 u8 wr ∧ l2.length ≤ 30 ∧ Y.length ≤ 3600000 from ⟨S, k, Y, l2, hR, by omega, by omega⟩)
          clear hR hll hyl
          by_cases h1 : p < n
          · have h2 : p = 30 := by omega
            subst h2
            go_wp2_with fail
            go_meet
            case rel => exact hR1
          · go_wp2_with fail
            go_meet
            case rel => exact hR1
  case rest =>
    clear hRA0
    obtain ⟨S, k, Y, l2, hR, hl30, hY⟩ := hcut.out
    clear hcut
    have hok := Lib.hid hR.two.ok
    obtain ⟨A7, c7, rfl, _⟩ := hR.all.own.holds
    obtain ⟨A8, c8, rfl, _⟩ := hR.was.own.slice
    have hch := Lib.hid hR.chain
    have hds := Lib.hid hR.hds
    have hY' := Lib.hid hY
    have hl30' := Lib.hid hl30
    have hRB0 := Lib.hid (show RB PB w kb lb S S2 k newB Y l2 (.slice A7 Y.length c7) (.slice A8 l2.length c8) wc from ⟨hR.two, hR.all, hR.was, hR.bel⟩)
    obtain ⟨ny, hny⟩ : ∃ ny, ny = Y.length := ⟨_, rfl⟩
    obtain ⟨nl, hnl⟩ : ∃ nl, nl = l2.length := ⟨_, rfl⟩
    rw [← hny, ← hnl] at hRB0
    rw [← hny, ← hnl]
    have hny' := Lib.hid hny
    have hnl' := Lib.hid hnl
    clear hR hY hl30 hny hnl
    go_upto_block 2 with fail
    go_cut [12] from 63 to 147 (fun at_ wr => at_ = .int .i64 (ny : Int) ∧ Hid (Below w.heap.size w wr))
    case first =>
      as_aux_lemma =>
        go_wp2_with fail
        go_loopw [12, 13] (fun at_ i wr => ∃ (p : Nat) (S2' : Nat → Prop) (k2 : Bk) (Yi : List Int), p ≤ nl ∧ i = .int .i64 p ∧ at_ = .int .i64 (Yi.length : Int) ∧ Chain newB ((l2.map (·.ev)).take p) k2 Yi ∧ RB PB w kb lb S S2' k k2 Y l2 (.slice A7 ny c7) (.slice A8 nl c8) wr) (fun _ i _ => nl - (RowKit.intOf i).toNat)
        case atStart => exact ⟨0, S2, newB, [], Nat.zero_le _, rfl, rfl, Chain.nil, hRB0.out⟩
        case round =>
          clear hRB0
          obtain ⟨p, S2', k2, Yi, hpn, rfl, rfl, hc2, hR⟩ := hrel
          have hn30 : nl ≤ 30 := by have := hl30'.out; have := hnl'.out; omega
          by_cases hgo : p < nl
          · have hpl : p < l2.length := by rw [← hnl'.out]; exact hgo
            obtain ⟨q, hq⟩ : ∃ q, l2[p]? = some q := ⟨_, List.getElem?_eq_getElem hpl⟩
            obtain ⟨ki, Yi', hca, hcb, htk, hle, hlt⟩ := hch.out.at Bk.Ok.new (by rw [List.length_map]; have := hl30'.out; simp [newB]; omega) (i := p) (x := q.ev) (by rw [List.getElem?_map, hq]; rfl)
            obtain ⟨rfl, rfl⟩ := hca.uniq hc2
            obtain ⟨x, qA, qm, qc⟩ := q
            simp only at hcb htk hle hlt
            have hok3 := hcb.ok Bk.Ok.new
            obtain ⟨Yn, hYn⟩ : ∃ Yn, Yn = Yi' ++ encB ki x := ⟨_, rfl⟩
            rw [← hYn] at hcb htk hle hlt
            clear hYn
            obtain ⟨A9, c9, e9, hc9⟩ := hR.was.own.slice
            injection e9 with e91 e92 e93
            subst e91
            obtain ⟨gw, hgw0, hcw0⟩ := hc9 (by omega)
            subst hgw0
            have hwc0 := hcw0 p _ hq
            have hHq0 := hds.out _ (List.mem_of_getElem? hq)
            have hok2 := hc2.ok Bk.Ok.new
            have htab := hc2.tab
            have htab2 : ki.tab.length ≤ 200000 := by
              rw [List.length_take] at htab
              have := hl30'.out
              have e0 : newB.tab.length = 0 := rfl
              omega
            have htake := fun W S2' (hp : PB W lb S2' ki) hX ho => hst.out.take lb S2' ki A7 ny c7 Y (Yi'.length : Int) W hp hok2 hX ho htab2 (by have := hY'.out; have := hny'.out; omega) (by omega) (by have := hY'.out; omega)
            rw [htk] at htake
            simp only at htake
            unfold evv ecell12 at htake
            have hok2b := Lib.hid hok3
            have htake' := Lib.hid htake
            have hcb' := Lib.hid hcb
            have hnq := Lib.hid (show (Yi'.length : Int) < (Yn.length : Int) by omega)
            have hp1 := Lib.hid hgo
            have hwc1 := Lib.hid hwc0
            have hHq1 := Lib.hid hHq0
            have hRR := Lib.hid hR
            have hgi : (p : Int) < (nl : Int) := by omega
            have hq1 := Lib.hid hq
            clear hok3 hpl hq hca htk hle hlt hc9 hcw0 hwc0 hHq0 hok2 htab htab2 htake hcb hR hc2 e92 e93
            go_wp2_with (first
              | (go_at_call 18; refine (htake'.out wr S2' hRR.out.two.p2 hRR.out.all.own.holdsAt hRR.out.all.offR.off).mono ?_; rintro e w4 ⟨Ax, mx, cx, S3, rfl, hp4, ha4, hn4, hH4, hl4⟩; have hR4 := Lib.hid (hRR.out.took hs'.out (hp4 trivial) hok2b.out ha4 hn4); have hH4' := Lib.hid hH4; clear hp4 ha4 hn4 hH4 hl4))
            have hbE := Lib.hid (below_box w4 (.cells (ecell12 x Ax mx cx) 25))
            have hevx := Lib.hid (evAt_new w4 x Ax mx cx 25)
            have hR5 := Lib.hid (hR4.out.later hs'.out hbE.out)
            have hHx := Lib.hid (hH4'.out.later hbE.out)
            have hHq := Lib.hid (hHq1.out.later hR5.out.bel)
            obtain ⟨A9, c9, e9, hc9⟩ := hR5.out.was.own.slice
            injection e9 with e91 e92 e93
            obtain ⟨gw2, hgw2, hcw2⟩ := hc9 (by have := hnl'.out; have := hp1.out; omega)
            rw [← e91] at hgw2
            injection hgw2 with hgw2
            injection hgw2 with hgw2
            subst hgw2
            have hwc := Lib.hid (hcw2 p _ hq1.out)
            have hgw := Lib.hid (show gw < w4.heap.size + 1 by have h9 := (World.ownsRow.lt hR5.out.was.own gw rfl).2; simpa using h9)
            clear e91 e92 e93 hc9 hcw2
            unfold ecell12 at hR5 hevx hHx hHq hwc hbE
            obtain ⟨W5, hW5⟩ : ∃ W5, W5 = (w4.alloc (.cells #[.int .i64 x.kind, .int .i64 x.ses, .int .i64 x.tick, .string x.me, .string x.url, .slice Ax mx cx, .string x.body, .int .i64 x.status, .int .i64 x.code, .bool x.cred, .string x.no, .int .u64 (x.n : Int)] 25)) := ⟨_, rfl⟩
            rw [← hW5] at hR5 hevx hHx hHq hwc ⊢
            have hgw5 := Lib.hid (show gw < W5.heap.size by rw [hW5]; simpa using hgw.out)
            clear hW5 hbE hgw
            refine wp_region_each (RInv 148 [77, 78, 79, 80, 81, 82, 83, 84, 85, 86, 87, 88, 89, 90, 91, 92] _ (er1F x Ax mx cx qA qm qc (Yn.length : Int) (Yi'.length : Int) gw nl c8 p) W5 NoMore) (by kernel_rfl) (by kernel_rfl) (RInv.start rfl trivial (Below.refl _ _).drew) ?_ ?_
            · intro i hi D a wy hI hcl hnd hpre
              have hi' : i < 16 := hi
              have hcase : i = 0 ∨ i = 1 ∨ i = 2 ∨ i = 3 ∨ i = 4 ∨ i = 5 ∨ i = 6 ∨ i = 7 ∨ i = 8 ∨ i = 9 ∨ i = 10 ∨ i = 11 ∨ i = 12 ∨ i = 13 ∨ i = 14 ∨ i = 15 := by omega
              have hF := hI.fact
              rcases hcase with rfl | rfl | rfl | rfl | rfl | rfl | rfl | rfl | rfl | rfl | rfl | rfl | rfl | rfl | rfl | rfl
              · exact wpOp_move rfl (wanted_free rfl) _ rfl _ (hI.same 16 (by decide)) (hI.add (by decide) er1F_later (by decide) (Below.refl _ _) rfl)
              · exact wpOp_bin rfl (wanted_free rfl) _ _ _ _ _ rfl _ _ _ (hF 0 (hpre 0 (by kernel_rfl))) rfl (run_neqZ wy) (hI.add (by decide) er1F_later (by decide) (Below.refl _ _) rfl)
              · exact wpOp_move rfl (wanted_free rfl) _ rfl _ (hF 1 (hpre 1 (by kernel_rfl))) (hI.add (by decide) er1F_later (by decide) (Below.refl _ _) rfl)
              · have g2 := hF 2 (hpre 2 (by kernel_rfl))
                exact wpOp_load rfl (wanted_by (d := 79) rfl _ rfl rfl g2) _ _ rfl _ _ (hI.same 14 (by decide)) (run_loadE12 wy w4.heap.size x Ax mx cx (hevx.out.later hI.below)) (hI.add (by decide) er1F_later (by decide) (Below.refl _ _) rfl)
              · have g2 := hF 2 (hpre 2 (by kernel_rfl))
                exact wpOp_move rfl (wanted_by (d := 79) rfl _ rfl rfl g2) _ rfl _ (hI.same 8 (by decide)) (hI.add (by decide) er1F_later (by decide) (Below.refl _ _) rfl)
              · have g2 := hF 2 (hpre 2 (by kernel_rfl))
                exact wpOp_move rfl (wanted_by (d := 79) rfl _ rfl rfl g2) _ rfl _ (hI.same 13 (by decide)) (hI.add (by decide) er1F_later (by decide) (Below.refl _ _) rfl)
              · have g2 := hF 2 (hpre 2 (by kernel_rfl))
                exact wpOp_index rfl (wanted_by (d := 79) rfl _ rfl rfl g2) _ _ _ rfl _ _ _ (hF 4 (hpre 4 (by kernel_rfl))) (hF 5 (hpre 5 (by kernel_rfl))) (run_idxEv wy gw nl c8 p hp1.out) (hI.add (by decide) er1F_later (by decide) (Below.refl _ _) rfl)
              · have g2 := hF 2 (hpre 2 (by kernel_rfl))
                exact wpOp_load rfl (wanted_by (d := 79) rfl _ rfl rfl g2) _ _ rfl _ _ (hF 6 (hpre 6 (by kernel_rfl))) (run_loadE wy gw (0 + p * 12) x qA qm qc (fun i hi => ((hI.below.cell (p := ⟨gw, 0 + p * 12 + i, Option.none⟩) hgw5.out).trans (hwc.out i hi)))) (hI.add (by decide) er1F_later (by decide) (Below.refl _ _) rfl)
              · have g2 := hF 2 (hpre 2 (by kernel_rfl))
                exact wpOp_call2 rfl (wanted_by (d := 79) rfl _ rfl rfl g2) 20 _ _ _ rfl _ _ (hF 3 (hpre 3 (by kernel_rfl))) (hF 7 (hpre 7 (by kernel_rfl))) (enters_same18 _ _) (sameE_any x Ax qA mx qm cx qc wy (hHx.out.later hI.below) (hHq.out.later hI.below)) (fun e w' h => ⟨_, h.1, hI.add (by decide) er1F_later (by decide) h.2 rfl⟩)
              · have g2 := hF 2 (hpre 2 (by kernel_rfl))
                exact wpOp_unary rfl (wanted_by (d := 79) rfl _ rfl rfl g2) _ _ _ rfl _ _ (hF 8 (hpre 8 (by kernel_rfl))) (run_notT wy) (hI.add (by decide) er1F_later (by decide) (Below.refl _ _) rfl)
              · exact wpOp_pick rfl (wanted_free rfl) _ _ _ rfl false (hF 2 (hpre 2 (by kernel_rfl))) _ (hF 9 (hpre 9 (by kernel_rfl))) (hI.add (by decide) er1F_later (by decide) (Below.refl _ _) rfl)
              · exact wpOp_move rfl (wanted_free rfl) _ rfl _ (hF 10 (hpre 10 (by kernel_rfl))) (hI.add (by decide) er1F_later (by decide) (Below.refl _ _) rfl)
              · have g11 := hF 11 (hpre 11 (by kernel_rfl))
                exact wpOp_move rfl (wanted_by (d := 88) rfl _ rfl rfl g11) _ rfl _ (hI.same 15 (by decide)) (hI.add (by decide) er1F_later (by decide) (Below.refl _ _) rfl)
              · have g11 := hF 11 (hpre 11 (by kernel_rfl))
                exact wpOp_move rfl (wanted_by (d := 88) rfl _ rfl rfl g11) _ rfl _ (hI.same 12 (by decide)) (hI.add (by decide) er1F_later (by decide) (Below.refl _ _) rfl)
              · have g11 := hF 11 (hpre 11 (by kernel_rfl))
                exact wpOp_bin rfl (wanted_by (d := 88) rfl _ rfl rfl g11) _ _ _ _ _ rfl _ _ _ (hF 12 (hpre 12 (by kernel_rfl))) (hF 13 (hpre 13 (by kernel_rfl))) (run_leqF wy Yn.length Yi'.length hnq.out) (hI.add (by decide) er1F_later (by decide) (Below.refl _ _) rfl)
              · exact wpOp_pick rfl (wanted_free rfl) _ _ _ rfl false (hF 11 (hpre 11 (by kernel_rfl))) _ (hF 14 (hpre 14 (by kernel_rfl))) (hI.add (by decide) er1F_later (by decide) (Below.refl _ _) rfl)
            · intro D a w6 hI hall
              have hbl := hI.below
              have hR6 := Lib.hid (hR5.out.later hs'.out hbl)
              obtain ⟨fs, ha, hfs⟩ := hI.done (by decide) rfl (fun i hi => hall i hi)
              have f92' : fs 92 = .bool false := hfs 15 (by decide)
              clear hI hall hbl hfs
              subst ha
              simp only [putAll, List.map_cons, List.map_nil, Act.put, List.setIfInBounds_toArray, List.set_cons_zero, List.set_cons_succ]
              rw [f92']
              clear f92'
              generalize fs 77 = y77
              generalize fs 78 = y78
              generalize fs 79 = y79
              generalize fs 80 = y80
              generalize fs 81 = y81
              generalize fs 82 = y82
              generalize fs 83 = y83
              generalize fs 84 = y84
              generalize fs 85 = y85
              generalize fs 86 = y86
              generalize fs 87 = y87
              generalize fs 88 = y88
              generalize fs 89 = y89
              generalize fs 90 = y90
              generalize fs 91 = y91
              go_wp2
              go_roundw
              case rel => exact ⟨p + 1, S3, tellE ki x, Yn, by omega, by go_num, rfl, hcb'.out, hR6.out⟩
              case measure => simp [RowKit.intOf]; omega
          · have hpe : p = nl := by omega
            subst hpe
            have hu := hch.out.uniq (by rw [hnl'.out, ← List.length_map (f := fun q : Eva => q.ev), List.take_length] at hc2; exact hc2)
            have hye : Yi.length = ny := by rw [hny'.out, hu.2]
            rw [hye]
            have hbw := Lib.hid hR.bel
            clear hR hc2 hu hye
            go_wp2_with fail
            go_meet
            case rel => exact ⟨rfl, hbw⟩
    case rest =>
      obtain ⟨rfl, hbw⟩ := hcut
      clear hch hds hRB0 hY' hl30' hnl' hny'
      have hXn := hX'.out.len
      have hXc := hX'.out.cap
      go_upto_if 97 with fail
      go_cut [17] from 94 to 147 (fun y wr => (∃ m' X', y = .slice B m' d ∧ Hid (Holds w B m' d X') ∧ m' ≤ 6000) ∧ Hid (Below w.heap.size w wr))
      case first =>
        as_aux_lemma =>
          by_cases hm : 6000 < m
          · have g1 : decide ((6000 : Int) < (m : Int)) = true := decide_eq_true (by omega)
            have g3 : decide (6000 < m) = true := decide_eq_true hm
            have g4 : (6000 : Int) < (m : Int) := by omega
            have g2 : (6000 : Int) ≤ (d : Int) := by omega
            have hm' := Lib.hid hm
            clear hm
            go_wp2
            go_meet
            case rel => exact ⟨⟨6000, _, rfl, Lib.hid (hX'.out.front (k := 6000) (Nat.le_of_lt hm'.out)), Nat.le_refl _⟩, hbw⟩
          · have g1 : decide ((6000 : Int) < (m : Int)) = false := decide_eq_false (by omega)
            have g3 : decide (6000 < m) = false := decide_eq_false hm
            have g4 : ¬ (6000 : Int) < (m : Int) := by omega
            have hm' := Lib.hid hm
            clear hm
            go_wp2
            go_meet
            case rel => exact ⟨⟨m, X, rfl, hX', Nat.le_of_not_lt hm'.out⟩, hbw⟩
      case rest =>
        clear hbw hXn hXc
        obtain ⟨⟨m', X', rfl, hX2, hm2⟩, hbw⟩ := hcut
        have tn3 : True := trivial
        have tn4 : True := trivial
        go_upto_block 4 with (first
          | (go_at_call 14; have _t := tn3; refine (hs'.out.new wc).mono ?_; rintro e w1 ⟨mb, S, rfl, hp1, hlo1, hb1⟩; have hp1' := Lib.hid hp1; have hlo1' := Lib.hid hlo1; have hb1' := Lib.hid hb1; clear hp1 hlo1 hb1 tn3 _t)
          | (go_at_call 14; have _t := tn4; refine (hs'.out.new w1).mono ?_; rintro e w2 ⟨nb, S2, rfl, hp2, hlo2, hb2⟩; have hp2' := Lib.hid hp2; have hlo2' := Lib.hid hlo2; have hb2' := Lib.hid hb2; clear hp2 hlo2 hb2 tn4 _t))
        have hRC0 := Lib.hid (show Pair2 PB w mb nb S S2 newB newB w2 ∧ Below w.heap.size w w2 by
          have a1 := hbw.out.size
          have a2 := hb1'.out.size
          refine ⟨⟨hs'.out.alt hp1'.out (alt_below hb2'.out fun _ => False) (fun _ _ h => h), hp2'.out, Bk.Ok.new, Bk.Ok.new, fun j hj hR => ?_, fun j hj => ?_, fun j hj => ?_⟩, (hbw.out.trans (hb1'.out.mono a1)).trans (hb2'.out.mono (by omega))⟩
          · have h1 := hs'.out.low hp1'.out j hj
            have h2 := hlo2'.out j hR
            omega
          · have h1 := hlo1'.out j hj
            omega
          · have h1 := hlo2'.out j hj
            omega)
        clear hp1' hlo1' hb1' hp2' hlo2' hb2' hbw
        go_cut [] from 102 to 147 (fun wr => Hid (Below w.heap.size w wr))
        case first =>
          as_aux_lemma =>
            go_wp2_with fail
            go_loopw [20, 21] (fun on i wr => ∃ (p : Nat) (S S2 : Nat → Prop) (k : Bk) (q : Nat), p ≤ 30 ∧ i = .int .i64 p ∧ on = .int .i64 (q : Int) ∧ q ≤ m' ∧ k.tab.length ≤ 54 * p ∧ Pair2 PB w mb nb S S2 k k wr ∧ Below w.heap.size w wr) (fun _ i _ => 30 - (RowKit.intOf i).toNat)
            case atStart => exact ⟨0, S, S2, newB, 0, Nat.zero_le _, rfl, rfl, Nat.zero_le _, Nat.le_refl _, hRC0.out.1, hRC0.out.2⟩
            case round =>
              clear hRC0
              obtain ⟨p, S, S2, k, q, hp30, rfl, rfl, hqm, htab, hR, hb⟩ := hrel
              by_cases hgo : p < 30
              · have hgi : (p : Int) < 30 := by omega
                have hXw := Lib.hid (hX2.out.later hb)
                have hoffX := Lib.hid (fun (S : Nat → Prop) (hn : ∀ j, S j → w.heap.size ≤ j) => (show Off S B m' from fun g off e h0 hj => by have h1 := hX2.out; rw [e] at h1; have h2 := h1.block h0; have h3 := hn g hj; omega))
                have htake := fun W (hp : PB W mb S k) hX ho => hst.out.take mb S k B m' d X' (q : Int) W hp hR.ok hX ho (by omega) (by omega) (by omega) (by omega)
                have hput := fun (x : Ev) Ax mx cx W (hp : PB W nb S2 k) hh h1 h2 => hs'.out.put nb S2 k Option.none 0 0 [] x Ax mx cx W hp hR.ok (holds_nil W) (fun _ _ e => by cases e) hh h1 h2 (by omega) (by omega)
                have hok := Lib.hid hR.ok
                have hR' := Lib.hid hR
                have hb' := Lib.hid hb
                have htab' := Lib.hid htab
                have hqm' := Lib.hid hqm
                obtain ⟨TE, hTE⟩ : ∃ TE, TE = takeE k X' q := ⟨_, rfl⟩
                rw [← hTE] at htake
                obtain ⟨⟨x, nx, e⟩, k'⟩ := TE
                have hTE' := Lib.hid hTE.symm
                simp only at htake
                unfold evv ecell12 at htake
                have htake' := Lib.hid htake
                clear htake hTE hR hb htab hqm
                by_cases he : e = 0
                · subst he
                  obtain ⟨z0, z1, z2, z3, z4, z5, z6, z7⟩ := takeE_is hX2.out.byt hok.out hTE'.out
                  obtain ⟨nn, rfl⟩ : ∃ nn : Nat, nx = nn := ⟨nx.toNat, by omega⟩
                  have hql : q < nn := by omega
                  have hnm : nn ≤ m' := by have := hX2.out.len; omega
                  have hput2 := fun Ax mx cx W hp hh h1 h2 => hput x Ax mx cx W hp hh h1 h2
                  rw [putE_ok z3 z4] at hput2
                  simp only [List.nil_append] at hput2
                  rw [z6] at hput2
                  unfold evv ecell12 at hput2
                  have hput' := Lib.hid hput2
                  have hz5 := Lib.hid z5
                  have hok' := Lib.hid (hok.out.tell z3)
                  have hlen' := Lib.hid (show (tellE k x).tab.length ≤ k.tab.length + 54 from headL_len z3)
                  have hcx : x.code ≤ 9223372036854775807 := by
                    obtain ⟨_, _, _, cn, _, _, _, _, e4, _, _, _, _, _, e5, _⟩ := goodE_nums z3 hok.out.low z4
                    omega
                  have hcx' := Lib.hid hcx
                  subst z7
                  clear hput hput2 z0 z1 z2 z3 z4 z5 z6 hcx
                  obtain ⟨gB, oB, rfl, _⟩ := hX2.out.cell (by omega)
                  have hql2 := Lib.hid hql
                  have hnm3 := Lib.hid hnm
                  have hnm2 := Lib.hid (show (nn : Int) ≤ (m' : Int) by omega)
                  clear hql hnm
                  go_wp2_with (first
                    | (go_at_call 18; refine (htake'.out wr hR'.out.p hXw.out (hoffX.out S hR'.out.newS)).mono ?_; rintro e w4 ⟨Ax, mx, cx, S3, rfl, hp4, ha4, hn4, hH4, hl4⟩; have hT4 := Lib.hid (hR'.out.first hs'.out hb'.out.size (hp4 (by simp)) hok'.out ha4 hn4); have hb4 := Lib.hid (hb'.out.trans (ha4.below hb'.out.size hR'.out.newS)); have hbE := Lib.hid (below_box w4 (.cells (ecell12 x Ax mx cx) 25)); have hT5 := Lib.hid (hT4.out.later hs'.out hbE.out); have hb5 := Lib.hid (hb4.out.trans (hbE.out.mono hb4.out.size)); have hH5 := Lib.hid (HdO.mk (S := S2) (hH4.later hbE.out) (fun g9 off9 e9 h9 hj => by rcases hl4 g9 off9 e9 h9 with h8 | h8; exact hT4.out.apart g9 h8 hj; have h7 := hs'.out.low hR'.out.p2 g9 hj; omega)); unfold ecell12 at hT5 hb5 hH5 hbE; clear hp4 ha4 hn4 hH4 hl4)
                    | (go_at_call 16; refine (hput'.out Ax mx cx _ hT5.out.p2 hH5.out hz5.out hcx'.out).mono ?_; rintro e w6 ⟨r9, S4, rfl, hp6, ha6, hn6, hown6, hof6⟩; have hT6 := Lib.hid (hT5.out.second hs'.out hb5.out.size hp6 hok'.out ha6 hn6); have hb6 := Lib.hid (hb5.out.trans (ha6.below hb5.out.size hT5.out.newS2)); have hX6 := Lib.hid (hX2.out.later hb6.out); obtain ⟨Ar, cr, rfl, hHr0⟩ := hown6.holds; have hHr := Lib.hid hHr0; clear hp6 ha6 hn6 hown6 hof6 hHr0))
                  obtain ⟨nr, hnr⟩ : ∃ nr, nr = (between X' (q : Int) (nn : Int)).length := ⟨_, rfl⟩
                  rw [← hnr] at hHr ⊢
                  clear hnr
                  refine wp_region_each (RInv 148 [122, 123, 124, 125, 126, 127, 128, 129, 130, 131, 132, 133, 134, 135, 136, 137, 138, 139] _ (er2F Ar nr cr gB oB m' d q nn (strOfNums (between X' q nn))) w6 NoMore) (by kernel_rfl) (by kernel_rfl) (RInv.start rfl trivial (Below.refl _ _).drew) ?_ ?_
                  · intro i hi D a wy hI hcl hnd hpre
                    have hi' : i < 18 := hi
                    have hcase : i = 0 ∨ i = 1 ∨ i = 2 ∨ i = 3 ∨ i = 4 ∨ i = 5 ∨ i = 6 ∨ i = 7 ∨ i = 8 ∨ i = 9 ∨ i = 10 ∨ i = 11 ∨ i = 12 ∨ i = 13 ∨ i = 14 ∨ i = 15 ∨ i = 16 ∨ i = 17 := by omega
                    have hF := hI.fact
                    rcases hcase with rfl | rfl | rfl | rfl | rfl | rfl | rfl | rfl | rfl | rfl | rfl | rfl | rfl | rfl | rfl | rfl | rfl | rfl
                    · exact wpOp_move rfl (wanted_free rfl) _ rfl _ (hI.same 26 (by decide)) (hI.add (by decide) er2F_later (by decide) (Below.refl _ _) rfl)
                    · exact wpOp_bin rfl (wanted_free rfl) _ _ _ _ _ rfl _ _ _ (hF 0 (hpre 0 (by kernel_rfl))) rfl (run_neqZ wy) (hI.add (by decide) er2F_later (by decide) (Below.refl _ _) rfl)
                    · exact wpOp_move rfl (wanted_free rfl) _ rfl _ (hF 1 (hpre 1 (by kernel_rfl))) (hI.add (by decide) er2F_later (by decide) (Below.refl _ _) rfl)
                    · have g2 := hF 2 (hpre 2 (by kernel_rfl))
                      exact wpOp_move rfl (wanted_by (d := 124) rfl _ rfl rfl g2) _ rfl _ (hI.same 23 (by decide)) (hI.add (by decide) er2F_later (by decide) (Below.refl _ _) rfl)
                    · have g2 := hF 2 (hpre 2 (by kernel_rfl))
                      exact wpOp_move rfl (wanted_by (d := 124) rfl _ rfl rfl g2) _ rfl _ (hI.same 17 (by decide)) (hI.add (by decide) er2F_later (by decide) (Below.refl _ _) rfl)
                    · have g2 := hF 2 (hpre 2 (by kernel_rfl))
                      exact wpOp_len rfl (wanted_by (d := 124) rfl _ rfl rfl g2) _ _ rfl _ Try.underlying43 _ _ _ (hF 4 (hpre 4 (by kernel_rfl))) (hI.add (by decide) er2F_later (by decide) (Below.refl _ _) rfl)
                    · have g2 := hF 2 (hpre 2 (by kernel_rfl))
                      exact wpOp_bin rfl (wanted_by (d := 124) rfl _ rfl rfl g2) _ _ _ _ _ rfl _ _ _ (hF 3 (hpre 3 (by kernel_rfl))) (hF 5 (hpre 5 (by kernel_rfl))) (run_gtrF wy nn m' hnm2.out) (hI.add (by decide) er2F_later (by decide) (Below.refl _ _) rfl)
                    · exact wpOp_pick rfl (wanted_free rfl) _ _ _ rfl false (hF 2 (hpre 2 (by kernel_rfl))) _ (hF 6 (hpre 6 (by kernel_rfl))) (hI.add (by decide) er2F_later (by decide) (Below.refl _ _) rfl)
                    · exact wpOp_move rfl (wanted_free rfl) _ rfl _ (hF 7 (hpre 7 (by kernel_rfl))) (hI.add (by decide) er2F_later (by decide) (Below.refl _ _) rfl)
                    · have g8 := hF 8 (hpre 8 (by kernel_rfl))
                      exact wpOp_move rfl (wanted_by (d := 130) rfl _ rfl rfl g8) _ rfl _ (hI.same 25 (by decide)) (hI.add (by decide) er2F_later (by decide) (Below.refl _ _) rfl)
                    · have g8 := hF 8 (hpre 8 (by kernel_rfl))
                      exact wpOp_convert rfl (wanted_by (d := 130) rfl _ rfl rfl g8) _ _ _ rfl _ _ (hF 9 (hpre 9 (by kernel_rfl))) (run_text _ _ 5 Try.underlying43 Try.underlying5 Try.underlying9 (hHr.out.later hI.below)) (hI.add (by decide) er2F_later (by decide) (Below.refl _ _) rfl)
                    · have g8 := hF 8 (hpre 8 (by kernel_rfl))
                      exact wpOp_move rfl (wanted_by (d := 130) rfl _ rfl rfl g8) _ rfl _ (hI.same 17 (by decide)) (hI.add (by decide) er2F_later (by decide) (Below.refl _ _) rfl)
                    · have g8 := hF 8 (hpre 8 (by kernel_rfl))
                      exact wpOp_move rfl (wanted_by (d := 130) rfl _ rfl rfl g8) _ rfl _ (hI.same 20 (by decide)) (hI.add (by decide) er2F_later (by decide) (Below.refl _ _) rfl)
                    · have g8 := hF 8 (hpre 8 (by kernel_rfl))
                      exact wpOp_move rfl (wanted_by (d := 130) rfl _ rfl rfl g8) _ rfl _ (hI.same 23 (by decide)) (hI.add (by decide) er2F_later (by decide) (Below.refl _ _) rfl)
                    · have g8 := hF 8 (hpre 8 (by kernel_rfl))
                      exact wpOp_slice rfl (wanted_by (d := 130) rfl _ rfl rfl g8) _ _ _ _ _ rfl _ _ _ _ _ (hF 11 (hpre 11 (by kernel_rfl))) (congrArg some (hF 12 (hpre 12 (by kernel_rfl)))) (congrArg some (hF 13 (hpre 13 (by kernel_rfl)))) rfl (run_sliceB wy gB oB m' d q nn hql2.out hnm3.out hX2.out.cap) (hI.add (by decide) er2F_later (by decide) (Below.refl _ _) rfl)
                    · have g8 := hF 8 (hpre 8 (by kernel_rfl))
                      exact wpOp_convert rfl (wanted_by (d := 130) rfl _ rfl rfl g8) _ _ _ rfl _ _ (hF 14 (hpre 14 (by kernel_rfl))) (run_text _ _ 5 Try.underlying43 Try.underlying5 Try.underlying9 (holds_between (hX6.out.later hI.below) (Nat.le_of_lt hql2.out) hnm3.out)) (hI.add (by decide) er2F_later (by decide) (Below.refl _ _) rfl)
                    · have g8 := hF 8 (hpre 8 (by kernel_rfl))
                      exact wpOp_bin rfl (wanted_by (d := 130) rfl _ rfl rfl g8) _ _ _ _ _ rfl _ _ _ (hF 10 (hpre 10 (by kernel_rfl))) (hF 15 (hpre 15 (by kernel_rfl))) (run_neqS wy (strOfNums (between X' q nn))) (hI.add (by decide) er2F_later (by decide) (Below.refl _ _) rfl)
                    · exact wpOp_pick rfl (wanted_free rfl) _ _ _ rfl false (hF 8 (hpre 8 (by kernel_rfl))) _ (hF 16 (hpre 16 (by kernel_rfl))) (hI.add (by decide) er2F_later (by decide) (Below.refl _ _) rfl)
                  · intro D a w7 hI hall
                    have hbl := hI.below
                    have hR7 := Lib.hid (hT6.out.later hs'.out hbl)
                    have hb7 := Lib.hid (hb6.out.trans (hbl.mono hb6.out.size))
                    obtain ⟨fs, ha, hfs⟩ := hI.done (by decide) rfl (fun i hi => hall i hi)
                    have f139 : fs 139 = .bool false := hfs 17 (by decide)
                    clear hI hall hbl hfs
                    subst ha
                    simp only [putAll, List.map_cons, List.map_nil, Act.put, List.setIfInBounds_toArray, List.set_cons_zero, List.set_cons_succ]
                    rw [f139]
                    clear f139
                    generalize fs 122 = y122
                    generalize fs 123 = y123
                    generalize fs 124 = y124
                    generalize fs 125 = y125
                    generalize fs 126 = y126
                    generalize fs 127 = y127
                    generalize fs 128 = y128
                    generalize fs 129 = y129
                    generalize fs 130 = y130
                    generalize fs 131 = y131
                    generalize fs 132 = y132
                    generalize fs 133 = y133
                    generalize fs 134 = y134
                    generalize fs 135 = y135
                    generalize fs 136 = y136
                    generalize fs 137 = y137
                    generalize fs 138 = y138
                    go_wp2
                    go_roundw
                    case rel => exact ⟨p + 1, S3, S4, tellE k x, nn, by omega, by go_num, rfl, hnm3.out, by have := hlen'.out; have := htab'.out; omega, hR7.out, hb7.out⟩
                    case measure => simp [RowKit.intOf]; omega
                · have he1 : (e == 0) = false := by simpa using he
                  have he2 : (e != 0) = true := by simpa using he
                  clear he hput
                  go_wp2_with (first
                    | (go_at_call 18; refine (htake'.out wr hR'.out.p hXw.out (hoffX.out S hR'.out.newS)).mono ?_; rintro e w4 ⟨Ax, mx, cx, S3, rfl, hp4, ha4, hn4, hH4, hl4⟩; have hb4 := Lib.hid (hb'.out.trans (ha4.below hb'.out.size hR'.out.newS)); clear hp4 ha4 hn4 hH4 hl4))
                  go_meet
                  case rel => exact Lib.hid (hb4.out.trans ((below_box w4 _).mono hb4.out.size))
              · have hpe : p = 30 := by omega
                subst hpe
                have hbw := Lib.hid hb
                clear hR hb
                go_wp2_with fail
                go_meet
                case rel => exact hbw
        case rest =>
          go_wp2_with (go_at_call 10; refine (haw'.out wc).mono ?_; rintro e w9 ⟨rfl, hb9⟩; have hb9' := Lib.hid hb9; clear hb9)
          go_ret
          exact ⟨rfl, hcut.out.trans (hb9'.out.mono hcut.out.size)⟩
theorem eventRound_law (A : Option Addr) (n c : Nat) (l : List Eva) (B : Option Addr) (m d : Nat) (X : List Int) (w : World) (hl : Evs w A n c l) (h6 : ∀ q ∈ l, Six12 q.ev) (hX : Holds w B m d X) :
    Calls Try.prog 6 #[.slice A n c, .slice B m d] w fun e w' => e = .returned (.bool true) ∧ Below w.heap.size w w' :=
  eventRound_walk bookTakes awakeP A n c l B m d X w hl h6 hX
end Go.Proofs.Ytodncamohimmmaa
