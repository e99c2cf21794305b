/-
  Texts of one sort, one behind the other: numbers, memory, regions, strings, headers. Conditions: those that each theorem states.
-/
import Derived.Test.YtodncamohimmmaaLow6
import Derived.Test.YtodncamohimmmaaLow22
import Derived.Test.YtodncamohimmmaaLow3

namespace Go.Proofs.Ytodncamohimmmaa
open Go.RowKit Go.Lib Leb

set_option maxHeartbeats 8000000 in
set_option maxRecDepth 100000 in
theorem cutE_at (x : Ev) (A : Option Addr) (m c : Nat) (w : World) (ha : Hds w A m c x.hs) : Calls Try.prog 8 #[evv x A m c] w fun e w' => ∃ m', e = .returned (evv (cutE x) A m' c) ∧ m' ≤ m ∧ Hds w' A m' c (cutE x).hs ∧ Below w.heap.size w w' := by
  have ha' := Lib.hid ha
  have hroom := ha.room
  have hcap := ha.cap
  have hlen := Lib.hid ha.len
  have hbare := Lib.hid ha.bare
  obtain ⟨kind, ses, tick, me, url, hs, body, status, code, cred, no, k⟩ := x
  unfold evv
  unfold ecell12
  simp only at *
  clear ha
  by_cases hm : 30 < m
  · obtain ⟨b, off, rfl, _⟩ := ha'.out.cell (by omega)
    have hm1 : (30 : Int) < (m : Int) := by omega
    have hc1 : (30 : Int) ≤ (c : Int) := by omega
    go_enter Try.func8, Try.ntmps8
    go_wp2
    have hbel := Lib.hid (below_then (below_box w (.cells #[.int .i64 kind, .int .i64 ses, .int .i64 tick, .string me, .string url, .slice (some ⟨b, off, Option.none⟩) 30 c, .string body, .int .i64 status, .int .i64 code, .bool cred, .string no, .int .u64 (k : Int)] 25)) (below_box (w.alloc (.cells #[.int .i64 kind, .int .i64 ses, .int .i64 tick, .string me, .string url, .slice (some ⟨b, off, Option.none⟩) 30 c, .string body, .int .i64 status, .int .i64 code, .bool cred, .string no, .int .u64 (k : Int)] 25)) (.cells #[.int .i64 kind, .int .i64 ses, .int .i64 tick, .string me, .string url, .slice (some ⟨b, off, Option.none⟩) 30 c, .string body, .int .i64 status, .int .i64 code, .bool cred, .string no, .int .u64 (k : Int)] 25)))
    have hrow := heap_alloc_new (w.alloc (.cells #[.int .i64 kind, .int .i64 ses, .int .i64 tick, .string me, .string url, .slice (some ⟨b, off, Option.none⟩) 30 c, .string body, .int .i64 status, .int .i64 code, .bool cred, .string no, .int .u64 (k : Int)] 25)) (.cells #[.int .i64 kind, .int .i64 ses, .int .i64 tick, .string me, .string url, .slice (some ⟨b, off, Option.none⟩) 30 c, .string body, .int .i64 status, .int .i64 code, .bool cred, .string no, .int .u64 (k : Int)] 25)
    simp only [World.size_alloc] at hrow
    refine bodyPost_ret (cut_result (g := w.heap.size + 1) rfl hrow rfl) rfl ⟨30, rfl, by omega, ?_, hbel.out⟩
    exact (ha'.out.front (k := 30) (by omega)).later hbel.out
  · have hm1 : ¬ (30 : Int) < (m : Int) := by omega
    go_enter Try.func8, Try.ntmps8
    go_wp2
    have hbel := Lib.hid (below_then (below_box w (.cells #[.int .i64 kind, .int .i64 ses, .int .i64 tick, .string me, .string url, .slice A m c, .string body, .int .i64 status, .int .i64 code, .bool cred, .string no, .int .u64 (k : Int)] 25)) (below_box (w.alloc (.cells #[.int .i64 kind, .int .i64 ses, .int .i64 tick, .string me, .string url, .slice A m c, .string body, .int .i64 status, .int .i64 code, .bool cred, .string no, .int .u64 (k : Int)] 25)) (.cells #[.int .i64 kind, .int .i64 ses, .int .i64 tick, .string me, .string url, .slice A m c, .string body, .int .i64 status, .int .i64 code, .bool cred, .string no, .int .u64 (k : Int)] 25)))
    have hrow := heap_alloc_new (w.alloc (.cells #[.int .i64 kind, .int .i64 ses, .int .i64 tick, .string me, .string url, .slice A m c, .string body, .int .i64 status, .int .i64 code, .bool cred, .string no, .int .u64 (k : Int)] 25)) (.cells #[.int .i64 kind, .int .i64 ses, .int .i64 tick, .string me, .string url, .slice A m c, .string body, .int .i64 status, .int .i64 code, .bool cred, .string no, .int .u64 (k : Int)] 25)
    simp only [World.size_alloc] at hrow
    refine bodyPost_ret (cut_result (g := w.heap.size + 1) rfl hrow rfl) rfl ⟨m, rfl, Nat.le_refl _, ?_, hbel.out⟩
    have ht : hs.take 30 = hs := List.take_of_length_le (by rw [hlen.out]; omega)
    show Hds _ A m c (hs.take 30)
    rw [ht]
    exact ha'.out.later hbel.out

theorem Evs.at {w : World} {A : Option Addr} {n c : Nat} {l : List Eva} (h : Evs w A n c l) {p : Nat} (hp : p < n) :
    ∃ g off q, A = some ⟨g, off, Option.none⟩ ∧ l[p]? = some q ∧ (∀ i, i < 12 → w.cell? ⟨g, off + p * 12 + i, Option.none⟩ = (acell q)[i]?) ∧ Hds w q.A q.m q.c q.ev.hs := by
  obtain ⟨g, off, e, _, hc⟩ := h.cell (by omega)
  have hl : p < l.length := by rw [h.len]; exact hp
  exact ⟨g, off, l[p], e, List.getElem?_eq_getElem hl, fun i hi => hc p hl i hi, h.hds _ (List.getElem_mem hl)⟩
theorem Evs.atq {w : World} {g off n c p : Nat} {l : List Eva} {q : Eva} (h : Evs w (some ⟨g, off, Option.none⟩) n c l) (hp : p < n) (hq : l[p]? = some q) : (∀ i, i < 12 → w.cell? ⟨g, off + p * 12 + i, Option.none⟩ = (acell q)[i]?) ∧ Hds w q.A q.m q.c q.ev.hs := by
  obtain ⟨g', off', q', e, hq', hc, hd⟩ := h.at hp
  injection e with e
  injection e with e1 e2
  subst e1
  subst e2
  rw [hq] at hq'
  injection hq' with hq'
  subst hq'
  exact ⟨hc, hd⟩
set_option maxRecDepth 100000 in
theorem run_loadE (w : World) (g o : Nat) (x : Ev) (A : Option Addr) (m c : Nat) (h : ∀ i, i < 12 → w.cell? ⟨g, o + i, Option.none⟩ = (acell ⟨x, A, m, c⟩)[i]?) : (Instr.loadAt 25 (.pointer (some ⟨g, o, Option.none⟩))).run Try.prog w = .ok (evv x A m c) w := by
  have h0 := h 0 (by omega)
  have h1 := h 1 (by omega)
  have h2 := h 2 (by omega)
  have h3 := h 3 (by omega)
  have h4 := h 4 (by omega)
  have h5 := h 5 (by omega)
  have h6 := h 6 (by omega)
  have h7 := h 7 (by omega)
  have h8 := h 8 (by omega)
  have h9 := h 9 (by omega)
  have h10 := h 10 (by omega)
  have h11 := h 11 (by omega)
  clear h
  unfold acell ecell12 at *
  unfold evv ecell12
  simp only [List.getElem?_cons_zero, List.getElem?_cons_succ, Nat.add_zero] at h0 h1 h2 h3 h4 h5 h6 h7 h8 h9 h10 h11
  go_simp
section
variable {P : Program} {ops : Array Oper} {rest : List Oper} {o : Oper} {a : Act} {w : World} {Q : Exit → Act → World → Prop}
theorem wpList_loadV (hgd : o.guard = Option.none) (t : TypeId) (x : Operand) (ho : o.op = .load t x) (u v : Value) (hx : a.eval x = u) (hr : (Instr.loadAt t u).run P w = .ok v w) (h : wpList P ops Q rest (a.put o.dst v) w) : wpList P ops Q (o :: rest) a w :=
  wpList_plain hgd fun _ hK => by
    unfold Oper.wp execOp
    simp only [ho, hx, Sem.run_bind, hr]
    exact hK _ _ h
theorem wpList_convV (hgd : o.guard = Option.none) (s d : TypeId) (x : Operand) (ho : o.op = .convert s d x) (u v : Value) (hx : a.eval x = u) (hr : (convert s d u).run P w = .ok v w) (h : wpList P ops Q rest (a.put o.dst v) w) : wpList P ops Q (o :: rest) a w :=
  wpList_plain hgd fun _ hK => by
    unfold Oper.wp execOp
    simp only [ho, hx, Sem.run_bind, hr]
    exact hK _ _ h
end
theorem Owns.holdsAt {w : World} {B n c : Nat} {A : Option Addr} {Y : List Int} (h : Owns w B 5 (.slice A n c) Y) : Holds w A n c Y := by
  obtain ⟨A', c', e, hX⟩ := h.holds
  injection e with e1 e2 e3
  subst e1
  subst e2
  subst e3
  exact hX
theorem Hds.lowA {w : World} {A : Option Addr} {m c m' : Nat} {l : List Hd} (h : Hds w A m c l) (hm : m' ≤ m) : ∀ g off, A = some ⟨g, off, Option.none⟩ → 0 < m' → g < w.heap.size := fun g off e h0 => by
  rw [e] at h
  exact h.block (by omega)
end Go.Proofs.Ytodncamohimmmaa

namespace Go.Proofs.Ytodncamohimmmaa
open Go.RowKit Go.Lib Leb

theorem putE_case {k : Bk} (hk : k.Ok) (Y : List Int) (x : Ev) (hn : x.n < 18446744073709551616) (hT : k.tab.length ≤ 200000) :
    (putE k Y x).2.tab.length ≤ k.tab.length + 54 ∧ (putE k Y x).1.1.length ≤ Y.length + 120000 ∧ (putE k Y x).2.Ok := by
  refine ⟨?_, ?_, putE_Ok hk Y x⟩
  · unfold putE
    split
    · rename_i hg
      split
      · exact Nat.le_add_right _ _
      · exact headL_len hg
    · exact Nat.le_add_right _ _
  · unfold putE
    split
    · rename_i hg
      split
      · simp
      · exact encB_len hg hk (by omega) hn hT
    · simp
section
variable {PB : World → Nat → (Nat → Prop) → Bk → Prop} {w W W' : World} {kb rb t : Nat} {S S' T0 T1 : Nat → Prop} {u u' : Value} {ls : List Ln} {k : Bk} {Y : List Int} {r : Value}
theorem out_first (hr : RBk W rb t T0 u ls k.tab k.tick) (hsz : w.heap.size ≤ W.heap.size) (ho : Owns W' W.heap.size 5 r Y) (hof : OffV S' r) : Out2 w S' (inB rb T0 u) r Y W' :=
  ⟨ho.low hsz, hof, fun g e hj => by
    have h1 := (ho.2.lt g e).1
    have h2 := hr.low g hj
    omega⟩
theorem out_second {PB : World → Nat → (Nat → Prop) → Bk → Prop} (hs : BookSaid PB) {k' : Bk} (hp : PB W kb S' k') (hsz : w.heap.size ≤ W.heap.size) (ho : BtO W' W.heap.size r Y (inB rb T1 u')) : Out2 w S' (inB rb T1 u') r Y W' :=
  ⟨ho.own.low hsz, fun g e hj => by
    have h1 := (ho.own.2.lt g e).1
    have h2 := hs.low hp g hj
    omega, ho.off⟩
end

set_option maxHeartbeats 16000000 in
set_option maxRecDepth 100000 in
theorem eventPuts_walk {PB : World → Nat → (Nat → Prop) → Bk → Prop} (hs : BookSaid PB) (haw : ∀ W : World, Calls Try.prog 10 #[] W fun e w' => e = .returned (.bool true) ∧ Below W.heap.size W w')
    (A : Option Addr) (n c : Nat) (l : List Eva) (w : World) (hl : Evs w A n c l) (h6 : ∀ q ∈ l, Six12 q.ev) :
    Calls Try.prog 4 #[.slice A n c] w fun e w' => e = .returned (.bool true) ∧ Below w.heap.size w w' := by
  have hs' := Lib.hid hs
  have haw' := Lib.hid haw
  have hl' := Lib.hid hl
  have h6' := Lib.hid h6
  clear hs haw hl h6
  go_enter Try.func4, Try.ntmps4
  go_wp2_with (first
    | (go_at_call 14; refine (hs'.out.new w).mono ?_; rintro e w1 ⟨kb, S, rfl, hp1, hlo1, hb1⟩; have hp1' := Lib.hid hp1; have hlo1' := Lib.hid hlo1; have hb1' := Lib.hid hb1; clear hp1 hlo1 hb1)
    | (go_at_call 15; refine (refNewE_any w1).mono ?_; rintro e w2 ⟨rb, t, T0, rfl, hr2, hlo2, hb2⟩; have hr2' := Lib.hid hr2; have hlo2' := Lib.hid hlo2; have hb2' := Lib.hid hb2; clear hr2 hlo2 hb2))
  have hsz1 := Lib.hid hb1'.out.size
  have hsz2 := Lib.hid hb2'.out.size
  have hTwo := Lib.hid (show Two PB w kb rb t S T0 (.slice Option.none 0 0) [] newB w2 from
    ⟨hs'.out.alt hp1'.out (alt_below hb2'.out fun _ => False) (fun _ _ h => h), hr2'.out, fun _ _ => rfl, Bk.Ok.new, fun j hj hR => by have h1 := hs'.out.low hp1'.out j hj; have h2 := hlo2'.out j hR; omega, hlo1'.out, fun j hR => by have h2 := hlo2'.out j hR; have := hsz1.out; omega, fun l hl => by cases hl⟩)
  have hB1 := Lib.hid (below_box w2 (.cells #[] 5))
  have hB2 := Lib.hid (below_box (w2.alloc (.cells #[] 5)) (.cells #[] 5))
  have hO1 := Lib.hid (owns_lit w2 w2.heap.size 5 #[] [] rfl Bytes.nil (by simp) (Nat.le_refl _))
  have hO2 := owns_lit (w2.alloc (.cells #[] 5)) w2.heap.size 5 #[] [] rfl Bytes.nil (by simp) hB1.out.size
  simp only [World.size_alloc] at hO2
  replace hO2 := Lib.hid hO2
  have hbase := Lib.hid (show w.heap.size ≤ w2.heap.size from Nat.le_trans hsz1.out hsz2.out)
  go_loopw [5, 6, 7] (fun vb vc i wr => ∃ (p : Nat) (S : Nat → Prop) (T0 : Nat → Prop) (u : Value) (ls : List Ln) (k : Bk) (Y : List Int), p ≤ n ∧ p ≤ 30 ∧ i = .int .i64 p ∧ Two PB w kb rb t S T0 u ls k wr ∧ Out2 w S (inB rb T0 u) vb Y wr ∧ Out2 w S (inB rb T0 u) vc Y wr ∧ Below w.heap.size w wr ∧ ls.length ≤ p ∧ k.tab.length ≤ 54 * p ∧ Y.length ≤ 120000 * p) (fun _ _ i _ => 30 - (RowKit.intOf i).toNat)
  case atStart =>
    refine ⟨0, S, T0, .slice Option.none 0 0, [], newB, [], Nat.zero_le _, Nat.zero_le _, rfl, (hTwo.out.later hs'.out hB1.out).later hs'.out hB2.out, ?_, ?_, below_then (below_then (below_then hb1'.out hb2'.out) hB1.out) hB2.out, Nat.le_refl _, Nat.le_refl _, Nat.le_refl _⟩
    · refine (Out2.mk (hO1.out.low hbase.out) (fun g e hj => ?_) (fun g e hj => ?_)).later hB2.out
      · have h1 := hs'.out.low hTwo.out.p g hj
        have h2 : w2.heap.size = g := by simpa [Value.ownBlock] using e
        omega
      · have h1 := hTwo.out.r.low g hj
        have h2 : w2.heap.size = g := by simpa [Value.ownBlock] using e
        omega
    · refine ⟨hO2.out.low hbase.out, fun g e hj => ?_, fun g e hj => ?_⟩
      · have h1 := hs'.out.low hTwo.out.p g hj
        have h2 : w2.heap.size + 1 = g := by simpa [Value.ownBlock] using e
        omega
      · have h1 := hTwo.out.r.low g hj
        have h2 : w2.heap.size + 1 = g := by simpa [Value.ownBlock] using e
        omega
  case round =>
    clear hTwo hB1 hB2 hO1 hO2 hbase hsz1 hsz2 hr2' hlo2' hb2' hp1' hlo1' hb1'
    obtain ⟨p, S, T0, u, ls, k, Y, hpn, hp30, rfl, hT, hvb, hvc, hB, hll, htl, hyl⟩ := hrel
    by_cases hgo : p < n ∧ p < 30
    · obtain ⟨h1, h2⟩ := hgo
      have hE := hl'.out.later hB
      obtain ⟨g, off, q, rfl, hq, hcell, hqh⟩ := hE.at h1
      have hsix := h6'.out q (List.mem_of_getElem? hq)
      have hlow := Lib.hid (fun g' off' (e : q.A = some ⟨g', off', Option.none⟩) (h0 : 0 < q.m) => (hl'.out.hds q (List.mem_of_getElem? hq)).lowA (Nat.le_refl _) g' off' e h0)
      obtain ⟨qe, qA, qm, qc⟩ := q
      simp only at hqh hsix hlow
      have hcell1 := Lib.hid hcell
      have hq1 := Lib.hid hq
      have hp1 := Lib.hid h1
      have hqh1 := Lib.hid hqh
      obtain ⟨x, hx⟩ : ∃ x, x = cutE qe := ⟨_, rfl⟩
      have hx64 : U64 x.n := by rw [hx]; exact hsix.2.2.2.2.2
      have hxc : x.code ≤ 9223372036854775807 := by rw [hx]; exact hsix.2.2.2.2.1.2
      have hx' := Lib.hid hx
      have hcs := putE_case hT.ok Y x hx64.out (by omega)
      have hcut := Lib.hid (fun W h => cutE_at qe qA qm qc W h)
      rw [← hx] at hcut
      obtain ⟨Bb, cb, rfl, hXb⟩ := hvb.own.holds
      obtain ⟨Bc, cc, rfl, hXc⟩ := hvc.own.holds
      have hputP := Lib.hid (fun mx W (hp : PB W kb S k) hX ho hh => hs'.out.put kb S k Bb Y.length cb Y x qA mx qc W hp hT.ok hX ho hh hx64 hxc (by omega) (by omega))
      have hputR := Lib.hid (fun mx W (hr : RBk W rb t T0 u ls k.tab k.tick) hX hh => refPutE_any rb t T0 u ls k Bc Y.length cc Y x qA mx qc W hr hT.look hT.ok hX hh hx64 hxc (by omega) (by omega) (by omega))
      obtain ⟨PE, hPE⟩ : ∃ PE, PE = putE k Y x := ⟨_, rfl⟩
      rw [← hPE] at hcs hputP hputR
      obtain ⟨⟨Z, f⟩, k'⟩ := PE
      simp only at hcs hputP hputR
      obtain ⟨ht', hz', hok'⟩ := hcs
      have hok2 := Lib.hid hok'
      have ht2 := Lib.hid ht'
      have hz2 := Lib.hid hz'
      have hT' := Lib.hid hT
      have hvb' := Lib.hid hvb
      have hvc' := Lib.hid hvc
      have hB' := Lib.hid hB
      have hll' := Lib.hid hll
      have htl' := Lib.hid htl
      have hyl' := Lib.hid hyl
      obtain ⟨ny, hny⟩ : ∃ ny, ny = Y.length := ⟨_, rfl⟩
      rw [← hny] at hXb hXc hputP hputR hvb' hvc' ⊢
      have hny' := Lib.hid hny
      have hsz := Lib.hid hB.size
      clear hcell hqh hsix hx hx64 hxc hT hvb hvc hB hll htl hyl hok' ht' hz' hPE hny hq hE hXb hXc
      have hi1 : (p : Int) < (n : Int) := by omega
      have hi2 : (p : Int) < 30 := by omega
      have hoffR := Lib.hid (fun (W : World) (u : Value) (T0 : Nat → Prop) (m1 : Nat) (hm1 : m1 ≤ qm) (hnew : ∀ j, inB rb T0 u j → w.heap.size ≤ j) => (show Off (inB rb T0 u) qA m1 from fun g' off' e h0 hj => by have a1 := hlow.out g' off' e (by omega); have a2 := hnew g' hj; omega))
      have tl1 : True := trivial
      have tl2 : True := trivial
      have tc1 : True := trivial
      have tc2 : True := trivial
      have ts1 : True := trivial
      have ts2 : True := trivial
      rcases Bool.eq_false_or_eq_true (f == 0) with hf | hf
      all_goals
        go_wp2_with (first
          | (have _t := tl1; refine wpList_loadV rfl _ _ rfl (.pointer (some ⟨g, off + p * 12, Option.none⟩)) (evv qe qA qm qc) rfl (run_loadE _ g (off + p * 12) qe qA qm qc hcell1.out) ?_; clear tl1 _t)
          | (go_at_call 8; have _t := tc1; refine (hcut.out _ hqh1.out).mono ?_; rintro e w3 ⟨m1, rfl, hm1, hH1, hb1⟩; have hH1' := Lib.hid hH1; have hb1' := Lib.hid hb1; have hm1' := Lib.hid hm1; have hT3 := Lib.hid (hT'.out.later hs'.out hb1); have hsz3 := Lib.hid (Nat.le_trans hsz.out hb1.size); clear tc1 _t hH1 hb1 hm1)
          | (go_at_call 16; refine (hputP.out m1 _ hT3.out.p ((hvb'.out.later hb1'.out).own.holdsAt) (hvb'.out.offP.off) ⟨hH1'.out, fun g' off' e h0 hj => by have a1 := hlow.out g' off' e (by have := hm1'.out; omega); have a2 := hT3.out.newP g' hj; omega⟩).mono ?_; rintro e w4 ⟨r1, S', rfl, hp4, ha4, hn4, hown4, hof4⟩; have hH4 := Lib.hid (hT3.out.half hsz3.out hp4 ha4 hn4); have hr1 := Lib.hid (out_first (w := w) hT3.out.r hsz3.out hown4 hof4); have hvb4 := Lib.hid ((hvb'.out.later hb1'.out).altP ha4 hn4); have hvc4 := Lib.hid ((hvc'.out.later hb1'.out).altP ha4 hn4); have hb4 := Lib.hid ((hB'.out.trans (hb1'.out.mono hsz.out)).trans (ha4.below (Nat.le_trans hsz.out hb1'.out.size) hT3.out.newP)); have hsz4 := Lib.hid (Nat.le_trans hsz3.out ha4.size); have hcell4 := Lib.hid (hl'.out.later hb4.out); clear hp4 ha4 hn4 hown4 hof4)
          | (have _t := tl2; refine wpList_loadV rfl _ _ rfl (.pointer (some ⟨g, off + p * 12, Option.none⟩)) (evv qe qA qm qc) rfl (run_loadE _ g (off + p * 12) qe qA qm qc (hcell4.out.atq hp1.out hq1.out).1) ?_; clear tl2 _t)
          | (go_at_call 8; have _t := tc2; refine (hcut.out _ (hcell4.out.atq hp1.out hq1.out).2).mono ?_; rintro e w5 ⟨m2, rfl, hm2, hH2, hb5⟩; have hH2' := Lib.hid hH2; have hb5' := Lib.hid hb5; have hm2' := Lib.hid hm2; have hH5 := Lib.hid (hH4.out.later hs'.out hb5); have hsz5 := Lib.hid (Nat.le_trans hsz4.out hb5.size); clear tc2 _t hH2 hb5 hm2)
          | (go_at_call 17; refine (hputR.out m2 _ hH5.out.r ((hvc4.out.later hb5'.out).own.holdsAt) ⟨hH2'.out, hoffR.out w5 u T0 m2 hm2'.out hH5.out.newR⟩).mono ?_; rintro e w6 ⟨r2, T1, u', ls', rfl, hB6, hO6, hlk6, hln6, hm6⟩; have hT6 := Lib.hid (hH5.out.two hs'.out hsz5.out hB6 hlk6 hok2.out (fun l hl g' off' e h0 hj => (hm6 l hl).elim (fun ⟨l0, h0', e1, e2⟩ => hH5.out.old l0 h0' g' off' (e1 ▸ e) (e2 ▸ h0) hj) (fun ⟨e1, e2⟩ => by have a1 := hlow.out g' off' (e1 ▸ e) (Nat.lt_of_lt_of_le (e2 ▸ h0) hm2'.out); have a2 := hH5.out.newP g' hj; omega))); have hr6 := Lib.hid ((hr1.out.later hb5'.out).altR hB6.alt hB6.new); have hq6 := Lib.hid (out_second (w := w) hs'.out hH5.out.p hsz5.out hO6); have hvb6 := Lib.hid ((hvb4.out.later hb5'.out).altR hB6.alt hB6.new); have hvc6 := Lib.hid ((hvc4.out.later hb5'.out).altR hB6.alt hB6.new); have hb6 := Lib.hid ((hb4.out.trans (hb5'.out.mono (Nat.le_trans hsz4.out (Nat.le_refl _)))).trans (hB6.alt.below hsz5.out hH5.out.newR)); have hln6' := Lib.hid hln6; clear hB6 hO6 hlk6 hln6 hm6 hr1; obtain ⟨A8, c8, rfl, hX8⟩ := hr6.out.own.holds; obtain ⟨A9, c9, rfl, hX9⟩ := hq6.out.own.holds; have hX8' := Lib.hid hX8; have hX9' := Lib.hid hX9; clear hX8 hX9)
          | (have _t := ts1; refine wpList_convV rfl _ _ _ rfl (.slice A8 Z.length c8) (.string (strOfNums Z)) rfl (run_text _ _ 5 Try.underlying43 Try.underlying5 Try.underlying9 hX8'.out) ?_; clear ts1 _t)
          | (have _t := ts2; refine wpList_convV rfl _ _ _ rfl (.slice A9 Z.length c9) (.string (strOfNums Z)) rfl (run_text _ _ 5 Try.underlying43 Try.underlying5 Try.underlying9 hX9'.out) ?_; clear ts2 _t))
      · go_roundw
        case rel => exact ⟨p + 1, _, _, _, _, k', Z, by omega, by omega, by go_num, hT6.out, hr6.out, hq6.out, hb6.out, by have := hln6'.out; have := hll'.out; omega, by have := ht2.out; have := htl'.out; omega, by have := hz2.out; have := hyl'.out; omega⟩
        case measure => simp [RowKit.intOf]; omega
      · go_roundw
        case rel => exact ⟨p + 1, _, _, _, _, k', Y, by omega, by omega, by go_num, hT6.out, hvb6.out, hvc6.out, hb6.out, by have := hln6'.out; have := hll'.out; omega, by have := ht2.out; have := htl'.out; omega, by have := hyl'.out; omega⟩
        case measure => simp [RowKit.intOf]; omega
    · have hB' := Lib.hid hB
      clear hB hT hvb hvc
      by_cases h1 : p < n
      · have h2 : p = 30 := by omega
        subst h2
        go_wp2_with (go_at_call 10; refine (haw'.out wr).mono ?_; rintro e w9 ⟨rfl, hb9⟩; have hb9' := Lib.hid hb9; clear hb9)
        go_ret
        exact ⟨rfl, hB'.out.trans (hb9'.out.mono hB'.out.size)⟩
      · go_wp2_with (go_at_call 10; refine (haw'.out wr).mono ?_; rintro e w9 ⟨rfl, hb9⟩; have hb9' := Lib.hid hb9; clear hb9)
        go_ret
        exact ⟨rfl, hB'.out.trans (hb9'.out.mono hB'.out.size)⟩
end Go.Proofs.Ytodncamohimmmaa
