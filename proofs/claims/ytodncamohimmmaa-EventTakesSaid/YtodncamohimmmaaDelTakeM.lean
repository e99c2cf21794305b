/-
  delta's Take, where the numbers are good. Conditions: those that each theorem states.
-/
import Derived.Test.YtodncamohimmmaaLow18
import Derived.Deep.RegionWith
import Derived.StillTailTactics
namespace Go.Proofs.Ytodncamohimmmaa
open Go.RowKit Go.Lib Go.Maps Go.WideMaps Leb

theorem hsteps_len {X : List Int} {s : DS} {k : Nat} (h : (hsteps X s k).e = 0) : (hsteps X s k).hs.length = s.hs.length + k := by
  induction k with
  | zero => rfl
  | succ k ih =>
    have h0 : (hsteps X s k).e = 0 := by
      by_cases e : (hsteps X s k).e = 0
      · exact e
      · have := hsteps_bad e 1
        rw [this] at h
        exact absurd h e
    have ih := ih h0
    show (hstep X (hsteps X s k)).hs.length = _
    have h1 : (hstep X (hsteps X s k)).e = 0 := h
    unfold hstep at h1 ⊢
    rw [if_neg (fun h' => h' h0)] at h1 ⊢
    split at h1
    · exact absurd h1 (by assumption)
    · split at h1
      · exact absurd h1 (by assumption)
      · rw [if_neg (by assumption), if_neg (by assumption)]
        simp only [List.length_append, List.length_cons, List.length_nil]
        omega
section
variable (b : Nat) (T : List (List UInt8)) (S : Nat → Prop) (A : Option Addr) (n c : Nat) (X : List Int) (p : Int) (Aw : Option Addr) (nw cw : Nat) (was : List Hd) (w : World)
set_option maxHeartbeats 64000000 in
set_option maxRecDepth 100000 in
theorem dtake20_main {a a2 a3 : Nat} {q1 q2 q3 : Int} (h : PTab w b T S) (hT : T.length ≤ 300000) (hX : Holds w A n c X) (hn : n ≤ 1000000000) (hw : Hds w Aw nw cw was) (hnw : nw ≤ 1000) (hwo : Off S Aw nw) (hXo : Off S A n)
    (h1 : take X p = (a, q1, 0)) (h2 : take X q1 = (a2, q2, 0)) (h3 : take X q2 = (a3, q3, 0)) (g0 : a + a2 ≤ nw) (g1 : a + a2 + a3 ≤ 25) :
    Calls Try.prog 88 #[.slice A n c, .int .i64 p, .pointer (some ⟨b, 0, Option.none⟩), .slice Aw nw cw] w (DTook w b S (dend was a a2 (hsteps X ⟨[], q3, 0, T⟩ a3))) := by
  have hR := Lib.hid h
  have htn := Lib.hid (tnum_ok A n c X p w h1 h2 h3 hX)
  have hck := Lib.hid (fun W => check_ok (a := a) (a2 := a2) (a3 := a3) (m := nw) hnw g0 g1 W)
  unfold d3 at hck
  obtain ⟨u3, hu3⟩ := und3
  replace hu3 := Lib.hid hu3
  have hwn : IntKind.u64.wrap (nw : Int) = nw := wrap_of (show U64 nw by unfold U64; omega)
  have hwcap := hw.cap
  have hwl := Lib.hid hw.len
  have hlow := Lib.hid h.low
  have ha : a ≤ nw := by omega
  have ha3 : a3 ≤ 25 := by omega
  obtain ⟨kk, hkk⟩ : ∃ kk, kk = nw - a2 := ⟨_, rfl⟩
  have wk : IntKind.u64.wrap ((nw : Int) - (a2 : Int)) = (kk : Int) := by rw [IntWalk.u64_in _ ⟨by omega, by omega⟩]; omega
  have hkn : kk ≤ nw := by omega
  have hf1 := Lib.hid (fun W => run_frontHU W Aw nw cw a ha hwcap)
  have hf2 := Lib.hid (fun W => run_backHU W Aw nw cw kk hkn hwcap)
  have hw' := Lib.hid hw
  obtain ⟨B9, hB9⟩ : ∃ B9, B9 = (if cw = kk then Aw else Aw.map (·.add (kk * 2))) := ⟨_, rfl⟩
  rw [← hB9] at hf2
  have hB9' := Lib.hid hB9
  have hth := Lib.hid (fun W (hP : PTab W b T S) (hx : Holds W A n c X) => thds_any b T S A n c X q3 a3 W hP hT hx hXo hn ha3)
  have hX' := Lib.hid hX
  have hwo' := Lib.hid hwo
  obtain ⟨D, hD⟩ : ∃ D, D = hsteps X ⟨[], q3, 0, T⟩ a3 := ⟨_, rfl⟩
  have hlen := Lib.hid (fun (h : D.e = 0) => show D.hs.length = a3 by rw [hD] at h ⊢; rw [hsteps_len h]; simp)
  rw [← hD] at hth ⊢
  have g0' := Lib.hid g0
  have g1' := Lib.hid g1
  have hkk' := Lib.hid hkk
  clear h hX hw hwo hXo hn hT h1 h2 h3 hB9 hD g0 g1 hkk
  obtain ⟨hs, q, e, T9⟩ := D
  simp only at hlen
  go_enter Try.func88, Try.ntmps88
  by_cases he : e = 0
  · subst he
    have hlen' := Lib.hid (hlen.out rfl)
    go_wp2_with (first
      | (go_at_call 90; refine htn.out.mono ?_; rintro e0 w1 ⟨rfl, hb1⟩; have hb1' := Lib.hid hb1; clear hb1; dsimp only [d3]; obtain ⟨W1, hW1⟩ : ∃ W1, W1 = (w1.alloc (.cells #[.int .u64 0, .int .u64 0, .int .u64 0] 150)).setRow w1.heap.size #[.int .u64 (a : Int), .int .u64 (a2 : Int), .int .u64 (a3 : Int)] := ⟨_, rfl⟩; have hNa := Lib.hid (heap_alloc_new w1 (.cells #[.int .u64 0, .int .u64 0, .int .u64 0] 150)); have hi3 := Lib.hid (show (Try.prog.info? 150).map (·.size) = some (#[.int .u64 (a : Int), .int .u64 (a2 : Int), .int .u64 (a3 : Int)] : Array Value).size from info3); have hone := Lib.hid (one3 a a2 a3); have hN1 := Lib.hid (show N3 W1 w1.heap.size a a2 a3 by rw [hW1]; exact setRow_heap _ _ _ _ _ _ hNa.out); have hBW := Lib.hid (show Below w.heap.size w W1 by rw [hW1]; exact below_setRow (below_then hb1'.out (below_box w1 _)) hb1'.out.size _); have hsz1 := Lib.hid hb1'.out.size; have hNb := Lib.hid (show W1.heap[w1.heap.size]? = some (.cells #[.int .u64 (a : Int), .int .u64 (a2 : Int), .int .u64 (a3 : Int)] 150 (0, 0)) from hN1.out); have hW1' := Lib.hid hW1; clear hW1)
      | (with_reducible refine wpList_store_row rfl _ _ _ rfl w1.heap.size #[.int .u64 (a : Int), .int .u64 (a2 : Int), .int .u64 (a3 : Int)] rfl rfl 150 #[.int .u64 0, .int .u64 0, .int .u64 0] hNa.out hi3.out (Eq.refl _) hone.out ?_; rw [← hW1'.out]; clear hNa hW1')
      | (with_reducible refine wpList_load_row rfl _ _ rfl w1.heap.size rfl 150 #[.int .u64 (a : Int), .int .u64 (a2 : Int), .int .u64 (a3 : Int)] (0, 0) (.array u3 23) hNb.out hu3.out rfl hi3.out ?_)
      | (go_at_call 91; refine (hck.out W1).mono ?_; rintro e w2 ⟨rfl, hb2⟩; have hb2' := Lib.hid (below_then hBW.out hb2); have hN2 := Lib.hid (hN1.out.later hb2); have c2 := hN2.out.c2; clear hb2)
      | (go_at_call 92; refine (hth.out w2 (hR.out.later hb2'.out) (hX'.out.later hb2'.out)).mono ?_; rintro e w3 ⟨v3, S3, rfl, hO3, hP3⟩; have hO3 := Lib.hid (show HwO w3 w2.heap.size v3 hs S3 from hO3 rfl); simp only at hP3 ⊢; have hP3 := Lib.hid hP3; obtain ⟨A3, c3, rfl, hr3⟩ := hO3.out.own.hds; have hr3' := Lib.hid hr3; have hN3 := Lib.hid (hN2.out.alt hP3.out.alt (fun hk => absurd (hlow.out _ hk) (by have := hsz1.out; omega))); have d0 := hN3.out.c0; have d1 := hN3.out.c1; clear hr3))
    have hf1 := hf1.out
    have hf2 := hf2.out
    rw [hlen'.out]
    clear c2
    have hl1 := Lib.hid (show (was.take a).length ≤ 1000 by rw [List.length_take, hwl.out]; omega)
    have hl2 := Lib.hid (show hs.length ≤ 1000 by rw [hlen'.out]; omega)
    have hl3 := Lib.hid (show (was.drop kk).length ≤ 1000 by rw [List.length_drop, hwl.out]; omega)
    rw [hlen'.out] at hr3'
    go_still_tail 13, (by kernel_rfl)
    obtain ⟨V, hV⟩ : ∃ V, V = w3.drew := ⟨_, rfl⟩
    change wpList _ _ _ _ _ w3.drew
    rw [← hV]
    have hbV := Lib.hid (show Below w3.heap.size w3 V by rw [hV]; exact (Below.refl _ _).drew)
    clear hV hf1 hf2 d0 d1
    have hwo3 := Lib.hid ((HdO.mk (hw'.out.later hb2'.out) hwo'.out).step hP3.out.alt hP3.out.new)
    have hwV := Lib.hid (hwo3.out.rd.later hbV.out)
    have hHb := hwV.out.backAny hkn
    rw [← hB9'.out] at hHb
    obtain ⟨nk, hnk⟩ : ∃ nk, nk = nw - kk := ⟨_, rfl⟩
    obtain ⟨ck, hck⟩ : ∃ ck, ck = cw - kk := ⟨_, rfl⟩
    rw [← hnk, ← hck] at hHb ⊢
    have hbW := below_box V (.cells #[.slice Aw a cw, .slice A3 a3 c3, .slice B9 nk ck] 22)
    have hnew := heap_alloc_new V (.cells #[.slice Aw a cw, .slice A3 a3 c3, .slice B9 nk ck] 22)
    have hTri := Lib.hid (Tri20.mk (g := V.heap.size) (v1 := .slice Aw a cw) (v2 := .slice A3 a3 c3) (v3 := .slice B9 nk ck) (by rw [cell_of_row _ _ 0 _ _ _ hnew]; rfl) (by rw [cell_of_row _ _ 1 _ _ _ hnew]; rfl) (by rw [cell_of_row _ _ 2 _ _ _ hnew]; rfl) ⟨_, _, _, rfl, (hwV.out.front ha).later hbW⟩ ⟨_, _, _, rfl, (hr3'.out.later hbV.out).later hbW⟩ ⟨_, _, _, rfl, hHb.later hbW⟩)
    have hbW' := Lib.hid hbW
    obtain ⟨OUT, hOUT⟩ : ∃ OUT, OUT = was.take a ++ hs ++ was.drop kk := ⟨_, rfl⟩
    have hcat := Lib.hid (concat20_any V.heap.size _ _ _ _ _ _ _ hTri.out hl1.out hl2.out hl3.out)
    have hol : OUT.length = a + a3 + a2 := by
      have h1 := g0'.out
      have h2 := hkk'.out
      rw [hOUT, List.length_append, List.length_append, List.length_take, List.length_drop, hwl.out, hlen'.out]
      omega
    have hdo := fun h h' => dend_ok (w := was) (a := a) (b := a2) (s := ⟨hs, q, 0, T9⟩) rfl h h'
    have hda := fun h => dend_form (w := was) (a := a) (b := a2) (s := ⟨hs, q, 0, T9⟩) rfl h
    simp only [hwl.out, ← hkk'.out, ← hOUT] at hda hdo
    rw [← hOUT] at hcat
    have hends := Lib.hid (fun A9 c9 W (hW : Hds W Aw nw cw was) (hh : Hds W A9 OUT.length c9 OUT) => diff20_any Aw A9 nw OUT.length cw c9 was OUT W hW hh hnw (by rw [hol]; have := g0'.out; have := g1'.out; omega))
    have hle := ends_le was OUT
    rw [hol] at hle hends
    obtain ⟨xa, hxa⟩ : ∃ xa, xa = endA was OUT := ⟨_, rfl⟩
    obtain ⟨yb, hyb⟩ : ∃ yb, yb = endB was OUT := ⟨_, rfl⟩
    simp only [← hxa, ← hyb] at hends hda hdo hle
    obtain ⟨cn, hcn⟩ : ∃ cn, cn = a + a3 + a2 - xa - yb := ⟨_, rfl⟩
    rw [← hcn] at hends
    obtain ⟨mo, hmo⟩ : ∃ mo, mo = a + a3 + a2 := ⟨_, rfl⟩
    rw [← hmo] at hends hol
    have hol' := Lib.hid hol
    have hcn' := Lib.hid hcn
    have hmo' := Lib.hid hmo
    have hg' := Lib.hid (show ¬ S w1.heap.size from fun hk => absurd (hlow.out _ hk) (by have := hsz1.out; omega))
    clear hbW hnew hHb hnk hck hOUT hxa hyb hle hol hcn hmo
    go_wp2_with (go_at_call 93; refine hcat.out.mono ?_; rintro e w5 ⟨v5, rfl, own5, hb5⟩; have hb5' := Lib.hid (below_then hbV.out (below_then hbW'.out hb5)); obtain ⟨A5, c5, rfl, hr5⟩ := own5.hds; rw [hol'.out] at hr5 own5 ⊢; have own5' := Lib.hid own5; have hr5' := Lib.hid hr5; have hN5 := Lib.hid ((hN3.out.later hbV.out).later (below_then hbW'.out hb5)); have e50 := hN5.out.c0; have e51 := hN5.out.c1; have e52 := hN5.out.c2; have hends5 := Lib.hid (hends.out A5 c5 w5.drew ((hwV.out.later (below_then hbW'.out hb5)).later (Below.refl _ _).drew) (hr5.later (Below.refl _ _).drew)); clear own5 hb5 hr5)
    have hne := fun W => run_neq3 W xa yb cn a a2 a3
    have hfl := Lib.hid (show ∀ W', Below w3.heap.size w3 W' → PStep w W' b S S3 T9 from fun W' h => ((PStep.same hR.out hb2'.out).trans hP3.out).later h)
    cases hq : ((xa : Int) == (a : Int) && ((yb : Int) == (a2 : Int) && (cn : Int) == (a3 : Int))
      ) with
    | true =>
      rw [hq] at hne
      simp only [Bool.and_eq_true, beq_iff_eq] at hq
      have hfin := Lib.hid (hdo (by omega) (by omega))
      clear hda hdo hq
      simp only [Bool.not_true] at hne
      go_region_with (go_at_call 83; refine hends5.out.mono ?_; rintro e w6 ⟨rfl, hb6⟩; have hb6' := Lib.hid (show Below w5.heap.size w5 w6 from below_then (Below.refl _ _).drew hb6); have hN6 := hN5.out.later hb6'.out; have e60 := hN6.c0; have e61 := hN6.c1; have e62 := hN6.c2; clear hb6 hN6; dsimp only [d3])
      all_goals go_wp2
      all_goals go_ret3
      all_goals
        rw [hfin.out]
        exact ⟨_, S3, rfl, (own5'.out.kept (by first | exact hb6'.out | exact hb6'.out.drew | exact below_drawn hb6'.out _) (Nat.le_refl _)).low (Nat.le_trans hb2'.out.size (Nat.le_trans hP3.out.alt.size (Nat.le_trans hbV.out.size hbW'.out.size))), hfl.out _ (below_then hb5'.out (by first | exact hb6'.out | exact hb6'.out.drew | exact below_drawn hb6'.out _)), own5'.out.off fun j hj => Nat.lt_of_lt_of_le (hP3.out.tab.low j hj) (Nat.le_trans hbV.out.size hbW'.out.size)⟩
    | false =>
      rw [hq] at hne
      have hfin := Lib.hid (hda (by
        by_cases h1 : xa = a
        · by_cases h2 : yb = a2
          · have h3 := hcn'.out
            have : cn = a3 := by omega
            subst h1 h2 this
            simp at hq
          · exact .inr h2
        · exact .inl h1))
      clear hda hdo hq
      simp only [Bool.not_false] at hne
      go_region_with (go_at_call 83; refine hends5.out.mono ?_; rintro e w6 ⟨rfl, hb6⟩; have hb6' := Lib.hid (show Below w5.heap.size w5 w6 from below_then (Below.refl _ _).drew hb6); have hN6 := hN5.out.later hb6'.out; have e60 := hN6.c0; have e61 := hN6.c1; have e62 := hN6.c2; clear hb6 hN6; dsimp only [d3])
      all_goals go_wp2
      all_goals go_ret3
      all_goals
        rw [hfin.out]
        exact ⟨.slice Option.none 0 0, S3, rfl, World.ownsRow_nil _ _ _ _, hfl.out _ (below_then hb5'.out (by first | exact hb6'.out | exact hb6'.out.drew | exact below_drawn hb6'.out _)), fun g e => by cases e⟩
  · have hfin := Lib.hid (dend_bad (w := was) (a := a) (b := a2) (s := ⟨hs, q, e, T9⟩) he)
    have hz := eq0_false he
    go_wp2_with (first
      | (go_at_call 90; refine htn.out.mono ?_; rintro e0 w1 ⟨rfl, hb1⟩; have hb1' := Lib.hid hb1; clear hb1; dsimp only [d3]; obtain ⟨W1, hW1⟩ : ∃ W1, W1 = (w1.alloc (.cells #[.int .u64 0, .int .u64 0, .int .u64 0] 150)).setRow w1.heap.size #[.int .u64 (a : Int), .int .u64 (a2 : Int), .int .u64 (a3 : Int)] := ⟨_, rfl⟩; have hNa := Lib.hid (heap_alloc_new w1 (.cells #[.int .u64 0, .int .u64 0, .int .u64 0] 150)); have hi3 := Lib.hid (show (Try.prog.info? 150).map (·.size) = some (#[.int .u64 (a : Int), .int .u64 (a2 : Int), .int .u64 (a3 : Int)] : Array Value).size from info3); have hone := Lib.hid (one3 a a2 a3); have hN1 := Lib.hid (show N3 W1 w1.heap.size a a2 a3 by rw [hW1]; exact setRow_heap _ _ _ _ _ _ hNa.out); have hBW := Lib.hid (show Below w.heap.size w W1 by rw [hW1]; exact below_setRow (below_then hb1'.out (below_box w1 _)) hb1'.out.size _); have hsz1 := Lib.hid hb1'.out.size; have hNb := Lib.hid (show W1.heap[w1.heap.size]? = some (.cells #[.int .u64 (a : Int), .int .u64 (a2 : Int), .int .u64 (a3 : Int)] 150 (0, 0)) from hN1.out); have hW1' := Lib.hid hW1; clear hW1)
      | (with_reducible refine wpList_store_row rfl _ _ _ rfl w1.heap.size #[.int .u64 (a : Int), .int .u64 (a2 : Int), .int .u64 (a3 : Int)] rfl rfl 150 #[.int .u64 0, .int .u64 0, .int .u64 0] hNa.out hi3.out (Eq.refl _) hone.out ?_; rw [← hW1'.out]; clear hNa hW1')
      | (with_reducible refine wpList_load_row rfl _ _ rfl w1.heap.size rfl 150 #[.int .u64 (a : Int), .int .u64 (a2 : Int), .int .u64 (a3 : Int)] (0, 0) (.array u3 23) hNb.out hu3.out rfl hi3.out ?_)
      | (go_at_call 91; refine (hck.out W1).mono ?_; rintro e w2 ⟨rfl, hb2⟩; have hb2' := Lib.hid (below_then hBW.out hb2); have hN2 := Lib.hid (hN1.out.later hb2); have c2 := hN2.out.c2; clear hb2)
      | (go_at_call 92; refine (hth.out w2 (hR.out.later hb2'.out) (hX'.out.later hb2'.out)).mono ?_; rintro e w3 ⟨v3, S3, rfl, hO3, hP3⟩; simp only at hO3 hP3 ⊢; have hO3 := Lib.hid hO3; have hP3 := Lib.hid hP3))
    go_ret3
    rw [hfin.out]
    exact ⟨.slice Option.none 0 0, S3, rfl, World.ownsRow_nil _ _ _ _, (PStep.same hR.out hb2'.out).trans hP3.out, fun g e => by cases e⟩
theorem dtake20_any (h : PTab w b T S) (hT : T.length ≤ 300000) (hX : Holds w A n c X) (hn : n ≤ 1000000000) (hw : Hds w Aw nw cw was) (hnw : nw ≤ 1000) (hwo : Off S Aw nw) (hXo : Off S A n) :
    Calls Try.prog 88 #[.slice A n c, .int .i64 p, .pointer (some ⟨b, 0, Option.none⟩), .slice Aw nw cw] w (DTook w b S (dtake T X p was)) := by
  obtain ⟨a, q1, e1, h1⟩ : ∃ a q e, take X p = (a, q, e) := ⟨_, _, _, rfl⟩
  by_cases he1 : e1 = 0
  · subst he1
    obtain ⟨a2, q2, e2, h2⟩ : ∃ a q e, take X q1 = (a, q, e) := ⟨_, _, _, rfl⟩
    by_cases he2 : e2 = 0
    · subst he2
      obtain ⟨a3, q3, e3, h3⟩ : ∃ a q e, take X q2 = (a, q, e) := ⟨_, _, _, rfl⟩
      by_cases he3 : e3 = 0
      · subst he3
        rw [dtake_mid h1 h2 h3]
        have hl := hw.len
        by_cases g1 : nw < a
        · rw [dmid_none (by omega)]
          exact dtake20_n1 b T S A n c X p Aw nw cw w h1 h2 h3 hnw g1 h hX
        · by_cases g2 : nw < a + a2
          · rw [dmid_none (by omega)]
            exact dtake20_n2 b T S A n c X p Aw nw cw w h1 h2 h3 hnw (by omega) g2 h hX
          · by_cases g4 : 25 < a + a2
            · rw [dmid_over (by omega) (by omega)]
              exact dtake20_o1 b T S A n c X p Aw nw cw w h1 h2 h3 hnw (by omega) g4 h hX
            · by_cases g5 : 25 < a + a2 + a3
              · rw [dmid_over (by omega) (by omega)]
                exact dtake20_o2 b T S A n c X p Aw nw cw w h1 h2 h3 hnw (by omega) (by omega) g5 h hX
              · rw [dmid_on (by omega) (by omega)]
                exact dtake20_main b T S A n c X p Aw nw cw was w h hT hX hn hw hnw hwo hXo h1 h2 h3 (by omega) (by omega)
      · rw [dtake_e3 h1 h2 h3 he3]
        exact dtake20_e3 b T S A n c X p Aw nw cw w h1 h2 h3 he3 h hX
    · rw [dtake_e2 h1 h2 he2]
      exact dtake20_e2 b T S A n c X p Aw nw cw w h1 h2 he2 h hX
  · rw [dtake_e1 h1 he1]
    exact dtake20_e1 b T S A n c X p Aw nw cw w h1 he1 h hX
end
end Go.Proofs.Ytodncamohimmmaa
