/-
  slices.DeleteFunc and Delete on a slice of entries of the call's own. Conditions: those that each theorem states.
-/
import Derived.Test.YthojnhdnflakiaaMemoThin
namespace Go.Proofs.Ythojnhdnflakiaa
open Go.RowKit Go.Lib Go.Shelf

theorem row_six {w : World} {B g n cap : Nat} {L : List Ent} (h : OwnsE w B (.slice (some ⟨g, 0, Option.none⟩) n cap) L) (hL : L.length = n) {k : Nat} (hk : k < n) {x : Ent} (hx : x = L[k]'(by rw [hL]; exact hk)) :
    (w.cell? ⟨g, k * 6, Option.none⟩ = some (.string x.fr) ∧ w.cell? ⟨g, k * 6 + 1, Option.none⟩ = some (.string x.at_) ∧ w.cell? ⟨g, k * 6 + 2, Option.none⟩ = some (.bool x.cred) ∧
    w.cell? ⟨g, k * 6 + 3, Option.none⟩ = some (.string x.me) ∧ w.cell? ⟨g, k * 6 + 4, Option.none⟩ = some (.string x.he) ∧ w.cell? ⟨g, k * 6 + 5, Option.none⟩ = some (.int .i64 x.til)) ∧
    ∀ t, w.frozen? ⟨g, k * 6 + t, Option.none⟩ = false := by
  subst hL
  subst hx
  have h0 : w.ownsRow B 32 6 (.slice (some ⟨g, 0, Option.none⟩) L.length cap) L.length (ecells L) := h
  have at_ : ∀ t, t < 6 → w.cell? ⟨g, k * 6 + t, Option.none⟩ = (ecell L[k])[t]? := fun t ht => by
    rw [World.ownsRow.cellAt h0 (k * 6 + t) (by omega), ecells_at hk ht]
  exact ⟨⟨at_ 0 (by omega), at_ 1 (by omega), at_ 2 (by omega), at_ 3 (by omega), at_ 4 (by omega), at_ 5 (by omega)⟩, fun t => World.ownsRow.frozenAt h0 _⟩

section
variable (p : Ent → Bool) (g : Nat) (lb : Array Value)
set_option maxHeartbeats 8000000 in
set_option maxRecDepth 100000 in
theorem deleteFunc15_any (eg : ∀ args w, (callFunc g args).run Try.prog w = .ok (.enter g args) w) (B : Nat) (v : Value) (l : List Ent) (w : World) (h : OwnsE w B v l) (hp : PredsO l p g lb v w) :
    Calls Try.prog 29 #[v, .func (.func g) #[] lb] w fun e w' =>
      ∃ v', e = .returned v' ∧ OwnsE w' B v' (l.filter fun y => !p y) ∧ w.grownBy w' v.ownBlock ∧ v'.ownBlock = v.ownBlock := by
  obtain ⟨A, c, hv, hE⟩ := h.eds
  have hc := indexFunc15_any p g lb eg A l.length c l w hE hp.preds
  by_cases hk : l.findIdx p < l.length
  · have hbe : ∀ j (hj : j < l.findIdx p), p (l[j]'(by omega)) = false := fun j hj => by
      have := List.not_of_lt_findIdx hj
      simpa using this
    have hf : firstOf p l = ((l.findIdx p : Nat) : Int) := by unfold firstOf; rw [if_pos hk]
    rw [hf] at hc
    have hth := Lib.hid (thin_start (p := p) rfl hk (List.findIdx_getElem (w := hk)) hbe)
    clear hbe hf
    obtain ⟨k0, hk0⟩ : ∃ k0, k0 = l.findIdx p := ⟨_, rfl⟩
    rw [← hk0] at hc hth hk
    obtain ⟨n, hn⟩ : ∃ n, n = l.length := ⟨_, rfl⟩
    have hk9 : k0 < n := by omega
    obtain ⟨gs, cap, rfl, hgB, hgl, hrow⟩ := h.form hn.symm (by omega)
    injection hv with hA hln hcc
    clear hln hrow
    subst hA
    subst hcc
    rw [← hn] at hc hth hk
    clear hk
    have hn63 : n ≤ 9223372036854775807 := by have h1 := hE.cap; have h2 := hE.room; unfold maxLen at h2; omega
    have hcap := hE.cap
    rw [← hn] at hcap
    have hc' := Lib.hid hc
    have hO := Lib.hid h
    have hp' := Lib.hid hp
    have hl := Lib.hid hn.symm
    have hne : ((k0 : Int) == -1) = false := beq_eq_false_iff_ne.2 (by omega)
    clear hk0 hn hE h hp hc
    go_enter Try.func29, Try.ntmps29
    go_wp2_with (go_at_call 30; refine hc'.out.mono ?_; rintro e w1 ⟨rfl, hb1⟩; have hO1 := Lib.hid (hO.out.kept hb1 (Nat.le_refl _)); have hG1 := Lib.hid (below_grows hb1 (some gs)))
    go_loopw [5, 6, 7] (fun s5 s6 _ wr => ∃ (i j : Nat) (L : List Ent), s5 = .int .i64 i ∧ s6 = .int .i64 j ∧ j ≤ n ∧ Hid (Thin (fun y => !p y) l L n i j) ∧ Hid (OwnsE wr B (.slice (some ⟨gs, 0, Option.none⟩) n cap) L) ∧ Hid (w.grownBy wr (some gs))) (fun _ s6 _ _ => n - (RowKit.intOf s6).toNat)
    case atStart => exact ⟨k0, k0 + 1, l, rfl, by go_num, by omega, hth, hO1, hG1⟩
    case round =>
      obtain ⟨i, j, L, rfl, rfl, hjn, hT, hR, hG⟩ := hrel
      have hij := hT.out.lt
      by_cases hlt : j < n
      · have hjl : j < l.length := by rw [hl.out]; exact hlt
        obtain ⟨y, hy⟩ : ∃ y, y = l[j] := ⟨_, rfl⟩
        have hyl := Lib.hid (show y ∈ l from hy ▸ List.getElem_mem hjl)
        obtain ⟨h1, h2, h3, h4, h5, h6⟩ := (row_six hR.out hT.out.len hlt (hy.trans (hT.out.at hl.out hlt).symm)).1
        have hskip := Lib.hid (fun (e : p y = true) => hT.out.skip hl.out hlt (by rw [← hy, e]; rfl))
        have hkeep := Lib.hid (fun (e : p y = false) => (show Thin (fun y => !p y) l (L.set i y) n (i + 1) (j + 1) by
          have := hT.out.keep hl.out hlt (by rw [← hy, e]; rfl)
          rw [← hy] at this
          exact this))
        clear hy hjl
        have hcall := hp'.out (wr.alloc (.cells (ecell y).toArray 32)) y hyl.out (grown_then hG.out (World.grownBy_alloc _ _ _))
        have hs := Lib.hid (six_new wr y 32)
        have hG2 := Lib.hid (grown_then hG.out (World.grownBy_alloc wr (.cells (ecell y).toArray 32) (some gs)))
        have hR2 := Lib.hid (hR.out.alloc (.cells (ecell y).toArray 32))
        generalize p y = r at hcall hskip hkeep
        obtain ⟨y1, y2, y3, y4, y5, y6⟩ := y
        unfold evalue at hcall
        simp only at h1 h2 h3 h4 h5 h6 hcall
        simp only [ecell] at hcall
        cases r with
        | true =>
          have hT2 := Lib.hid (hskip.out rfl)
          clear hskip hkeep
          go_wp2_with (go_at_fn g; refine hcall.mono ?_; rintro e w2 ⟨rfl, hb2⟩; have hR3 := Lib.hid (hR2.out.kept hb2 (Nat.le_refl _)); have hG3 := Lib.hid (grown_then hG2.out (below_grows hb2 (some gs))))
          go_roundw
          case rel => exact ⟨i, j + 1, L, rfl, by go_num, by omega, hT2, hR3, hG3⟩
          case measure => simp [RowKit.intOf]; omega
        | false =>
          have hT2 := Lib.hid (hkeep.out rfl)
          clear hskip hkeep
          have hin : i < n := by omega
          obtain ⟨o, ho⟩ : ∃ o, o = L[i]'(by rw [hT.out.len]; exact hin) := ⟨_, rfl⟩
          go_wp2_with (go_at_fn g; refine hcall.mono ?_; rintro e w2 ⟨rfl, hb2⟩; have hR3 := Lib.hid (hR2.out.kept hb2 (Nat.le_refl _)); have hG3 := Lib.hid (grown_then hG2.out (below_grows hb2 (some gs))); obtain ⟨z1, z2, z3, z4, z5, z6⟩ := hs.out.later hb2; simp only at z1 z2 z3 z4 z5 z6; obtain ⟨⟨o1, o2, o3, o4, o5, o6⟩, hfz⟩ := row_six hR3.out hT.out.len hin ho; have f0 := hfz 0; have f1 := hfz 1; have f2 := hfz 2; have f3 := hfz 3; have f4 := hfz 4; have f5 := hfz 5; clear hfz; rw [Nat.add_zero] at f0)
          have hfin := Lib.hid (hR3.out.set6 hT.out.len hin ⟨y1, y2, y3, y4, y5, y6⟩)
          go_roundw
          case rel => exact ⟨i + 1, j + 1, L.set i ⟨y1, y2, y3, y4, y5, y6⟩, by go_num, by go_num, by omega, hT2, Lib.hid hfin.out.1, Lib.hid (grown_then hG3.out hfin.out.2)⟩
          case measure => simp [RowKit.intOf]; omega
      · obtain rfl : j = n := by omega
        obtain ⟨w3, hcl, hR4, hG4⟩ := run_clearE 39 Try.underlying39 hT.out.len hR.out hcap (i := i) (c := cap - i) hij
        have hd := Lib.hid (hT.out.done hl.out)
        have hR5 := Lib.hid hR4
        have hG5 := Lib.hid hG4
        clear hR4 hG4
        go_wp2
        go_ret
        exact ⟨_, rfl, by rw [← hd.out]; exact hR5.out, grown_then hG.out hG5.out, rfl⟩
  · have hf : firstOf p l = -1 := by unfold firstOf; rw [if_neg hk]
    rw [hf] at hc
    have hfil : l.filter (fun y => !p y) = l := by
      rw [List.filter_eq_self]
      intro y hy
      cases hpy : p y with
      | false => rfl
      | true => exact absurd (List.findIdx_lt_length_of_exists ⟨y, hy, hpy⟩) hk
    rw [hfil]
    subst hv
    have hc' := Lib.hid hc
    have hO := Lib.hid h
    clear hk hf hE h hp hc hfil
    go_enter Try.func29, Try.ntmps29
    go_wp2_with (go_at_call 30; refine hc'.out.mono ?_; rintro e w1 ⟨rfl, hb1⟩)
    go_ret
    exact ⟨_, rfl, hO.out.kept hb1 (Nat.le_refl _), below_grows hb1 _, rfl⟩
end

theorem Eds.backAny {w : World} {A : Option Addr} {n c : Nat} {l : List Ent} (h : Eds w A n c l) {k : Nat} (hk : k ≤ n) : Eds w (if c = k then A else A.map (·.add (k * 6))) (n - k) (c - k) (l.drop k) := by
  have hcap := h.cap
  by_cases hc : c = k
  · rw [if_pos hc]
    have e0 : n - k = 0 := by omega
    have e1 : c - k = 0 := by omega
    have e2 : l.drop k = [] := List.drop_eq_nil_of_le (by rw [h.len]; omega)
    rw [e0, e1, e2]
    exact eds_empty w A 0 (Nat.zero_le _) (fun _ => rfl)
  · rw [if_neg hc]
    by_cases hn : 0 < n
    · obtain ⟨b, off, e, hlt, hcell⟩ := h.cell hn
      subst e
      have := h.back hk
      simpa [addr_add] using this
    · have e0 : n - k = 0 := by omega
      have hl0 : l = [] := List.eq_nil_of_length_eq_zero (by rw [h.len]; omega)
      subst hl0
      rw [e0, List.drop_nil]
      cases A with
      | none => exact absurd (h.bare rfl) (by omega)
      | some ad => exact eds_empty w _ (c - k) (by have := h.room; omega) (fun e => by cases e)
set_option maxRecDepth 100000 in
theorem run_front15 (w : World) (A : Option Addr) (n c : Nat) : (Instr.sliceAt 39 (.slice A n c) Option.none (some (.int .i64 0)) Option.none).run Try.prog w = .ok (.slice A 0 c) w := by
  have f5 : (0 : Int) ≤ (c : Int) := by omega
  go_simp
set_option maxRecDepth 100000 in
theorem run_back15 (w : World) (A : Option Addr) (n c : Nat) (h : 1 ≤ n) (hc : n ≤ c) : (Instr.sliceAt 39 (.slice A n c) (some (.int .i64 1)) Option.none Option.none).run Try.prog w = .ok (.slice (if c = 1 then A else A.map (·.add (1 * 6))) (n - 1) (c - 1)) w := by
  have f4 : (1 : Int) ≤ (n : Int) := by omega
  have f5 : (n : Int) ≤ (c : Int) := by omega
  go_simp
/-- What the slots of the statement hold that shifts the entries. -/
def shF (gs n cap : Nat) (j : Nat) (v : Value) (_ : World) : Prop :=
  match j with
  | 0 => v = .slice (some ⟨gs, 0, Option.none⟩) n cap
  | 1 => v = .int .i64 0
  | 2 => v = .slice (some ⟨gs, 0, Option.none⟩) 0 cap
  | 3 => v = .slice (some ⟨gs, 0, Option.none⟩) n cap
  | 4 => v = .int .i64 1
  | 5 => v = .slice (if cap = 1 then (some ⟨gs, 0, Option.none⟩ : Option Addr) else (some ⟨gs, 0, Option.none⟩ : Option Addr).map (·.add (1 * 6))) (n - 1) (cap - 1)
  | _ => True
theorem shF_later {gs n cap : Nat} : Outlives (shF gs n cap) := by
  intro j v w w' h _
  unfold shF at h ⊢
  split at h
  all_goals exact h
theorem wpOp_appendR {P : Program} {ops : Array Oper} {Q : Exit → Act → World → Prop} {i : Nat} {o : Oper} {a : Act} {w w' : World} {K : Act → World → Prop} (ho : ops[i]? = some o) (hw : Region.wanted o (yielded ops a.tmps) = true) (s x : Operand) (t : TypeId) (hop : o.op = .call { callee := .builtin .append, args := #[s, x], argTypes := #[t, t] })
    (u u' v : Value) (hs : a.eval s = u) (hx : a.eval x = u') (hrun : (Builtin.append_ #[t, t] o.type #[u, u']).run P w = .ok v w') (hK : K (a.put o.dst v) w') : wpOp P ops Q i K a w :=
  wpOp_value ho hw (v := v) (w' := w') (by
    unfold execOp
    simp only [hop, resolve, invoke, builtin, Sem.run_bind, Sem.run_pure, Result.andThen_ok, List.map_toArray, List.map_cons, List.map_nil, hs, hx, hrun]) hK
theorem run_shift (ty : TypeId) {w : World} {B gs n cap : Nat} {l : List Ent} (hl : l.length = n) (h : OwnsE w B (.slice (some ⟨gs, 0, Option.none⟩) n cap) l) (hn : 1 ≤ n) :
    ∃ w', (Builtin.append_ #[39, 39] ty #[.slice (some ⟨gs, 0, Option.none⟩) 0 cap, .slice (if cap = 1 then (some ⟨gs, 0, Option.none⟩ : Option Addr) else (some ⟨gs, 0, Option.none⟩ : Option Addr).map (·.add (1 * 6))) (n - 1) (cap - 1)]).run Try.prog w = .ok (.slice (some ⟨gs, 0, Option.none⟩) (n - 1) cap) w' ∧
      OwnsE w' B (.slice (some ⟨gs, 0, Option.none⟩) (n - 1) cap) (l.drop 1) ∧ w.grownBy w' (some gs) := by
  subst hl
  obtain ⟨i0, hi, hz0, hz1, hz2⟩ := info_parts Try.infoE
  obtain ⟨A, c, e, hE⟩ := h.eds
  injection e with e1 _ e3
  subst e1
  subst e3
  have hcap := hE.cap
  have hb := hE.backAny (k := 1) hn
  have h0 := h.front rfl (i := 0) (Nat.zero_le _)
  rw [List.take_zero] at h0
  obtain ⟨ad, had⟩ : ∃ ad : Addr, (if cap = 1 then (some ⟨gs, 0, Option.none⟩ : Option Addr) else (some ⟨gs, 0, Option.none⟩ : Option Addr).map (·.add (1 * 6))) = some ad := by
    by_cases hc : cap = 1
    · rw [if_pos hc]; exact ⟨_, rfl⟩
    · rw [if_neg hc]; exact ⟨_, rfl⟩
  rw [had] at hb ⊢
  have hlen := hb.len
  have hcs : ∀ j u, (ecells (l.drop 1))[j]? = some u → w.cell? (ad.add j) = some u := by
    intro j u hu
    have hj : j < (l.length - 1) * 6 := by
      have := (List.getElem?_eq_some_iff.1 hu).1
      rwa [ecells_len, hlen] at this
    obtain ⟨b, off, e1, _, hc⟩ := hb.cell (by omega)
    injection e1 with e1
    subst e1
    rw [addr_add, hc j hj, hu]
  obtain ⟨w', hr, h2, h3⟩ := run_append_fits (P := Try.prog) w B 39 ty 32 i0 6 Try.underlying39 hi hz1 gs 0 cap [] h0 ad (l.length - 1) (cap - 1) (ecells (l.drop 1)) (by rw [ecells_len, hlen]) hcs (ecells_one _) (by omega)
  rw [Nat.zero_add] at hr h2
  refine ⟨w', hr, ?_, h3⟩
  unfold OwnsE
  rw [hlen]
  exact h2

set_option maxHeartbeats 8000000 in
set_option maxRecDepth 100000 in
theorem delete01_any (B : Nat) (v : Value) (l : List Ent) (w : World) (h : OwnsE w B v l) (hl0 : 0 < l.length) :
    Calls Try.prog 26 #[v, .int .i64 0, .int .i64 1] w fun e w' =>
      ∃ v', e = .returned v' ∧ OwnsE w' B v' (l.drop 1) ∧ w.grownBy w' v.ownBlock ∧ v'.ownBlock = v.ownBlock := by
  obtain ⟨n, hn⟩ : ∃ n, n = l.length := ⟨_, rfl⟩
  rw [← hn] at hl0
  obtain ⟨gs, cap, rfl, hgB, hgl, hrow⟩ := h.form hn.symm hl0
  have hcap : n ≤ cap := by
    obtain ⟨A, c, e, hE⟩ := h.eds
    injection e with _ _ e3
    subst e3
    have := hE.cap
    omega
  have hcm : cap ≤ 9223372036854775807 := by
    obtain ⟨A, c, e, hE⟩ := h.eds
    injection e with _ _ e3
    subst e3
    have := hE.room
    unfold maxLen at this
    omega
  have hl := Lib.hid hn.symm
  have hO := Lib.hid h
  have hln := Lib.hid (show (l.drop 1).length = n - 1 by rw [List.length_drop]; omega)
  obtain ⟨L1, hL1⟩ : ∃ L1, L1 = l.drop 1 := ⟨_, rfl⟩
  rw [← hL1] at hln ⊢
  have hL := Lib.hid hL1
  clear hL1
  have hn1 : ((0 : Int) == 1) = false := rfl
  clear h hn hrow
  go_enter Try.func26, Try.ntmps26
  go_wp2
  refine wp_region_tail 6 8 (by decide) (by kernel_rfl) (RInv 33 [20, 21, 22, 23, 24, 25] _ (shF gs n cap) w NoMore) (by kernel_rfl) (by kernel_rfl) (RInv.start rfl trivial (Below.refl _ _).drew) ?_ ?_
  · intro i hi D a wx hI hcl hnd hpre
    have hcase : i = 0 ∨ i = 1 ∨ i = 2 ∨ i = 3 ∨ i = 4 ∨ i = 5 := by omega
    have hF := hI.fact
    rcases hcase with rfl | rfl | rfl | rfl | rfl | rfl
    · exact wpOp_move rfl (wanted_free rfl) _ rfl _ (hI.same 0 (by decide)) (hI.add (by decide) shF_later (by decide) (Below.refl _ _) rfl)
    · exact wpOp_move rfl (wanted_free rfl) _ rfl _ (hI.same 1 (by decide)) (hI.add (by decide) shF_later (by decide) (Below.refl _ _) rfl)
    · exact wpOp_slice rfl (wanted_free rfl) _ _ _ _ _ rfl _ _ _ _ _ (hF 0 (hpre 0 (by kernel_rfl))) rfl (congrArg some (hF 1 (hpre 1 (by kernel_rfl)))) rfl (run_front15 wx _ n cap) (hI.add (by decide) shF_later (by decide) (Below.refl _ _) rfl)
    · exact wpOp_move rfl (wanted_free rfl) _ rfl _ (hI.same 0 (by decide)) (hI.add (by decide) shF_later (by decide) (Below.refl _ _) rfl)
    · exact wpOp_move rfl (wanted_free rfl) _ rfl _ (hI.same 2 (by decide)) (hI.add (by decide) shF_later (by decide) (Below.refl _ _) rfl)
    · exact wpOp_slice rfl (wanted_free rfl) _ _ _ _ _ rfl _ _ _ _ _ (hF 3 (hpre 3 (by kernel_rfl))) (congrArg some (hF 4 (hpre 4 (by kernel_rfl)))) rfl rfl (run_back15 wx _ n cap hl0 hcap) (hI.add (by decide) shF_later (by decide) (Below.refl _ _) rfl)
  · intro D a wx hI hall
    have hB := Lib.hid hI.below
    have hOx := hO.out.kept hI.below (Nat.le_refl _)
    obtain ⟨fs, rfl, hfs⟩ := hI.done (by decide) rfl (fun i hi => hall i hi)
    have e2 : fs 22 = _ := hfs 2 (by decide)
    have e5 : fs 25 = _ := hfs 5 (by decide)
    clear hI hall hfs
    show wpOps _ _ _ [6, 7] _ wx
    simp only [putAll, List.map_cons, List.map_nil, Act.put, List.setIfInBounds_toArray, List.set_cons_zero, List.set_cons_succ]
    rw [e2, e5]
    generalize fs 20 = u20
    generalize fs 21 = u21
    generalize fs 23 = u23
    generalize fs 24 = u24
    clear e2 e5
    obtain ⟨w2, hr, hO2, hG2⟩ := run_shift 39 hl.out hOx hl0
    rw [wpOps_cons]
    refine wpOp_appendR rfl (wanted_free rfl) _ _ _ rfl _ _ _ rfl rfl hr ?_
    clear hr
    generalize Value.slice (if cap = 1 then (some ⟨gs, 0, Option.none⟩ : Option Addr) else (some ⟨gs, 0, Option.none⟩ : Option Addr).map (·.add (1 * 6))) (n - 1) (cap - 1) = u25
    rw [wpOps_cons]
    refine wpOp_assign rfl (wanted_free rfl) _ rfl _ rfl ?_
    rw [wpOps]
    clear hOx
    obtain ⟨m, hm⟩ : ∃ m, m = n - 1 := ⟨_, rfl⟩
    have hmn : m < n := by omega
    have hmc : m ≤ cap := by omega
    rw [← hm] at hO2 hln ⊢
    rw [← hL.out] at hO2
    obtain ⟨w3, hcl, hO3, hG3⟩ := run_clearB 39 Try.underlying39 hln.out hO2 (k := n - m) (c := cap - m) (by omega) (by omega)
    have hO4 := Lib.hid hO3
    have hG4 := Lib.hid (grown_then (below_grows hB.out (some gs)) (grown_then hG2 hG3))
    clear hO3 hG3 hm hO2 hG2
    simp only [Act.put, List.setIfInBounds_toArray]
    go_wp2
    go_ret
    exact ⟨_, rfl, hO4.out, hG4.out, rfl⟩
end Go.Proofs.Ythojnhdnflakiaa
