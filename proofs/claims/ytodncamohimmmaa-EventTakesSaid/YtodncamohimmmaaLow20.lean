/-
  Texts of one sort, one behind the other: numbers, memory, regions, strings, headers. Conditions: those that each theorem states.
-/
import Derived.Test.YtodncamohimmmaaLow19

namespace Go.Proofs.Ytodncamohimmmaa
open Go.RowKit Go.Lib Leb

def sKd (s : St) : St := if s.e = 0 ∧ ¬ (1 ≤ s.x.kind ∧ s.x.kind ≤ 7) then ⟨s.x, s.q, 4, s.t⟩ else s
def aft (t : Int) (a : Nat) : Int := if 1099511627776 - t < (a : Int) then -1 else t + a
def sLt (X : List Int) (t : Int) (s : St) : St := ⟨{ s.x with tick := aft t (rdN X s.q s.e).1 }, (rdN X s.q s.e).2.1, (rdN X s.q s.e).2.2, s.t⟩
def vis (X : List Int) (was : List Hd) (s : St) : St :=
  if s.x.kind = 1 then sHd X was (sTx X fBody (sTx X fNo (sTx X fUrl (sTx X fMe (sAm X fCode s)))))
  else if s.x.kind = 2 then sHd X was (sTx X fBody (sTx X fUrl (sTx X fMe (sNu X (sFl X (sAm X fCode s))))))
  else if s.x.kind = 3 then sHd X was (sTx X fBody (sAm X fStat s))
  else if s.x.kind = 5 ∨ s.x.kind = 6 then sNu X s
  else if s.x.kind = 7 then sAm X fStat (sAm X fCode s)
  else s
def st4 (k : Bk) (X : List Int) (p : Int) : St := sLt X k.tick (sAm X fSes (sKd (sAm X fKind ⟨zev, p, 0, k.tab⟩)))
def st5 (k : Bk) (X : List Int) (p : Int) : St := vis X (k.look (st4 k X p).x.ses (decide ((st4 k X p).x.kind = 3))) (st4 k X p)
def finS (k : Bk) (s : St) : TookE := if s.e ≠ 0 then errE k s.e else if GoodE s.x then ((s.x, s.q, 0), ⟨s.t, s.x.tick, lookE k.look s.x⟩) else errE k 4

theorem take_zero_bad {X : List Int} {p : Int} (h : (take X p).2.2 ≠ 0) : (take X p).1 = 0 := by
  unfold take at h ⊢
  split
  · rfl
  · rename_i h1
    rw [if_neg h1] at h
    split
    · rfl
    · rename_i h2
      rw [if_neg h2] at h
      split
      · rfl
      · rename_i h3
        rw [if_neg h3] at h
        exact absurd rfl h
structure Bad (e : Int) (s : St) : Prop where
  is : s.e = e
  ne : e ≠ 0
section
variable {X : List Int} {e : Int} {s : St}
theorem Bad.rd (h : Bad e s) : rdN X s.q s.e = (0, s.q, e) := by
  unfold rdN
  rw [h.is, if_pos h.ne]
theorem Bad.am (f : Ev → Int → Ev) (h : Bad e s) : Bad e (sAm X f s) := ⟨by show (rdN X s.q s.e).2.2 = e; rw [h.rd], h.ne⟩
theorem Bad.nu (h : Bad e s) : Bad e (sNu X s) := ⟨by show (rdN X s.q s.e).2.2 = e; rw [h.rd], h.ne⟩
theorem Bad.lt (t : Int) (h : Bad e s) : Bad e (sLt X t s) := ⟨by show (rdN X s.q s.e).2.2 = e; rw [h.rd], h.ne⟩
theorem Bad.fl (h : Bad e s) : Bad e (sFl X s) := ⟨by show (if 1 < (rdN X s.q s.e).1 then (4 : Int) else (rdN X s.q s.e).2.2) = e; rw [h.rd]; rfl, h.ne⟩
theorem Bad.tx (f : Ev → ByteArray → Ev) (h : Bad e s) : Bad e (sTx X f s) := by
  unfold sTx
  rw [if_pos (by rw [h.is]; exact h.ne)]
  exact h
theorem Bad.hd (was : List Hd) (h : Bad e s) : Bad e (sHd X was s) := by
  unfold sHd
  rw [if_pos (by rw [h.is]; exact h.ne)]
  exact h
theorem Bad.kd (h : Bad e s) : Bad e (sKd s) := by
  unfold sKd
  rw [if_neg (fun h9 => h.ne (h.is ▸ h9.1))]
  exact h
theorem Bad.vis (was : List Hd) (h : Bad e s) : Bad e (vis X was s) := by
  unfold Go.Proofs.Ytodncamohimmmaa.vis
  split
  · exact .hd _ (.tx _ (.tx _ (.tx _ (.tx _ (.am _ h)))))
  split
  · exact .hd _ (.tx _ (.tx _ (.tx _ (.nu (.fl (.am _ h))))))
  split
  · exact .hd _ (.tx _ (.am _ h))
  split
  · exact .nu h
  split
  · exact .am _ (.am _ h)
  · exact h
theorem Bad.fin {k : Bk} (h : Bad e s) : finS k s = errE k e := by
  unfold finS
  rw [if_pos (by rw [h.is]; exact h.ne), h.is]
variable {x : Ev} {q q' : Int} {t : List (List UInt8)} {a : Nat}
theorem rdN_zero : rdN X q 0 = take X q := if_neg fun h => h rfl
theorem am_bad (f : Ev → Int → Ev) (h : take X q = (a, q', e)) (he : e ≠ 0) : Bad e (sAm X f ⟨x, q, 0, t⟩) := ⟨by show (rdN X q 0).2.2 = e; rw [rdN_zero, h], he⟩
theorem nu_bad (h : take X q = (a, q', e)) (he : e ≠ 0) : Bad e (sNu X ⟨x, q, 0, t⟩) := ⟨by show (rdN X q 0).2.2 = e; rw [rdN_zero, h], he⟩
theorem lt_bad (c : Int) (h : take X q = (a, q', e)) (he : e ≠ 0) : Bad e (sLt X c ⟨x, q, 0, t⟩) := ⟨by show (rdN X q 0).2.2 = e; rw [rdN_zero, h], he⟩
theorem fl_bad (h : take X q = (a, q', e)) (he : e ≠ 0) : Bad e (sFl X ⟨x, q, 0, t⟩) := ⟨by
  show (if 1 < (rdN X q 0).1 then (4 : Int) else (rdN X q 0).2.2) = e
  have h0 := take_zero_bad (X := X) (p := q) (by rw [h]; exact he)
  rw [rdN_zero, h0, h]
  rfl, he⟩
theorem fl_four (h : take X q = (a, q', 0)) (ha : 1 < a) : Bad 4 (sFl X ⟨x, q, 0, t⟩) := ⟨by
  show (if 1 < (rdN X q 0).1 then (4 : Int) else (rdN X q 0).2.2) = 4
  rw [rdN_zero, h]
  exact if_pos ha, by decide⟩
theorem tx_bad (f : Ev → ByteArray → Ev) (h : (takeB t X q).2.2 ≠ 0) : Bad (takeB t X q).2.2 (sTx X f ⟨x, q, 0, t⟩) := ⟨rfl, h⟩
theorem hd_bad (was : List Hd) (h : (dtake t X q was).1.2.2 ≠ 0) : Bad (dtake t X q was).1.2.2 (sHd X was ⟨x, q, 0, t⟩) := ⟨rfl, h⟩
theorem am_ok (f : Ev → Int → Ev) (h : take X q = (a, q', 0)) : sAm X f ⟨x, q, 0, t⟩ = ⟨f x (amtI a), q', 0, t⟩ := by
  show (⟨f x (amtI (rdN X q 0).1), (rdN X q 0).2.1, (rdN X q 0).2.2, t⟩ : St) = _
  rw [rdN_zero, h]
theorem nu_ok (h : take X q = (a, q', 0)) : sNu X ⟨x, q, 0, t⟩ = ⟨{ x with n := a }, q', 0, t⟩ := by
  show (⟨{ x with n := (rdN X q 0).1 }, (rdN X q 0).2.1, (rdN X q 0).2.2, t⟩ : St) = _
  rw [rdN_zero, h]
theorem lt_ok (c : Int) (h : take X q = (a, q', 0)) : sLt X c ⟨x, q, 0, t⟩ = ⟨{ x with tick := aft c a }, q', 0, t⟩ := by
  show (⟨{ x with tick := aft c (rdN X q 0).1 }, (rdN X q 0).2.1, (rdN X q 0).2.2, t⟩ : St) = _
  rw [rdN_zero, h]
theorem fl_ok (h : take X q = (a, q', 0)) (ha : ¬ 1 < a) : sFl X ⟨x, q, 0, t⟩ = ⟨{ x with cred := decide (a = 1) }, q', 0, t⟩ := by
  show (⟨{ x with cred := decide ((rdN X q 0).1 = 1) }, (rdN X q 0).2.1, if 1 < (rdN X q 0).1 then 4 else (rdN X q 0).2.2, t⟩ : St) = _
  rw [rdN_zero, h]
  rw [if_neg ha]
theorem tx_ok (f : Ev → ByteArray → Ev) {u : List UInt8} (h : takeB t X q = (u, q', 0)) : sTx X f ⟨x, q, 0, t⟩ = ⟨f x (mk u), q', 0, takeL t X q⟩ := by
  show (⟨f x (mk (takeB t X q).1), (takeB t X q).2.1, (takeB t X q).2.2, takeL t X q⟩ : St) = _
  rw [h]
theorem hd_ok (was : List Hd) {hs : List Hd} {t' : List (List UInt8)} (h : dtake t X q was = ((hs, q', 0), t')) : sHd X was ⟨x, q, 0, t⟩ = ⟨{ x with hs := hs }, q', 0, t'⟩ := by
  show (⟨{ x with hs := (dtake t X q was).1.1 }, (dtake t X q was).1.2.1, (dtake t X q was).1.2.2, (dtake t X q was).2⟩ : St) = _
  rw [h]
end
section
variable {k : Bk} {X : List Int} {n : Nat} {c : Bool} {l : List Nat} {ls : List (List UInt8)} {q : Int} {j : Nat} {t : List (List UInt8)} {F : TookE}
theorem nsteps_more (s : NS) : nsteps X c s (j + 1) = nsteps X c (nstep X c s) j := by
  induction j with
  | zero => rfl
  | succ j ih => show nstep X c (nsteps X c s (j + 1)) = _; rw [ih]; rfl
theorem tsteps_more (s : TS) : tsteps X s (j + 1) = tsteps X (tstep X s) j := by
  induction j with
  | zero => rfl
  | succ j ih => show tstep X (tsteps X s (j + 1)) = _; rw [ih]; rfl
theorem tsteps_bad {s : TS} (h : s.e ≠ 0) : tsteps X s j = s := by
  induction j with
  | zero => rfl
  | succ j ih => show tstep X (tsteps X s j) = _; rw [ih]; exact tstep_bad h
theorem nt_bad {s : NS} (h : s.e ≠ 0) : ntakeE k X n s = errE k s.e := if_pos h
theorem nsteps_bad {s : NS} (h : s.e ≠ 0) : nsteps X c s j = s := nsteps_end (k := 0) h (Nat.zero_le _)
theorem num_more (hc : ¬ (c = true ∧ l.length = 3)) (bad : ∀ a q' e, take X q = (a, q', e) → e ≠ 0 → F = errE k e) (ok : ∀ a q', take X q = (a, q', 0) → ntakeE k X n (nsteps X c ⟨l ++ [a], q', 0⟩ j) = F) : ntakeE k X n (nsteps X c ⟨l, q, 0⟩ (j + 1)) = F := by
  obtain ⟨a, q', e, h⟩ : ∃ a q' e, take X q = (a, q', e) := ⟨_, _, _, rfl⟩
  rw [nsteps_more]
  by_cases he : e = 0
  · subst he
    rw [nstep_ok rfl h fun h9 => hc ⟨h9.1, h9.2.1⟩]
    exact ok a q' h
  · rw [nstep_e rfl h he, nsteps_bad he, nt_bad he]
    exact (bad a q' e h he).symm
theorem flag_more (hl : l.length = 3) (bad : ∀ a q' e, take X q = (a, q', e) → e ≠ 0 → F = errE k e) (four : ∀ a q', take X q = (a, q', 0) → 1 < a → F = errE k 4) (ok : ∀ a q', take X q = (a, q', 0) → ¬ 1 < a → ntakeE k X n (nsteps X true ⟨l ++ [a], q', 0⟩ j) = F) : ntakeE k X n (nsteps X true ⟨l, q, 0⟩ (j + 1)) = F := by
  obtain ⟨a, q', e, h⟩ : ∃ a q' e, take X q = (a, q', e) := ⟨_, _, _, rfl⟩
  rw [nsteps_more]
  by_cases he : e = 0
  · subst he
    by_cases ha : 1 < a
    · rw [nstep_four rfl h ⟨rfl, hl, ha⟩, nsteps_bad (show (4 : Int) ≠ 0 by decide), nt_bad (show (4 : Int) ≠ 0 by decide)]
      exact (four a q' h ha).symm
    · rw [nstep_ok rfl h fun h9 => ha h9.2.2]
      exact ok a q' h ha
  · rw [nstep_e rfl h he, nsteps_bad he, nt_bad he]
    exact (bad a q' e h he).symm
theorem num_end : ntakeE k X n (nsteps X c ⟨l, q, 0⟩ 0) = ttakeE k X n l (tsteps X ⟨[], q, 0, k.tab⟩ (manyT n)) := if_neg fun h => h rfl
theorem txt_more (bad : (takeB t X q).2.2 ≠ 0 → F = errE k (takeB t X q).2.2) (ok : ∀ u q', takeB t X q = (u, q', 0) → ttakeE k X n l (tsteps X ⟨ls ++ [u], q', 0, takeL t X q⟩ j) = F) : ttakeE k X n l (tsteps X ⟨ls, q, 0, t⟩ (j + 1)) = F := by
  obtain ⟨u, q', e, h⟩ : ∃ u q' e, takeB t X q = (u, q', e) := ⟨_, _, _, rfl⟩
  rw [tsteps_more]
  by_cases he : e = 0
  · subst he
    rw [tstep_ok rfl h rfl]
    exact ok u q' h
  · rw [tstep_e rfl h rfl he, tsteps_bad he]
    rw [h] at bad
    exact (if_pos he).trans (bad he).symm
theorem hds_more (hn : n ≤ 3) (bad : (dtake t X q (k.look (num9 l 0) (decide (n = 3)))).1.2.2 ≠ 0 → F = errE k (dtake t X q (k.look (num9 l 0) (decide (n = 3)))).1.2.2) (ok : ∀ hs q' t', dtake t X q (k.look (num9 l 0) (decide (n = 3))) = ((hs, q', 0), t') → finE k n l ls hs q' t' = F) : ttakeE k X n l (tsteps X ⟨ls, q, 0, t⟩ 0) = F := by
  obtain ⟨hs, q', e, t', h⟩ : ∃ hs q' e t', dtake t X q (k.look (num9 l 0) (decide (n = 3))) = ((hs, q', e), t') := ⟨_, _, _, _, rfl⟩
  show ttakeE k X n l ⟨ls, q, 0, t⟩ = F
  unfold ttakeE
  rw [if_neg (fun h => h rfl), if_pos hn]
  unfold htakeE
  show (if (dtake t X q (k.look (num9 l 0) (decide (n = 3)))).1.2.2 ≠ 0 then _ else finE k n l ls _ _ _) = F
  by_cases he : e = 0
  · subst he
    rw [h, if_neg (fun h => h rfl)]
    exact ok hs q' t' h
  · rw [h] at bad ⊢
    rw [if_pos he]
    exact (bad he).symm
theorem txt_end (hn : ¬ n ≤ 3) : ttakeE k X n l (tsteps X ⟨[], q, 0, t⟩ 0) = finE k n l [] [] q t := by
  show ttakeE k X n l ⟨[], q, 0, t⟩ = _
  unfold ttakeE
  rw [if_neg (fun h => h rfl), if_neg hn]
end
def Nr (v w : Int) : Prop := v = w ∨ (v = -1 ∧ 1099511627776 < w)
theorem nr_amt (a : Nat) : Nr (amtI a) a := by
  unfold Nr amtI
  split
  · exact .inl rfl
  · exact .inr ⟨rfl, by omega⟩
theorem nr_aft {t : Int} (a : Nat) : Nr (aft t a) (t + a) := by
  unfold Nr aft
  split
  · exact .inr ⟨rfl, by omega⟩
  · exact .inl rfl
theorem nr_same (a : Int) : Nr a a := .inl rfl
theorem look_amt {k : Bk} (hk : k.Ok) (a : Nat) (b : Bool) : k.look (amtI a) b = k.look a b := by
  unfold amtI
  split
  · rfl
  · rw [hk.out _ _ (.inl (by decide)), hk.out _ _ (.inr (by omega))]
theorem ev_same {x y : Ev} (h1 : x.kind = y.kind) (h2 : Nr x.ses y.ses) (h3 : Nr x.tick y.tick) (h4 : x.me = y.me) (h5 : x.url = y.url) (h6 : x.hs = y.hs) (h7 : x.body = y.body) (h8 : Nr x.status y.status) (h9 : Nr x.code y.code) (h10 : x.cred = y.cred) (h11 : x.no = y.no) (h12 : x.n = y.n) : x = y ∨ (¬ GoodE x ∧ ¬ GoodE y) := by
  obtain ⟨a1, a2, a3, a4, a5, a6, a7, a8, a9, a10, a11, a12⟩ := x
  obtain ⟨b1, b2, b3, b4, b5, b6, b7, b8, b9, b10, b11, b12⟩ := y
  simp only at h1 h2 h3 h4 h5 h6 h7 h8 h9 h10 h11 h12
  subst h1 h4 h5 h6 h7 h10 h11 h12
  rcases h2 with rfl | ⟨rfl, h2⟩
  · rcases h3 with rfl | ⟨rfl, h3⟩
    · rcases h8 with rfl | ⟨rfl, h8⟩
      · rcases h9 with rfl | ⟨rfl, h9⟩
        · exact .inl rfl
        · refine .inr ⟨fun h => ?_, fun h => ?_⟩
          all_goals
            have h0 := h.2
            unfold kindE okCode at h0
            simp only at h0
            omega
      · refine .inr ⟨fun h => ?_, fun h => ?_⟩
        all_goals
          have h0 := h.2
          unfold kindE at h0
          simp only at h0
          omega
    · refine .inr ⟨fun h => ?_, fun h => ?_⟩
      all_goals
        have h0 := h.1
        unfold BoundE at h0
        simp only at h0
        omega
  · refine .inr ⟨fun h => ?_, fun h => ?_⟩
    all_goals
      have h0 := h.1
      unfold BoundE at h0
      simp only at h0
      omega
theorem fin_same {k : Bk} {n : Nat} {l : List Nat} {ls : List (List UInt8)} {hs : List Hd} {q : Int} {t : List (List UInt8)} {x : Ev} (h : x = evOf k.tick n l ls hs ∨ (¬ GoodE x ∧ ¬ GoodE (evOf k.tick n l ls hs))) : finE k n l ls hs q t = finS k ⟨x, q, 0, t⟩ := by
  unfold finE finS
  rw [if_neg (show ¬ ((⟨x, q, 0, t⟩ : St).e ≠ 0) from fun h => h rfl)]
  rcases h with rfl | ⟨h1, h2⟩
  · rfl
  · rw [if_neg h1, if_neg h2]

def midE (n : Nat) (k : Bk) (a1 a2 : Nat) : Ev := ⟨n, amtI a1, aft k.tick a2, nil9, nil9, [], nil9, 0, 0, false, nil9, 0⟩
theorem takeE_run {k : Bk} (hk : k.Ok) (X : List Int) (p : Int) : takeE k X p = finS k (st5 k X p) := by
  obtain ⟨n, q1, e, h⟩ : ∃ n q1 e, take X p = (n, q1, e) := ⟨_, _, _, rfl⟩
  unfold takeE
  rw [h]
  by_cases he : e = 0
  · subst he
    rw [if_neg (fun h => h rfl)]
    have e1 : sAm X fKind ⟨zev, p, 0, k.tab⟩ = ⟨fKind zev (amtI n), q1, 0, k.tab⟩ := am_ok _ h
    by_cases hn : n < 1 ∨ 7 < n
    · rw [if_pos hn]
      have hb : Bad 4 (sKd (sAm X fKind ⟨zev, p, 0, k.tab⟩)) := by
        rw [e1]
        unfold sKd
        rw [if_pos ⟨rfl, show ¬ (1 ≤ amtI n ∧ amtI n ≤ 7) by unfold amtI; split <;> omega⟩]
        exact ⟨rfl, by decide⟩
      exact (Bad.fin (.vis _ (.lt _ (.am _ hb)))).symm
    · rw [if_neg hn]
      have e2 : sKd (sAm X fKind ⟨zev, p, 0, k.tab⟩) = ⟨fKind zev n, q1, 0, k.tab⟩ := by
        rw [e1, show amtI n = n from if_pos (by omega)]
        unfold sKd
        rw [if_neg (fun h => h.2 ⟨show (1 : Int) ≤ n by omega, show (n : Int) ≤ 7 by omega⟩)]
      obtain ⟨m, hm⟩ : ∃ m, manyN n = m + 2 := by
        unfold manyN
        split
        · exact ⟨3, rfl⟩
        split
        · exact ⟨0, rfl⟩
        split
        · exact ⟨2, rfl⟩
        · exact ⟨1, rfl⟩
      show ntakeE k X n (nsteps X (decide (n = 2)) ⟨[], q1, 0⟩ (manyN n)) = _
      rw [hm]
      refine num_more (by simp) (fun a q' e h he => ?_) fun a1 q2 hq1 => ?_
      · have hb : Bad e (sAm X fSes (sKd (sAm X fKind ⟨zev, p, 0, k.tab⟩))) := by
          rw [e2]
          exact am_bad _ h he
        exact (Bad.fin (.vis _ (.lt _ hb)))
      refine num_more (by simp) (fun a q' e h he => ?_) fun a2 q3 hq2 => ?_
      · have hb : Bad e (sLt X k.tick (sAm X fSes (sKd (sAm X fKind ⟨zev, p, 0, k.tab⟩)))) := by
          rw [e2, am_ok _ hq1]
          exact lt_bad _ h he
        exact (Bad.fin (.vis _ hb))
      have e4 : st4 k X p = ⟨midE n k a1 a2, q3, 0, k.tab⟩ := by
        unfold st4
        rw [e2, am_ok _ hq1, lt_ok _ hq2]
        rfl
      have e5 : st5 k X p = vis X (k.look a1 (decide (n = 3))) ⟨midE n k a1 a2, q3, 0, k.tab⟩ := by
        unfold st5
        rw [e4, show (midE n k a1 a2).ses = amtI a1 from rfl, look_amt hk]
        congr 2
        show decide ((n : Int) = 3) = _
        rw [Bool.eq_iff_iff]
        simp
        omega
      rw [e5]
      clear e1 e2 e4 e5 h hq1 hq2
      have hcase : n = 1 ∨ n = 2 ∨ n = 3 ∨ n = 4 ∨ n = 5 ∨ n = 6 ∨ n = 7 := by omega
      rcases hcase with rfl | rfl | rfl | rfl | rfl | rfl | rfl
      · have hm : m = 1 := by simpa [manyN] using hm.symm
        subst hm
        show _ = finS k (sHd X _ (sTx X fBody (sTx X fNo (sTx X fUrl (sTx X fMe (sAm X fCode _))))))
        refine num_more (by simp) (fun a q' e h he => Bad.fin (.hd _ (.tx _ (.tx _ (.tx _ (.tx _ (am_bad _ h he))))))) fun a3 q4 h3 => ?_
        rw [am_ok _ h3, num_end]
        refine txt_more (fun h => Bad.fin (.hd _ (.tx _ (.tx _ (.tx _ (tx_bad _ h)))))) fun u1 q5 h4 => ?_
        rw [tx_ok _ h4]
        refine txt_more (fun h => Bad.fin (.hd _ (.tx _ (.tx _ (tx_bad _ h))))) fun u2 q6 h5 => ?_
        rw [tx_ok _ h5]
        refine txt_more (fun h => Bad.fin (.hd _ (.tx _ (tx_bad _ h)))) fun u3 q7 h6 => ?_
        rw [tx_ok _ h6]
        refine txt_more (fun h => Bad.fin (.hd _ (tx_bad _ h))) fun u4 q8 h7 => ?_
        rw [tx_ok _ h7]
        refine hds_more (by decide) (fun h => Bad.fin (hd_bad _ h)) fun hs q9 t' h8 => ?_
        rw [hd_ok (k.look (a1 : Int) (decide ((1 : Nat) = 3))) h8]
        exact fin_same (ev_same rfl (nr_amt _) (nr_aft _) rfl rfl rfl rfl (nr_same _) (nr_amt _) rfl rfl rfl)
      · have hm : m = 3 := by simpa [manyN] using hm.symm
        subst hm
        show _ = finS k (sHd X _ (sTx X fBody (sTx X fUrl (sTx X fMe (sNu X (sFl X (sAm X fCode _)))))))
        refine num_more (by simp) (fun a q' e h he => Bad.fin (.hd _ (.tx _ (.tx _ (.tx _ (.nu (.fl (am_bad _ h he)))))))) fun a3 q4 h3 => ?_
        rw [am_ok _ h3]
        refine flag_more rfl (fun a q' e h he => Bad.fin (.hd _ (.tx _ (.tx _ (.tx _ (.nu (fl_bad h he))))))) (fun a q' h ha => Bad.fin (.hd _ (.tx _ (.tx _ (.tx _ (.nu (fl_four h ha))))))) fun a4 q4 h4 ha => ?_
        rw [fl_ok h4 ha]
        refine num_more (by simp) (fun a q' e h he => Bad.fin (.hd _ (.tx _ (.tx _ (.tx _ (nu_bad h he)))))) fun a5 q5 h5 => ?_
        rw [nu_ok h5, num_end]
        refine txt_more (fun h => Bad.fin (.hd _ (.tx _ (.tx _ (tx_bad _ h))))) fun u1 q6 h6 => ?_
        rw [tx_ok _ h6]
        refine txt_more (fun h => Bad.fin (.hd _ (.tx _ (tx_bad _ h)))) fun u2 q7 h7 => ?_
        rw [tx_ok _ h7]
        refine txt_more (fun h => Bad.fin (.hd _ (tx_bad _ h))) fun u3 q8 h8 => ?_
        rw [tx_ok _ h8]
        refine hds_more (by decide) (fun h => Bad.fin (hd_bad _ h)) fun hs q9 t' h9 => ?_
        rw [hd_ok (k.look (a1 : Int) (decide ((2 : Nat) = 3))) h9]
        exact fin_same (ev_same rfl (nr_amt _) (nr_aft _) rfl rfl rfl rfl (nr_same _) (nr_amt _) rfl rfl rfl)
      · have hm : m = 1 := by simpa [manyN] using hm.symm
        subst hm
        show _ = finS k (sHd X _ (sTx X fBody (sAm X fStat _)))
        refine num_more (by simp) (fun a q' e h he => Bad.fin (.hd _ (.tx _ (am_bad _ h he)))) fun a3 q4 h3 => ?_
        rw [am_ok _ h3, num_end]
        refine txt_more (fun h => Bad.fin (.hd _ (tx_bad _ h))) fun u1 q6 h6 => ?_
        rw [tx_ok _ h6]
        refine hds_more (by decide) (fun h => Bad.fin (hd_bad _ h)) fun hs q9 t' h9 => ?_
        rw [hd_ok (k.look (a1 : Int) (decide ((3 : Nat) = 3))) h9]
        exact fin_same (ev_same rfl (nr_amt _) (nr_aft _) rfl rfl rfl rfl (nr_amt _) (nr_same _) rfl rfl rfl)
      · have hm : m = 0 := by simpa [manyN] using hm.symm
        subst hm
        show _ = finS k _
        rw [num_end]
        refine (txt_end (by decide)).trans ?_
        exact fin_same (ev_same rfl (nr_amt _) (nr_aft _) rfl rfl rfl rfl (nr_same _) (nr_same _) rfl rfl rfl)
      · have hm : m = 1 := by simpa [manyN] using hm.symm
        subst hm
        show _ = finS k (sNu X _)
        refine num_more (by simp) (fun a q' e h he => Bad.fin (nu_bad h he)) fun a5 q5 h5 => ?_
        rw [nu_ok h5, num_end]
        refine (txt_end (by decide)).trans ?_
        exact fin_same (ev_same rfl (nr_amt _) (nr_aft _) rfl rfl rfl rfl (nr_same _) (nr_same _) rfl rfl rfl)
      · have hm : m = 1 := by simpa [manyN] using hm.symm
        subst hm
        show _ = finS k (sNu X _)
        refine num_more (by simp) (fun a q' e h he => Bad.fin (nu_bad h he)) fun a5 q5 h5 => ?_
        rw [nu_ok h5, num_end]
        refine (txt_end (by decide)).trans ?_
        exact fin_same (ev_same rfl (nr_amt _) (nr_aft _) rfl rfl rfl rfl (nr_same _) (nr_same _) rfl rfl rfl)
      · have hm : m = 2 := by simpa [manyN] using hm.symm
        subst hm
        show _ = finS k (sAm X fStat (sAm X fCode _))
        refine num_more (by simp) (fun a q' e h he => Bad.fin (.am _ (am_bad _ h he))) fun a3 q4 h3 => ?_
        rw [am_ok _ h3]
        refine num_more (by simp) (fun a q' e h he => Bad.fin (am_bad _ h he)) fun a5 q5 h5 => ?_
        rw [am_ok _ h5, num_end]
        refine (txt_end (by decide)).trans ?_
        exact fin_same (ev_same rfl (nr_amt _) (nr_aft _) rfl rfl rfl rfl (nr_amt _) (nr_amt _) rfl rfl rfl)
  · rw [if_pos he]
    exact (Bad.fin (.vis _ (.lt _ (.am _ (.kd (am_bad _ h he)))))).symm
end Go.Proofs.Ytodncamohimmmaa

namespace Go.Proofs.Ytodncamohimmmaa
open Go.RowKit Go.Lib Go.Maps Leb

section
variable {w1 : World} {b tb mb : Nat} {T0 L : Nat → Prop} {ks : List (Int × Bool)} {val : Int → Bool → Value} {k : Bk} {g h : Nat} {A : Option Addr} {n c : Nat} {wv : Value} {X : List Int} {s : St} {Ax : Option Addr} {m cx : Nat} {W W' w2 : World}
theorem RP.turnH (H : RP w1 b tb mb T0 L ks val k g h A n c wv s Ax m cx W) {x' : Ev} {q' e' : Int} {T' : List (List UInt8)} {T1 T2 : Nat → Prop} {v' : Value} (hB : BkP W b tb mb T1 L ks val { k with tab := s.t }) (hn : ∀ j, T1 j → T0 j ∨ w1.heap.size ≤ j) (h1 : ¬ T1 g) (h2 : ¬ T1 h)
    (hs : PStep W w2 tb T1 T2 T') (ha : Alt w2 W' (fun j => j = h ∨ j = g)) (hr : RdAt W' h A n c q' tb wv e') (hO : OwnsH w2 W.heap.size v' x'.hs) (hof : OffV T2 v') (hg : ∀ A' m' c', v' = .slice A' m' c' → W'.heap[g]? = some (.cells (ecell12 x' A' m' c') 25 (0, 0))) : ∃ A' m' c', RP w1 b tb mb T0 L ks val k g h A n c wv ⟨x', q', e', T'⟩ A' m' c' W' := by
  obtain ⟨l1, l2⟩ := H.lt
  obtain ⟨o1, o2, o3⟩ := H.old
  have hgw := H.gw
  have hhw := H.hw
  have hsz := H.size
  have hof9 : ∀ j, j < W.heap.size → ¬ T1 j → ¬ T2 j := fun j hj hk h9 => (hs.new j h9).elim hk fun h8 => by omega
  obtain ⟨A', c', ev, hH⟩ := hO.hds
  have hlow : ∀ q off, A' = some ⟨q, off, Option.none⟩ → 0 < x'.hs.length → W.heap.size ≤ q ∧ ¬ T2 q := fun q off e h0 => by
    have e9 : v'.ownBlock = some q := by rw [ev, e]; rfl
    exact ⟨(World.ownsRow.lt hO q e9).1, hof q e9⟩
  refine ⟨A', x'.hs.length, c', ⟨T2, (hB.turn hs).alt ha fun j hj e => ?_, fun j hj => (hs.new j hj).elim (hn j) fun h8 => .inr (Nat.le_trans hsz h8), hof9 g l1 h1, hof9 h l2 h2, ?_, fun q off e h0 => ?_⟩, (H.alt.trans hs.alt fun j hj hk => (hn j hk).resolve_right (by omega)).trans ha fun j hj e => by omega, hr, hg _ _ _ ev, hgw, hhw, H.gh, H.old⟩
  · rcases hj with h9 | h9 | h9 | h9
    · omega
    · rcases e with e | e
      · exact hof9 h l2 h2 (e ▸ h9)
      · exact hof9 g l1 h1 (e ▸ h9)
    · omega
    · have := o3 j h9
      omega
  · exact hH.alt ha fun q off e h0 h9 => by
      have := hlow q off e h0
      omega
  · obtain ⟨z1, z2⟩ := hlow q off e h0
    exact ⟨by omega, by omega, by omega, z2⟩
def RV (w1 : World) (b tb mb : Nat) (T0 L : Nat → Prop) (ks : List (Int × Bool)) (val : Int → Bool → Value) (k : Bk) (g h : Nat) (A : Option Addr) (n c : Nat) (wv : Value) (s : St) (W : World) : Prop := ∃ Ax m cx, RP w1 b tb mb T0 L ks val k g h A n c wv s Ax m cx W
theorem RV.st {kd : Int} (hk : s.x.kind = kd) : VSt g kd (RV w1 b tb mb T0 L ks val k g h A n c wv s) := ⟨fun W ⟨Ax, m, cx, hW⟩ => by rw [← hk]; exact hW.ev.c0, fun W ⟨Ax, m, cx, hW⟩ => ⟨Ax, m, cx, hW.later (Below.refl _ W).drew⟩⟩
set_option maxRecDepth 100000 in
theorem rv_amount8 (hX : Holds w1 A n c X) (ho : Off T0 A n) : VStep 96 (.pointer (some ⟨h, 0, Option.none⟩)) g "pursuivant/event.amount" 8 (RV w1 b tb mb T0 L ks val k g h A n c wv s) (RV w1 b tb mb T0 L ks val k g h A n c wv (sAm X fCode s)) := by
  refine ⟨fun W => by kernel_rfl, 42, .pointer (some ⟨h, 0, Option.none⟩), leads_of (fun W => by kernel_rfl) (fun vs W => by kernel_rfl), fun W hV => ?_⟩
  obtain ⟨Ax, m, cx, H⟩ := hV
  refine (rpc_amount H hX ho 8 s.x.code fCode rfl (fun v => by unfold ecell12 fCode; simp) (fun v => rfl)).mono ?_
  rintro e W' ⟨rfl, h'⟩
  exact ⟨rfl, _, _, _, h'⟩
set_option maxRecDepth 100000 in
theorem rv_amount7 (hX : Holds w1 A n c X) (ho : Off T0 A n) : VStep 96 (.pointer (some ⟨h, 0, Option.none⟩)) g "pursuivant/event.amount" 7 (RV w1 b tb mb T0 L ks val k g h A n c wv s) (RV w1 b tb mb T0 L ks val k g h A n c wv (sAm X fStat s)) := by
  refine ⟨fun W => by kernel_rfl, 42, .pointer (some ⟨h, 0, Option.none⟩), leads_of (fun W => by kernel_rfl) (fun vs W => by kernel_rfl), fun W hV => ?_⟩
  obtain ⟨Ax, m, cx, H⟩ := hV
  refine (rpc_amount H hX ho 7 s.x.status fStat rfl (fun v => by unfold ecell12 fStat; simp) (fun v => rfl)).mono ?_
  rintro e W' ⟨rfl, h'⟩
  exact ⟨rfl, _, _, _, h'⟩
set_option maxRecDepth 100000 in
theorem rv_flag9 (hX : Holds w1 A n c X) (ho : Off T0 A n) : VStep 96 (.pointer (some ⟨h, 0, Option.none⟩)) g "pursuivant/event.flag" 9 (RV w1 b tb mb T0 L ks val k g h A n c wv s) (RV w1 b tb mb T0 L ks val k g h A n c wv (sFl X s)) := by
  refine ⟨fun W => by kernel_rfl, 85, .pointer (some ⟨h, 0, Option.none⟩), leads_of (fun W => by kernel_rfl) (fun vs W => by kernel_rfl), fun W hV => ?_⟩
  obtain ⟨Ax, m, cx, H⟩ := hV
  refine (rpc_flag H hX ho).mono ?_
  rintro e W' ⟨rfl, h'⟩
  exact ⟨rfl, _, _, _, h'⟩
set_option maxRecDepth 100000 in
theorem rv_number11 (hX : Holds w1 A n c X) (ho : Off T0 A n) (h0 : s.x.n = 0) : VStep 96 (.pointer (some ⟨h, 0, Option.none⟩)) g "pursuivant/event.number" 11 (RV w1 b tb mb T0 L ks val k g h A n c wv s) (RV w1 b tb mb T0 L ks val k g h A n c wv (sNu X s)) := by
  refine ⟨fun W => by kernel_rfl, 44, .pointer (some ⟨h, 0, Option.none⟩), leads_of (fun W => by kernel_rfl) (fun vs W => by kernel_rfl), fun W hV => ?_⟩
  obtain ⟨Ax, m, cx, H⟩ := hV
  refine (rpc_number H hX ho h0).mono ?_
  rintro e W' ⟨rfl, h'⟩
  exact ⟨rfl, _, _, _, h'⟩
set_option maxRecDepth 100000 in
theorem rv_text3 (hX : Holds w1 A n c X) (ho : Off T0 A n) (hn : n ≤ 900000000) (hT : s.t.length ≤ 300000) : VStep 96 (.pointer (some ⟨h, 0, Option.none⟩)) g "pursuivant/event.text" 3 (RV w1 b tb mb T0 L ks val k g h A n c wv s) (RV w1 b tb mb T0 L ks val k g h A n c wv (sTx X fMe s)) := by
  refine ⟨fun W => by kernel_rfl, 87, .pointer (some ⟨h, 0, Option.none⟩), leads_of (fun W => by kernel_rfl) (fun vs W => by kernel_rfl), fun W hV => ?_⟩
  obtain ⟨Ax, m, cx, H⟩ := hV
  refine (rpc_text H hX ho hn hT 3 s.x.me fMe rfl (fun v => by unfold ecell12 fMe; simp) (fun v => rfl)).mono ?_
  rintro e W' ⟨rfl, h'⟩
  exact ⟨rfl, _, _, _, h'⟩
set_option maxRecDepth 100000 in
theorem rv_text4 (hX : Holds w1 A n c X) (ho : Off T0 A n) (hn : n ≤ 900000000) (hT : s.t.length ≤ 300000) : VStep 96 (.pointer (some ⟨h, 0, Option.none⟩)) g "pursuivant/event.text" 4 (RV w1 b tb mb T0 L ks val k g h A n c wv s) (RV w1 b tb mb T0 L ks val k g h A n c wv (sTx X fUrl s)) := by
  refine ⟨fun W => by kernel_rfl, 87, .pointer (some ⟨h, 0, Option.none⟩), leads_of (fun W => by kernel_rfl) (fun vs W => by kernel_rfl), fun W hV => ?_⟩
  obtain ⟨Ax, m, cx, H⟩ := hV
  refine (rpc_text H hX ho hn hT 4 s.x.url fUrl rfl (fun v => by unfold ecell12 fUrl; simp) (fun v => rfl)).mono ?_
  rintro e W' ⟨rfl, h'⟩
  exact ⟨rfl, _, _, _, h'⟩
set_option maxRecDepth 100000 in
theorem rv_text10 (hX : Holds w1 A n c X) (ho : Off T0 A n) (hn : n ≤ 900000000) (hT : s.t.length ≤ 300000) : VStep 96 (.pointer (some ⟨h, 0, Option.none⟩)) g "pursuivant/event.text" 10 (RV w1 b tb mb T0 L ks val k g h A n c wv s) (RV w1 b tb mb T0 L ks val k g h A n c wv (sTx X fNo s)) := by
  refine ⟨fun W => by kernel_rfl, 87, .pointer (some ⟨h, 0, Option.none⟩), leads_of (fun W => by kernel_rfl) (fun vs W => by kernel_rfl), fun W hV => ?_⟩
  obtain ⟨Ax, m, cx, H⟩ := hV
  refine (rpc_text H hX ho hn hT 10 s.x.no fNo rfl (fun v => by unfold ecell12 fNo; simp) (fun v => rfl)).mono ?_
  rintro e W' ⟨rfl, h'⟩
  exact ⟨rfl, _, _, _, h'⟩
set_option maxRecDepth 100000 in
theorem rv_text6 (hX : Holds w1 A n c X) (ho : Off T0 A n) (hn : n ≤ 900000000) (hT : s.t.length ≤ 300000) : VStep 96 (.pointer (some ⟨h, 0, Option.none⟩)) g "pursuivant/event.text" 6 (RV w1 b tb mb T0 L ks val k g h A n c wv s) (RV w1 b tb mb T0 L ks val k g h A n c wv (sTx X fBody s)) := by
  refine ⟨fun W => by kernel_rfl, 87, .pointer (some ⟨h, 0, Option.none⟩), leads_of (fun W => by kernel_rfl) (fun vs W => by kernel_rfl), fun W hV => ?_⟩
  obtain ⟨Ax, m, cx, H⟩ := hV
  refine (rpc_text H hX ho hn hT 6 s.x.body fBody rfl (fun v => by unfold ecell12 fBody; simp) (fun v => rfl)).mono ?_
  rintro e W' ⟨rfl, h'⟩
  exact ⟨rfl, _, _, _, h'⟩
end
section
variable {w1 : World} {b tb mb : Nat} {T0 L : Nat → Prop} {ks : List (Int × Bool)} {val : Int → Bool → Value} {k : Bk} {g h : Nat} {A : Option Addr} {n c : Nat} {Aw : Option Addr} {nw cw : Nat} {was : List Hd} {X : List Int} {s : St} {Ax : Option Addr} {m cx : Nat} {W W' w2 : World}
theorem rpc_headers (H : RP w1 b tb mb T0 L ks val k g h A n c (.slice Aw nw cw) s Ax m cx W) (hX : Holds w1 A n c X) (ho : Off T0 A n) (hn : n ≤ 900000000) (hT : s.t.length ≤ 300000) (hw : HdO w1 Aw nw cw was T0) (hnw : nw ≤ 25) :
    Calls Try.prog 86 #[.pointer (some ⟨h, 0, Option.none⟩), .pointer (some ⟨g, 5, Option.none⟩)] W fun en W' => en = .returned (.tuple #[]) ∧ RV w1 b tb mb T0 L ks val k g h A n c (.slice Aw nw cw) (sHd X was s) W' := by
  by_cases hz : s.e = 0
  · obtain ⟨T1, hB, hn1, h1, h2, hx, hx2⟩ := H.ex
    have hr0 := H.rd
    rw [hz] at hr0
    have hw' := hw.step H.alt hn1
    have hX' : Off T1 A n := fun q off e h0 h9 => (hn1 q h9).elim (ho q off e h0) fun h8 => by
      have h7 := hX
      rw [e] at h7
      have := h7.block h0
      omega
    refine (rheaders_ok h A n c X s.q tb s.t T1 Aw nw cw was g 5 _ _ Ax m cx W hr0 (H.holds hX ho) hB.tab hT (by omega) hw'.rd (by omega) hw'.off hX' H.bg rfl H.gh h2 h1).mono ?_
    rintro en W' ⟨rfl, w2, T2, v, hs, hO, hof, hr, hg, ha⟩
    rw [show sHd X was s = _ from if_neg (fun h9 => h9 hz)]
    exact ⟨rfl, H.turnH hB hn1 h1 h2 hs ha hr hO hof fun A' m' c' e => by
      subst e
      rw [hg]
      unfold ecell12
      simp⟩
  · refine (rheaders_no h A n c s.q tb (.slice Aw nw cw) s.e g 5 W H.rd hz).mono ?_
    rintro en W' ⟨rfl, rfl⟩
    rw [show sHd X was s = s from if_pos hz]
    exact ⟨rfl, _, _, _, H⟩
set_option maxRecDepth 100000 in
theorem rv_headers5 (hX : Holds w1 A n c X) (ho : Off T0 A n) (hn : n ≤ 900000000) (hT : s.t.length ≤ 300000) (hw : HdO w1 Aw nw cw was T0) (hnw : nw ≤ 25) : VStep 96 (.pointer (some ⟨h, 0, Option.none⟩)) g "pursuivant/event.headers" 5 (RV w1 b tb mb T0 L ks val k g h A n c (.slice Aw nw cw) s) (RV w1 b tb mb T0 L ks val k g h A n c (.slice Aw nw cw) (sHd X was s)) := by
  refine ⟨fun W => by kernel_rfl, 86, .pointer (some ⟨h, 0, Option.none⟩), leads_of (fun W => by kernel_rfl) (fun vs W => by kernel_rfl), fun W hV => ?_⟩
  obtain ⟨Ax, m, cx, H⟩ := hV
  exact rpc_headers H hX ho hn hT hw hnw
theorem sTx_kind (f : Ev → ByteArray → Ev) (hf : ∀ x v, (f x v).kind = x.kind) : (sTx X f s).x.kind = s.x.kind := by
  unfold sTx
  split
  · rfl
  · exact hf _ _
theorem sTx_len (f : Ev → ByteArray → Ev) : (sTx X f s).t.length ≤ s.t.length + 1 := by
  unfold sTx
  split
  · omega
  · exact takeL_len _ _ _
theorem sHd_kind : (sHd X was s).x.kind = s.x.kind := by
  unfold sHd
  split <;> rfl
theorem visitR_any (hX : Holds w1 A n c X) (ho : Off T0 A n) (hn : n ≤ 900000000) (hw : HdO w1 Aw nw cw was T0) (hnw : nw ≤ 25) (hT : s.t.length ≤ 200000) (h0 : s.x.n = 0) (hV : RV w1 b tb mb T0 L ks val k g h A n c (.slice Aw nw cw) s W) :
    Calls Try.prog 35 #[.pointer (some ⟨g, 0, Option.none⟩), .iface 96 (.pointer (some ⟨h, 0, Option.none⟩))] W fun e W' => e = .returned (.tuple #[]) ∧ RV w1 b tb mb T0 L ks val k g h A n c (.slice Aw nw cw) (vis X was s) W' := by
  by_cases k1 : s.x.kind = 1
  · have q0 := k1
    have hT0 : s.t.length ≤ 200000 := hT
    have q1 : (sAm X fCode s).x.kind = 1 := q0
    have hT1 : (sAm X fCode s).t.length ≤ 200000 := hT0
    have q2 : (sTx X fMe (sAm X fCode s)).x.kind = 1 := (sTx_kind (s := (sAm X fCode s)) fMe fun _ _ => rfl).trans q1
    have z2 := sTx_len (X := X) (s := (sAm X fCode s)) fMe
    have hT2 : (sTx X fMe (sAm X fCode s)).t.length ≤ 200001 := by omega
    have q3 : (sTx X fUrl (sTx X fMe (sAm X fCode s))).x.kind = 1 := (sTx_kind (s := (sTx X fMe (sAm X fCode s))) fUrl fun _ _ => rfl).trans q2
    have z3 := sTx_len (X := X) (s := (sTx X fMe (sAm X fCode s))) fUrl
    have hT3 : (sTx X fUrl (sTx X fMe (sAm X fCode s))).t.length ≤ 200002 := by omega
    have q4 : (sTx X fNo (sTx X fUrl (sTx X fMe (sAm X fCode s)))).x.kind = 1 := (sTx_kind (s := (sTx X fUrl (sTx X fMe (sAm X fCode s)))) fNo fun _ _ => rfl).trans q3
    have z4 := sTx_len (X := X) (s := (sTx X fUrl (sTx X fMe (sAm X fCode s)))) fNo
    have hT4 : (sTx X fNo (sTx X fUrl (sTx X fMe (sAm X fCode s)))).t.length ≤ 200003 := by omega
    have q5 : (sTx X fBody (sTx X fNo (sTx X fUrl (sTx X fMe (sAm X fCode s))))).x.kind = 1 := (sTx_kind (s := (sTx X fNo (sTx X fUrl (sTx X fMe (sAm X fCode s))))) fBody fun _ _ => rfl).trans q4
    have z5 := sTx_len (X := X) (s := (sTx X fNo (sTx X fUrl (sTx X fMe (sAm X fCode s))))) fBody
    have hT5 : (sTx X fBody (sTx X fNo (sTx X fUrl (sTx X fMe (sAm X fCode s))))).t.length ≤ 200004 := by omega
    have q6 : (sHd X was (sTx X fBody (sTx X fNo (sTx X fUrl (sTx X fMe (sAm X fCode s)))))).x.kind = 1 := (sHd_kind (s := (sTx X fBody (sTx X fNo (sTx X fUrl (sTx X fMe (sAm X fCode s))))))).trans q5
    have e9 : vis X was s = (sHd X was (sTx X fBody (sTx X fNo (sTx X fUrl (sTx X fMe (sAm X fCode s)))))) := by
      unfold vis
      rw [if_pos k1]
    rw [e9]
    exact visit_1 96 (.pointer (some ⟨h, 0, Option.none⟩)) g _ _ _ _ _ _ _ W hV (RV.st q0) (RV.st q1) (RV.st q2) (RV.st q3) (RV.st q4) (RV.st q5) (RV.st q6) (rv_amount8 hX ho) (rv_text3 hX ho hn (Nat.le_trans hT1 (by decide))) (rv_text4 hX ho hn (Nat.le_trans hT2 (by decide))) (rv_text10 hX ho hn (Nat.le_trans hT3 (by decide))) (rv_text6 hX ho hn (Nat.le_trans hT4 (by decide))) (rv_headers5 hX ho hn (Nat.le_trans hT5 (by decide)) hw hnw)
  by_cases k2 : s.x.kind = 2
  · have q0 := k2
    have hT0 : s.t.length ≤ 200000 := hT
    have q1 : (sAm X fCode s).x.kind = 2 := q0
    have hT1 : (sAm X fCode s).t.length ≤ 200000 := hT0
    have q2 : (sFl X (sAm X fCode s)).x.kind = 2 := q1
    have hT2 : (sFl X (sAm X fCode s)).t.length ≤ 200000 := hT1
    have q3 : (sNu X (sFl X (sAm X fCode s))).x.kind = 2 := q2
    have hT3 : (sNu X (sFl X (sAm X fCode s))).t.length ≤ 200000 := hT2
    have q4 : (sTx X fMe (sNu X (sFl X (sAm X fCode s)))).x.kind = 2 := (sTx_kind (s := (sNu X (sFl X (sAm X fCode s)))) fMe fun _ _ => rfl).trans q3
    have z4 := sTx_len (X := X) (s := (sNu X (sFl X (sAm X fCode s)))) fMe
    have hT4 : (sTx X fMe (sNu X (sFl X (sAm X fCode s)))).t.length ≤ 200001 := by omega
    have q5 : (sTx X fUrl (sTx X fMe (sNu X (sFl X (sAm X fCode s))))).x.kind = 2 := (sTx_kind (s := (sTx X fMe (sNu X (sFl X (sAm X fCode s))))) fUrl fun _ _ => rfl).trans q4
    have z5 := sTx_len (X := X) (s := (sTx X fMe (sNu X (sFl X (sAm X fCode s))))) fUrl
    have hT5 : (sTx X fUrl (sTx X fMe (sNu X (sFl X (sAm X fCode s))))).t.length ≤ 200002 := by omega
    have q6 : (sTx X fBody (sTx X fUrl (sTx X fMe (sNu X (sFl X (sAm X fCode s)))))).x.kind = 2 := (sTx_kind (s := (sTx X fUrl (sTx X fMe (sNu X (sFl X (sAm X fCode s)))))) fBody fun _ _ => rfl).trans q5
    have z6 := sTx_len (X := X) (s := (sTx X fUrl (sTx X fMe (sNu X (sFl X (sAm X fCode s)))))) fBody
    have hT6 : (sTx X fBody (sTx X fUrl (sTx X fMe (sNu X (sFl X (sAm X fCode s)))))).t.length ≤ 200003 := by omega
    have q7 : (sHd X was (sTx X fBody (sTx X fUrl (sTx X fMe (sNu X (sFl X (sAm X fCode s))))))).x.kind = 2 := (sHd_kind (s := (sTx X fBody (sTx X fUrl (sTx X fMe (sNu X (sFl X (sAm X fCode s)))))))).trans q6
    have e9 : vis X was s = (sHd X was (sTx X fBody (sTx X fUrl (sTx X fMe (sNu X (sFl X (sAm X fCode s))))))) := by
      unfold vis
      rw [if_neg k1, if_pos k2]
    rw [e9]
    exact visit_2 96 (.pointer (some ⟨h, 0, Option.none⟩)) g _ _ _ _ _ _ _ _ W hV (RV.st q0) (RV.st q1) (RV.st q2) (RV.st q3) (RV.st q4) (RV.st q5) (RV.st q6) (RV.st q7) (rv_amount8 hX ho) (rv_flag9 hX ho) (rv_number11 hX ho h0) (rv_text3 hX ho hn (Nat.le_trans hT3 (by decide))) (rv_text4 hX ho hn (Nat.le_trans hT4 (by decide))) (rv_text6 hX ho hn (Nat.le_trans hT5 (by decide))) (rv_headers5 hX ho hn (Nat.le_trans hT6 (by decide)) hw hnw)
  by_cases k3 : s.x.kind = 3
  · have q0 := k3
    have hT0 : s.t.length ≤ 200000 := hT
    have q1 : (sAm X fStat s).x.kind = 3 := q0
    have hT1 : (sAm X fStat s).t.length ≤ 200000 := hT0
    have q2 : (sTx X fBody (sAm X fStat s)).x.kind = 3 := (sTx_kind (s := (sAm X fStat s)) fBody fun _ _ => rfl).trans q1
    have z2 := sTx_len (X := X) (s := (sAm X fStat s)) fBody
    have hT2 : (sTx X fBody (sAm X fStat s)).t.length ≤ 200001 := by omega
    have q3 : (sHd X was (sTx X fBody (sAm X fStat s))).x.kind = 3 := (sHd_kind (s := (sTx X fBody (sAm X fStat s)))).trans q2
    have e9 : vis X was s = (sHd X was (sTx X fBody (sAm X fStat s))) := by
      unfold vis
      rw [if_neg k1, if_neg k2, if_pos k3]
    rw [e9]
    exact visit_3 96 (.pointer (some ⟨h, 0, Option.none⟩)) g _ _ _ _ W hV (RV.st q0) (RV.st q1) (RV.st q2) (RV.st q3) (rv_amount7 hX ho) (rv_text6 hX ho hn (Nat.le_trans hT1 (by decide))) (rv_headers5 hX ho hn (Nat.le_trans hT2 (by decide)) hw hnw)
  by_cases k5 : s.x.kind = 5
  · have q0 := k5
    have hT0 : s.t.length ≤ 200000 := hT
    have q1 : (sNu X s).x.kind = 5 := q0
    have hT1 : (sNu X s).t.length ≤ 200000 := hT0
    have e9 : vis X was s = (sNu X s) := by
      unfold vis
      rw [if_neg k1, if_neg k2, if_neg k3, if_pos (.inl k5)]
    rw [e9]
    exact visit_5 96 (.pointer (some ⟨h, 0, Option.none⟩)) g _ _ W hV (RV.st q0) (RV.st q1) (rv_number11 hX ho h0)
  by_cases k6 : s.x.kind = 6
  · have q0 := k6
    have hT0 : s.t.length ≤ 200000 := hT
    have q1 : (sNu X s).x.kind = 6 := q0
    have hT1 : (sNu X s).t.length ≤ 200000 := hT0
    have e9 : vis X was s = (sNu X s) := by
      unfold vis
      rw [if_neg k1, if_neg k2, if_neg k3, if_pos (.inr k6)]
    rw [e9]
    exact visit_6 96 (.pointer (some ⟨h, 0, Option.none⟩)) g _ _ W hV (RV.st q0) (RV.st q1) (rv_number11 hX ho h0)
  by_cases k7 : s.x.kind = 7
  · have q0 := k7
    have hT0 : s.t.length ≤ 200000 := hT
    have q1 : (sAm X fCode s).x.kind = 7 := q0
    have hT1 : (sAm X fCode s).t.length ≤ 200000 := hT0
    have q2 : (sAm X fStat (sAm X fCode s)).x.kind = 7 := q1
    have hT2 : (sAm X fStat (sAm X fCode s)).t.length ≤ 200000 := hT1
    have e9 : vis X was s = (sAm X fStat (sAm X fCode s)) := by
      unfold vis
      rw [if_neg k1, if_neg k2, if_neg k3, if_neg (by omega), if_pos k7]
    rw [e9]
    exact visit_7 96 (.pointer (some ⟨h, 0, Option.none⟩)) g _ _ _ W hV (RV.st q0) (RV.st q1) (RV.st q2) (rv_amount8 hX ho) (rv_amount7 hX ho)
  have e9 : vis X was s = s := by
    unfold vis
    rw [if_neg k1, if_neg k2, if_neg k3, if_neg (by omega), if_neg k7]
  rw [e9]
  refine (visit_none 96 (.pointer (some ⟨h, 0, Option.none⟩)) g s.x.kind W ((RV.st rfl).kind W hV) (by omega)).mono ?_
  rintro e W' ⟨rfl, rfl⟩
  exact ⟨rfl, hV⟩
end
end Go.Proofs.Ytodncamohimmmaa
