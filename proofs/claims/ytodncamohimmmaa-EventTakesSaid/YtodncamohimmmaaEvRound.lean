/-
  An event that was put is taken again, and what was taken was put so (layer 21). No program is spoken of; no condition beyond those that each theorem states.
-/
import Derived.Test.YtodncamohimmmaaLow3
namespace Go.Proofs.Ytodncamohimmmaa
open Go.Lib Leb

theorem encs_append (a b : List Nat) : encs (a ++ b) = encs a ++ encs b := by simp [encs]
theorem encs_one (a : Nat) : encs [a] = enc a := by simp [encs]
theorem putsB_append : ∀ (l a ss : List (List UInt8)), putsB l (a ++ ss) = putsB l a ++ putsB (putsL l a) ss := by
  intro l a
  induction a generalizing l with
  | nil => intro ss; simp [putsB, putsL]
  | cons x a ih => intro ss; show putB l x ++ putsB (putL l x) (a ++ ss) = _; rw [ih (putL l x) ss]; simp [putsB, putsL]

theorem nsteps_put (l : List Nat) (c : Bool) (P R : List Int) (hl : ∀ a ∈ l, a < 18446744073709551616) (hc : c = true → ∀ a, l[3]? = some a → a ≤ 1) :
    ∀ k, k ≤ l.length → nsteps (P ++ encs l ++ R) c ⟨[], P.length, 0⟩ k = ⟨l.take k, ((P ++ encs (l.take k)).length : Int), 0⟩ := by
  intro k
  induction k with
  | zero => intro _; simp [nsteps, encs]
  | succ k ih =>
    intro hk
    show nstep _ _ (nsteps _ _ _ k) = _
    rw [ih (by omega)]
    obtain ⟨a, ha⟩ : ∃ a, l[k]? = some a := ⟨_, List.getElem?_eq_getElem (by omega)⟩
    have e1 : l.take (k + 1) = l.take k ++ [a] := by rw [List.take_add_one, ha]; rfl
    have e2 : encs l = encs (l.take k) ++ (enc a ++ encs (l.drop (k + 1))) := by
      rw [← encs_one a, ← List.append_assoc, ← encs_append, ← e1, ← encs_append, List.take_append_drop]
    have h1 := take_enc (P ++ encs (l.take k)) (encs (l.drop (k + 1)) ++ R) (n := a) (hl a (List.mem_of_getElem? ha))
    have e3 : P ++ encs l ++ R = P ++ encs (l.take k) ++ enc a ++ (encs (l.drop (k + 1)) ++ R) := by rw [e2]; simp
    rw [← e3] at h1
    rw [nstep_ok rfl h1 (fun h => by
      have h3 : (l.take k).length = 3 := h.2.1
      rw [List.length_take] at h3
      have hk3 : k = 3 := by omega
      subst hk3
      have := hc h.1 a ha
      omega)]
    rw [e1, encs_append, encs_one]
    simp only [List.append_assoc]

theorem tsteps_put (T ss : List (List UInt8)) (P R : List Int) (hT : T.length + ss.length < 18446744073709551616) (hs : ∀ s ∈ ss, s.length ≤ 2048) :
    ∀ k, k ≤ ss.length → tsteps (P ++ putsB T ss ++ R) ⟨[], P.length, 0, T⟩ k = ⟨ss.take k, ((P ++ putsB T (ss.take k)).length : Int), 0, putsL T (ss.take k)⟩ := by
  intro k
  induction k with
  | zero => intro _; simp [tsteps, putsB, putsL]
  | succ k ih =>
    intro hk
    show tstep _ (tsteps _ _ k) = _
    rw [ih (by omega)]
    obtain ⟨s, hsk⟩ : ∃ s, ss[k]? = some s := ⟨_, List.getElem?_eq_getElem (by omega)⟩
    have e1 : ss.take (k + 1) = ss.take k ++ [s] := by rw [List.take_add_one, hsk]; rfl
    have hW := putsL_len T (ss.take k)
    rw [List.length_take] at hW
    have h1 := takeB_put (putsL T (ss.take k)) s (P ++ putsB T (ss.take k)) (putsB (putsL T (ss.take (k + 1))) (ss.drop (k + 1)) ++ R) (by omega) (hs s (List.mem_of_getElem? hsk))
    have e2 : putsB T ss = putsB T (ss.take k) ++ (putB (putsL T (ss.take k)) s ++ putsB (putsL T (ss.take (k + 1))) (ss.drop (k + 1))) := by
      rw [← List.append_assoc, ← putsB_snoc, ← e1, ← putsB_append, List.take_append_drop]
    have e3 : P ++ putsB T ss ++ R = P ++ putsB T (ss.take k) ++ putB (putsL T (ss.take k)) s ++ (putsB (putsL T (ss.take (k + 1))) (ss.drop (k + 1)) ++ R) := by rw [e2]; simp
    rw [← e3] at h1
    rw [tstep_ok rfl h1.1 h1.2, e1, putsB_snoc, putsL_snoc]
    simp only [List.append_assoc]

theorem GoodE.many {x : Ev} (h : GoodE x) (k : Bk) : manyN x.kind.toNat = (numsE k x).length ∧ manyT x.kind.toNat = (textsE x).length := by
  rcases h.kinds with e | e | e | e | e | e | e <;> simp [manyN, manyT, numsE, fieldsE, textsE, e]
theorem GoodE.is {x : Ev} (h : GoodE x) {k : Bk} (hk : k.tick ≤ x.tick) : evOf k.tick x.kind.toNat (numsE k x) (textsE x) x.hs = x := by
  obtain ⟨⟨b1, _, b3, _⟩, hq⟩ := h
  obtain ⟨kind, ses, tick, me, url, hs', body, status, code, cred, no, n⟩ := x
  simp only at *
  obtain ⟨S, rfl⟩ : ∃ S : Nat, ses = S := ⟨ses.toNat, by omega⟩
  obtain ⟨T, rfl⟩ : ∃ T : Nat, tick = k.tick + T := ⟨(tick - k.tick).toNat, by omega⟩
  have hT : k.tick + (T : Int) - k.tick = T := by omega
  clear b1 b3 hk
  unfold kindE bareE at hq
  simp only at hq
  rcases hq with ⟨rfl, hc, rfl, rfl, rfl⟩ | ⟨rfl, hc, rfl, rfl⟩ | ⟨rfl, hc, rfl, rfl, rfl, rfl, rfl, rfl⟩ | ⟨rfl, ⟨rfl, rfl, rfl, rfl, rfl, rfl⟩, rfl, rfl, rfl⟩ | ⟨rfl, ⟨rfl, rfl, rfl, rfl, rfl, rfl⟩, rfl, rfl, _, _⟩ | ⟨rfl, ⟨rfl, rfl, rfl, rfl, rfl, rfl⟩, rfl, rfl⟩ | ⟨rfl, ⟨rfl, rfl, rfl, rfl, rfl, rfl⟩, hc, hs2, rfl⟩
  · obtain ⟨c, rfl⟩ : ∃ c : Nat, code = c := ⟨code.toNat, by have := hc.1; omega⟩
    simp [evOf, numsE, fieldsE, textsE, num9, text9, hT]
  · obtain ⟨c, rfl⟩ : ∃ c : Nat, code = c := ⟨code.toNat, by omega⟩
    cases cred <;> simp [evOf, numsE, fieldsE, textsE, num9, text9, hT]
  · obtain ⟨c, rfl⟩ : ∃ c : Nat, status = c := ⟨status.toNat, by omega⟩
    simp [evOf, numsE, fieldsE, textsE, num9, text9, hT]
  · simp [evOf, numsE, fieldsE, num9, hT]
  · simp [evOf, numsE, fieldsE, num9, hT]
  · simp [evOf, numsE, fieldsE, num9, hT]
  · obtain ⟨c, rfl⟩ : ∃ c : Nat, code = c := ⟨code.toNat, by omega⟩
    obtain ⟨d, rfl⟩ : ∃ c : Nat, status = c := ⟨status.toNat, by omega⟩
    simp [evOf, numsE, fieldsE, num9, hT]

theorem GoodE.small {x : Ev} (h : GoodE x) : ∀ s ∈ textsE x, s.length ≤ 2048 := by
  obtain ⟨_, _, _, _, b5, b6, b7, b8, _, _⟩ := h.1
  have e : ∀ y : ByteArray, y.data.toList.length = y.size := fun y => Array.length_toList
  intro s hs
  unfold textsE at hs
  split at hs
  · simp only [List.mem_cons, List.not_mem_nil, or_false] at hs
    rcases hs with rfl | rfl | rfl | rfl <;> rw [e] <;> omega
  · split at hs
    · simp only [List.mem_cons, List.not_mem_nil, or_false] at hs
      rcases hs with rfl | rfl | rfl <;> rw [e] <;> omega
    · split at hs
      · simp only [List.mem_cons, List.not_mem_nil, or_false] at hs
        rcases hs with rfl
        rw [e]; omega
      · cases hs
theorem GoodE.nums {x : Ev} (h : GoodE x) (hn : x.n < 18446744073709551616) {k : Bk} (hk : k.Ok) : (∀ a ∈ numsE k x, a < 18446744073709551616) ∧ (decide (x.kind.toNat = 2) = true → ∀ a, (numsE k x)[3]? = some a → a ≤ 1) := by
  obtain ⟨⟨b1, b2, b3, b4, _⟩, hq⟩ := h
  have h0 := hk.low
  unfold kindE okCode at hq
  constructor
  · intro a ha
    unfold numsE fieldsE at ha
    rcases hq with ⟨g, hc, _⟩ | ⟨g, hc, _⟩ | ⟨g, hc, _⟩ | ⟨g, _⟩ | ⟨g, _, _, _, hc, _⟩ | ⟨g, _⟩ | ⟨g, _, hc, hd, _⟩ <;> rw [g] at ha <;> simp only [Int.reduceEq, if_true, if_false, List.mem_cons, List.not_mem_nil, or_false, or_true, or_self] at ha
    · rcases ha with rfl | rfl | rfl <;> omega
    · rcases ha with rfl | rfl | rfl | rfl | rfl
      · omega
      · omega
      · omega
      · split <;> omega
      · omega
    · rcases ha with rfl | rfl | rfl <;> omega
    · rcases ha with rfl | rfl <;> omega
    · rcases ha with rfl | rfl | rfl <;> omega
    · rcases ha with rfl | rfl | rfl <;> omega
    · rcases ha with rfl | rfl | rfl | rfl <;> omega
  · intro hd a ha
    have hk2 : x.kind = 2 := by have := of_decide_eq_true hd; omega
    unfold numsE fieldsE at ha
    rw [hk2] at ha
    simp at ha
    rw [← ha]
    split <;> omega

theorem takeE_put {k : Bk} (hk : k.Ok) (hl : k.tab.length ≤ 1000000) {x : Ev} (h : GoodE x) (hn : x.n < 18446744073709551616) (ht : k.tick ≤ x.tick) (A R : List Int) :
    takeE k (A ++ encB k x ++ R) A.length = ((x, ((A ++ encB k x).length : Int), 0), tellE k x) := by
  obtain ⟨m1, m2⟩ := h.many k
  obtain ⟨n1, n2⟩ := h.nums hn hk
  have hkd := h.kinds
  obtain ⟨b, hb⟩ : ∃ b : Nat, x.kind.toNat = b := ⟨_, rfl⟩
  have hbk : x.kind = b := by omega
  have hb7 : 1 ≤ b ∧ b ≤ 7 := by omega
  have is := h.is ht
  have sm := h.small
  rw [hb] at m1 m2 n2 is
  have e0 : encB k x = enc b ++ (encs (numsE k x) ++ (putsB k.tab (textsE x) ++ headB k x)) := by unfold encB; rw [hb]
  have t1 : take (A ++ encB k x ++ R) A.length = (b, ((A ++ enc b).length : Int), 0) := by
    have := take_enc A (encs (numsE k x) ++ (putsB k.tab (textsE x) ++ headB k x) ++ R) (n := b) (by omega)
    rw [e0]
    simpa using this
  unfold takeE
  rw [t1]
  simp only
  rw [if_neg (by simp), if_neg (by omega)]
  have t2 := nsteps_put (numsE k x) (decide (b = 2)) (A ++ enc b) (putsB k.tab (textsE x) ++ headB k x ++ R) n1 n2 _ (Nat.le_refl _)
  have e1 : A ++ encB k x ++ R = A ++ enc b ++ encs (numsE k x) ++ (putsB k.tab (textsE x) ++ headB k x ++ R) := by rw [e0]; simp
  rw [← e1, List.take_length] at t2
  rw [m1, t2]
  unfold ntakeE
  rw [if_neg (by simp)]
  simp only
  have hm4 : (textsE x).length ≤ 4 := by rw [← m2]; unfold manyT; split <;> (try split) <;> (try split) <;> omega
  have t3 := tsteps_put k.tab (textsE x) (A ++ enc b ++ encs (numsE k x)) (headB k x ++ R) (by omega) sm _ (Nat.le_refl _)
  have e2 : A ++ encB k x ++ R = A ++ enc b ++ encs (numsE k x) ++ putsB k.tab (textsE x) ++ (headB k x ++ R) := by rw [e0]; simp
  rw [← e2, List.take_length] at t3
  rw [m2, t3]
  unfold ttakeE
  rw [if_neg (by simp)]
  simp only
  have hnum : num9 (numsE k x) 0 = x.ses.toNat := rfl
  have hses : ((x.ses.toNat : Nat) : Int) = x.ses := by have := h.1.1; omega
  have e3 : encB k x = enc b ++ encs (numsE k x) ++ putsB k.tab (textsE x) ++ headB k x := by rw [e0]; simp
  by_cases h3 : b ≤ 3
  · have hk3 : x.kind ≤ 3 := by omega
    have ehb : headB k x = dputB (putsL k.tab (textsE x)) (k.look x.ses (decide (x.kind = 3))) x.hs := if_pos hk3
    have ehl : headL k x = dputL (putsL k.tab (textsE x)) (k.look x.ses (decide (x.kind = 3))) x.hs := if_pos hk3
    have hd3 : decide (x.kind = 3) = decide (b = 3) := by rw [hbk]; by_cases e : b = 3 <;> simp [e] <;> omega
    rw [hd3] at ehb ehl
    have hW := putsL_len k.tab (textsE x)
    have esz : ∀ y : ByteArray, y.data.toList.length = y.size := fun y => Array.length_toList
    have t4 := dtake_put (putsL k.tab (textsE x)) (k.look x.ses (decide (b = 3))) x.hs (A ++ enc b ++ encs (numsE k x) ++ putsB k.tab (textsE x)) R (by omega) h.1.2.2.2.2.2.2.2.2.1 (fun g hg => by rw [esz, esz]; have := h.1.2.2.2.2.2.2.2.2.2 g hg; omega)
    have e4 : A ++ encB k x ++ R = A ++ enc b ++ encs (numsE k x) ++ putsB k.tab (textsE x) ++ dputB (putsL k.tab (textsE x)) (k.look x.ses (decide (b = 3))) x.hs ++ R := by rw [e3, ehb]; simp
    rw [← e4] at t4
    rw [if_pos h3, hnum, hses, t4]
    unfold htakeE
    simp only
    rw [if_neg (by simp)]
    unfold finE
    rw [is, if_pos h, ← ehb]
    unfold tellE
    rw [ehl]
    congr 3
    rw [e3]
    simp
  · have hk3 : ¬ x.kind ≤ 3 := by omega
    have ehb : headB k x = [] := if_neg hk3
    have ehl : headL k x = putsL k.tab (textsE x) := if_neg hk3
    rw [if_neg h3]
    have hhs : x.hs = [] := by
      rcases h.2 with h | h | h | h | h | h | h
      · omega
      · omega
      · omega
      · exact h.2.1.2.2.1
      · exact h.2.1.2.2.1
      · exact h.2.1.2.2.1
      · exact h.2.1.2.2.1
    rw [hhs] at is
    unfold finE
    rw [is, if_pos h]
    unfold tellE
    rw [ehl]
    congr 3
    rw [e3, ehb]
    simp

theorem nsteps_is {X : List Int} (hb : Bytes X) (c : Bool) (q : Int) (hqx : q ≤ X.length) : ∀ m, (nsteps X c ⟨[], q, 0⟩ m).e = 0 →
    (nsteps X c ⟨[], q, 0⟩ m).l.length = m ∧ encs (nsteps X c ⟨[], q, 0⟩ m).l = between X q (nsteps X c ⟨[], q, 0⟩ m).q ∧ q ≤ (nsteps X c ⟨[], q, 0⟩ m).q ∧ (nsteps X c ⟨[], q, 0⟩ m).q ≤ X.length ∧ (∀ a ∈ (nsteps X c ⟨[], q, 0⟩ m).l, a < 18446744073709551616) ∧ (c = true → ∀ a, (nsteps X c ⟨[], q, 0⟩ m).l[3]? = some a → a ≤ 1) := by
  intro m
  induction m with
  | zero => intro _; exact ⟨rfl, (between_same X q).symm, Int.le_refl _, hqx, by simp [nsteps], by simp [nsteps]⟩
  | succ m ih =>
    intro h0
    have h00 : (nstep X c (nsteps X c ⟨[], q, 0⟩ m)).e = 0 := h0
    show (nstep X c (nsteps X c ⟨[], q, 0⟩ m)).l.length = _ ∧ encs (nstep X c (nsteps X c ⟨[], q, 0⟩ m)).l = between X q (nstep X c (nsteps X c ⟨[], q, 0⟩ m)).q ∧ q ≤ (nstep X c (nsteps X c ⟨[], q, 0⟩ m)).q ∧ (nstep X c (nsteps X c ⟨[], q, 0⟩ m)).q ≤ X.length ∧ (∀ a ∈ (nstep X c (nsteps X c ⟨[], q, 0⟩ m)).l, a < 18446744073709551616) ∧ (c = true → ∀ a, (nstep X c (nsteps X c ⟨[], q, 0⟩ m)).l[3]? = some a → a ≤ 1)
    generalize nsteps X c ⟨[], q, 0⟩ m = s at h00 ih ⊢
    by_cases he : s.e = 0
    · obtain ⟨i1, i2, i3, i4, i5, i6⟩ := ih he
      obtain ⟨a, q1, e1, a1⟩ : ∃ a q1 e1, take X s.q = (a, q1, e1) := ⟨_, _, _, rfl⟩
      by_cases h1 : e1 = 0
      · subst h1
        obtain ⟨_, b1, b2, b3, b4⟩ := take_said hb a1
        by_cases h2 : c = true ∧ s.l.length = 3 ∧ 1 < a
        · rw [nstep_four he a1 h2] at h00
          cases h00
        · rw [nstep_ok he a1 h2]
          simp only
          refine ⟨by simp [i1], ?_, by omega, by omega, fun x hx => ?_, fun hc x hx => ?_⟩
          · rw [encs_append, encs_one, i2, b3, between_cat (by omega) (by omega)]
          · rcases List.mem_append.1 hx with hx | hx
            · exact i5 x hx
            · have : x = a := by simpa using hx
              omega
          · by_cases hl : 3 < s.l.length
            · rw [List.getElem?_append_left hl] at hx
              exact i6 hc x hx
            · rw [List.getElem?_append_right (by omega)] at hx
              have h4 : 3 - s.l.length = 0 := by
                have := (List.getElem?_eq_some_iff.1 hx).1
                simp at this
                omega
              rw [h4] at hx
              have hxa : x = a := by simpa using hx.symm
              have h5 : ¬ 1 < a := fun h' => h2 ⟨hc, by omega, h'⟩
              omega
      · rw [nstep_e he a1 h1] at h00
        exact absurd h00 h1
    · rw [nstep_bad he] at h00
      exact absurd h00 he

theorem tsteps_is {X : List Int} (hb : Bytes X) (T : List (List UInt8)) (hu : T.Nodup) (q : Int) (hqx : q ≤ X.length) : ∀ m, (tsteps X ⟨[], q, 0, T⟩ m).e = 0 →
    (tsteps X ⟨[], q, 0, T⟩ m).l.length = m ∧ (tsteps X ⟨[], q, 0, T⟩ m).t = putsL T (tsteps X ⟨[], q, 0, T⟩ m).l ∧ putsB T (tsteps X ⟨[], q, 0, T⟩ m).l = between X q (tsteps X ⟨[], q, 0, T⟩ m).q ∧ q ≤ (tsteps X ⟨[], q, 0, T⟩ m).q ∧ (tsteps X ⟨[], q, 0, T⟩ m).q ≤ X.length := by
  intro m
  induction m with
  | zero => intro _; exact ⟨rfl, rfl, (between_same X q).symm, Int.le_refl _, hqx⟩
  | succ m ih =>
    intro h0
    have h00 : (tstep X (tsteps X ⟨[], q, 0, T⟩ m)).e = 0 := h0
    show (tstep X (tsteps X ⟨[], q, 0, T⟩ m)).l.length = _ ∧ (tstep X (tsteps X ⟨[], q, 0, T⟩ m)).t = putsL T (tstep X (tsteps X ⟨[], q, 0, T⟩ m)).l ∧ putsB T (tstep X (tsteps X ⟨[], q, 0, T⟩ m)).l = between X q (tstep X (tsteps X ⟨[], q, 0, T⟩ m)).q ∧ q ≤ (tstep X (tsteps X ⟨[], q, 0, T⟩ m)).q ∧ (tstep X (tsteps X ⟨[], q, 0, T⟩ m)).q ≤ X.length
    generalize tsteps X ⟨[], q, 0, T⟩ m = s at h00 ih ⊢
    by_cases he : s.e = 0
    · obtain ⟨i1, i2, i3, i4, i5⟩ := ih he
      have hsu : s.t.Nodup := by rw [i2]; exact putsL_nodup T hu _
      obtain ⟨x, q1, e1, a1⟩ : ∃ x q1 e1, takeB s.t X s.q = (x, q1, e1) := ⟨_, _, _, rfl⟩
      by_cases h1 : e1 = 0
      · subst h1
        obtain ⟨_, b1, b2, b3, b4, _⟩ := takeB_is hb hsu a1
        rw [tstep_ok he a1 rfl]
        simp only
        refine ⟨by simp [i1], ?_, ?_, by omega, by omega⟩
        · rw [putsL_snoc, ← i2, b4]
        · rw [putsB_snoc, ← i2, i3, b3, between_cat (by omega) (by omega)]
      · rw [tstep_e he a1 rfl h1] at h00
        exact absurd h00 h1
    · rw [tstep_bad he] at h00
      exact absurd h00 he

theorem len_three {A : Type} {l : List A} (h : l.length = 3) : ∃ a b c, l = [a, b, c] := by
  match l, h with
  | [a, b, c], _ => exact ⟨a, b, c, rfl⟩
theorem len_two {A : Type} {l : List A} (h : l.length = 2) : ∃ a b, l = [a, b] := by
  match l, h with
  | [a, b], _ => exact ⟨a, b, rfl⟩
theorem evOf_is (k : Bk) {n : Nat} {l : List Nat} {ts : List (List UInt8)} (hs : List Hd) (hn : 1 ≤ n ∧ n ≤ 7) (hl : l.length = manyN n) (ht : ts.length = manyT n) (h3 : n = 2 → ∀ a, l[3]? = some a → a ≤ 1) (hb : ∀ a ∈ l, a < 18446744073709551616) :
    (evOf k.tick n l ts hs).kind = n ∧ (evOf k.tick n l ts hs).ses = num9 l 0 ∧ k.tick ≤ (evOf k.tick n l ts hs).tick ∧ numsE k (evOf k.tick n l ts hs) = l ∧ textsE (evOf k.tick n l ts hs) = ts ∧ (n ≤ 3 → (evOf k.tick n l ts hs).hs = hs) ∧ (evOf k.tick n l ts hs).n < 18446744073709551616 := by
  have hT : ∀ T : Nat, k.tick + (T : Int) - k.tick = T := fun T => by omega
  have hle : ∀ T : Nat, k.tick ≤ k.tick + (T : Int) := fun T => by omega
  rcases (show n = 1 ∨ n = 2 ∨ n = 3 ∨ n = 4 ∨ n = 5 ∨ n = 6 ∨ n = 7 by omega) with rfl | rfl | rfl | rfl | rfl | rfl | rfl
  · obtain ⟨a, b, c, rfl⟩ := len_three (show l.length = 3 from hl)
    match ts, (show ts.length = 4 from ht) with
    | [x, y, z, u], _ => simp [evOf, numsE, fieldsE, textsE, num9, text9, hT, hle]
  · match l, (show l.length = 5 from hl) with
    | [a, b, c, d, e], _ =>
      obtain ⟨x, y, z, rfl⟩ := len_three (show ts.length = 3 from ht)
      have hd : d ≤ 1 := h3 rfl d rfl
      have he : e < 18446744073709551616 := hb e (by simp)
      have hdd : (if d = 1 then 1 else 0) = d := by split <;> omega
      simp [evOf, numsE, fieldsE, textsE, num9, text9, hT, hle, hdd, he]
  · obtain ⟨a, b, c, rfl⟩ := len_three (show l.length = 3 from hl)
    obtain ⟨x, rfl⟩ := List.length_eq_one_iff.1 (show ts.length = 1 from ht)
    simp [evOf, numsE, fieldsE, textsE, num9, text9, hT, hle]
  · obtain ⟨a, b, rfl⟩ := len_two (show l.length = 2 from hl)
    obtain rfl := List.eq_nil_of_length_eq_zero (show ts.length = 0 from ht)
    simp [evOf, numsE, fieldsE, textsE, num9, hT, hle]
  · obtain ⟨a, b, c, rfl⟩ := len_three (show l.length = 3 from hl)
    obtain rfl := List.eq_nil_of_length_eq_zero (show ts.length = 0 from ht)
    have hc : c < 18446744073709551616 := hb c (by simp)
    simp [evOf, numsE, fieldsE, textsE, num9, hT, hle, hc]
  · obtain ⟨a, b, c, rfl⟩ := len_three (show l.length = 3 from hl)
    obtain rfl := List.eq_nil_of_length_eq_zero (show ts.length = 0 from ht)
    have hc : c < 18446744073709551616 := hb c (by simp)
    simp [evOf, numsE, fieldsE, textsE, num9, hT, hle, hc]
  · match l, (show l.length = 4 from hl) with
    | [a, b, c, d], _ =>
      obtain rfl := List.eq_nil_of_length_eq_zero (show ts.length = 0 from ht)
      simp [evOf, numsE, fieldsE, textsE, num9, hT, hle]

theorem takeE_is {X : List Int} (hb : Bytes X) {k : Bk} (hk : k.Ok) {p q : Int} {x : Ev} {k' : Bk} (h : takeE k X p = ((x, q, 0), k')) :
    0 ≤ p ∧ p < q ∧ q ≤ X.length ∧ GoodE x ∧ k.tick ≤ x.tick ∧ x.n < 18446744073709551616 ∧ encB k x = between X p q ∧ k' = tellE k x := by
  have err : ∀ {e : Int}, errE k e = ((x, q, 0), k') → e = 0 := fun h => by
    unfold errE at h
    injection h with h _
    injection h with _ h
    injection h with _ h
  obtain ⟨n, q0, e0, t0⟩ : ∃ a q1 e1, take X p = (a, q1, e1) := ⟨_, _, _, rfl⟩
  unfold takeE at h
  rw [t0] at h
  simp only at h
  by_cases he0 : e0 = 0
  · subst he0
    rw [if_neg (by simp)] at h
    obtain ⟨f0, f1, f2, f3, f4⟩ := take_said hb t0
    by_cases hn : n < 1 ∨ 7 < n
    · rw [if_pos hn] at h
      exact absurd (err h) (by decide)
    · rw [if_neg hn] at h
      have hi := nsteps_is hb (decide (n = 2)) q0 f2 (manyN n)
      generalize nsteps X (decide (n = 2)) ⟨[], q0, 0⟩ (manyN n) = s at h hi
      unfold ntakeE at h
      by_cases he : s.e = 0
      · rw [if_neg (by simp [he])] at h
        obtain ⟨i1, i2, i3, i4, i5, i6⟩ := hi he
        have hj := tsteps_is hb k.tab hk.one s.q i4 (manyT n)
        generalize tsteps X ⟨[], s.q, 0, k.tab⟩ (manyT n) = t at h hj
        unfold ttakeE at h
        by_cases het : t.e = 0
        · rw [if_neg (by simp [het])] at h
          obtain ⟨j1, j2, j3, j4, j5⟩ := hj het
          have h3 : n = 2 → ∀ a, s.l[3]? = some a → a ≤ 1 := fun e => i6 (by simp [e])
          have hu : t.t.Nodup := by rw [j2]; exact putsL_nodup _ hk.one _
          have fin : ∀ (hs : List Hd) (q' : Int) (T : List (List UInt8)), finE k n s.l t.l hs q' T = ((x, q, 0), k') → (n ≤ 3 → t.q ≤ q' ∧ q' ≤ X.length ∧ dputB t.t (k.look (num9 s.l 0) (decide (n = 3))) hs = between X t.q q' ∧ T = dputL t.t (k.look (num9 s.l 0) (decide (n = 3))) hs) → (3 < n → q' = t.q ∧ T = t.t) →
              0 ≤ p ∧ p < q ∧ q ≤ X.length ∧ GoodE x ∧ k.tick ≤ x.tick ∧ x.n < 18446744073709551616 ∧ encB k x = between X p q ∧ k' = tellE k x := by
            intro hs q' T hf g3 g4
            unfold finE at hf
            obtain ⟨v1, v2, v3, v4, v5, v6, v7⟩ := evOf_is k hs (by omega) i1 j1 h3 i5
            by_cases hg : GoodE (evOf k.tick n s.l t.l hs)
            · rw [if_pos hg] at hf
              injection hf with hf hk'
              injection hf with hx hf
              injection hf with hq _
              rw [hx] at v1 v2 v3 v4 v5 v6 v7 hg hk'
              subst hq
              have hkn : x.kind.toNat = n := by omega
              have hen : enc x.kind.toNat = between X p q0 := by rw [hkn, f3]
              have hd3 : decide (x.kind = 3) = decide (n = 3) := by rw [v1]; by_cases e : n = 3 <;> simp [e] <;> omega
              by_cases hn3 : n ≤ 3
              · obtain ⟨w1, w2, w3, w4⟩ := g3 hn3
                have hk3 : x.kind ≤ 3 := by omega
                refine ⟨f0, by omega, w2, hg, v3, v7, ?_, ?_⟩
                · unfold encB headB
                  rw [if_pos hk3, v4, v5, v2, hd3, v6 hn3, hen, i2, j3, ← j2, w3, between_cat (by omega) (by omega), between_cat (by omega) (by omega), between_cat (by omega) (by omega)]
                · rw [← hk']
                  unfold tellE headL
                  rw [if_pos hk3, v5, v2, hd3, v6 hn3, ← j2, w4]
              · obtain ⟨w1, w2⟩ := g4 (by omega)
                have hk3 : ¬ x.kind ≤ 3 := by omega
                subst w1
                refine ⟨f0, by omega, j5, hg, v3, v7, ?_, ?_⟩
                · unfold encB headB
                  rw [if_neg hk3, v4, v5, hen, i2, j3, List.append_nil, between_cat (by omega) (by omega), between_cat (by omega) (by omega)]
                · rw [← hk']
                  unfold tellE headL
                  rw [if_neg hk3, v5, ← j2, w2]
            · rw [if_neg hg] at hf
              exact absurd (err hf) (by decide)
          by_cases hn3 : n ≤ 3
          · rw [if_pos hn3] at h
            obtain ⟨hs, q4, e4, T, hd⟩ : ∃ hs q4 e4 T, dtake t.t X t.q (k.look (num9 s.l 0) (decide (n = 3))) = ((hs, q4, e4), T) := ⟨_, _, _, _, rfl⟩
            rw [hd] at h
            unfold htakeE at h
            simp only at h
            by_cases h4 : e4 = 0
            · subst h4
              rw [if_neg (by simp)] at h
              obtain ⟨_, d1, d2, d3, d4, _⟩ := dtake_is hb hu hd
              exact fin hs q4 T h (fun _ => ⟨by omega, d2, d3, d4⟩) (fun h' => by omega)
            · rw [if_pos h4] at h
              exact absurd (err h) h4
          · rw [if_neg hn3] at h
            exact fin [] t.q t.t h (fun h' => absurd h' hn3) (fun _ => ⟨rfl, rfl⟩)
        · rw [if_pos het] at h
          exact absurd (err h) het
      · rw [if_pos he] at h
        exact absurd (err h) he
  · rw [if_pos he0] at h
    exact absurd (err h) he0
end Go.Proofs.Ytodncamohimmmaa
