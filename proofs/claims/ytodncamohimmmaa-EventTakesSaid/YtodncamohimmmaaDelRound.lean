/-
  What the encodings of numbers, texts and lists of headers (layers 1, 19, 20) write is taken again, and what is taken was written so. No program is spoken of; no condition beyond those that each theorem states.
-/
import Derived.Test.YtodncamohimmmaaLow1
namespace Go.Proofs.Ytodncamohimmmaa
open Go.Lib Leb

def between (X : List Int) (p q : Int) : List Int := (X.drop p.toNat).take (q.toNat - p.toNat)
theorem between_cat {X : List Int} {p q r : Int} (h1 : p ≤ q) (h2 : q ≤ r) : between X p q ++ between X q r = between X p r := by
  unfold between
  obtain ⟨a, ha⟩ : ∃ a, q.toNat = p.toNat + a := ⟨q.toNat - p.toNat, by omega⟩
  obtain ⟨b, hb⟩ : ∃ b, r.toNat = p.toNat + a + b := ⟨r.toNat - q.toNat, by omega⟩
  rw [ha, hb, show p.toNat + a - p.toNat = a by omega, show p.toNat + a + b - (p.toNat + a) = b by omega, show p.toNat + a + b - p.toNat = a + b by omega, List.take_add, List.drop_drop]
theorem between_same (X : List Int) (p : Int) : between X p p = [] := by unfold between; simp
theorem take_said {X : List Int} (hb : Bytes X) {p : Int} {k : Nat} {q : Int} (h : take X p = (k, q, 0)) : 0 ≤ p ∧ p < q ∧ q ≤ X.length ∧ enc k = between X p q ∧ k < 18446744073709551616 := by
  obtain ⟨h0, h1, h2⟩ := take_ok h
  have e : take (X.drop p.toNat) 0 = (k, q - p, 0) := by
    unfold take at h ⊢
    rw [if_neg (by omega)] at h
    rw [if_neg (by omega), Int.toNat_zero, List.drop_zero]
    split at h
    · cases h
    · split at h
      · cases h
      · rename_i g1 g2
        rw [if_neg g1, if_neg g2]
        injection h with ha hq
        injection hq with hq _
        rw [ha, ← hq]
        congr 2
        omega
  obtain ⟨_, _, h3, h4⟩ := take_only (hb.drop p.toNat) e
  refine ⟨h0, h1, h2, ?_, h4⟩
  rw [h3]
  unfold between
  congr 1
  omega

theorem takeB_is {X : List Int} (hb : Bytes X) {T : List (List UInt8)} (hu : T.Nodup) {p q : Int} {s : List UInt8} (h : takeB T X p = (s, q, 0)) :
    0 ≤ p ∧ p < q ∧ q ≤ X.length ∧ putB T s = between X p q ∧ takeL T X p = putL T s ∧ (numT T s = 0 → s.length ≤ 2048) := by
  obtain ⟨a, q1, e, h1⟩ : ∃ a q1 e, take X p = (a, q1, e) := ⟨_, _, _, rfl⟩
  by_cases he : e = 0
  · subst he
    obtain ⟨g0, g1, g2, g3, g4⟩ := take_said hb h1
    by_cases ha : T.length < a
    · rw [(takeB_none h1 ha).1] at h
      injection h with _ h
      injection h with _ h
      cases h
    · by_cases ha0 : 0 < a
      · obtain ⟨k1, k2⟩ := takeB_old (l := T) h1 ha0 (by omega)
        rw [k1] at h
        injection h with hs hq
        injection hq with hq _
        have hl : a - 1 < T.length := by omega
        have h5 : T[a - 1]? = some s := by rw [List.getElem?_eq_getElem hl] at hs ⊢; rw [← hs]; rfl
        have hn := numT_one hu h5
        refine ⟨g0, by omega, by omega, ?_, ?_, fun h0 => by omega⟩
        · rw [putB_old (by omega), hn, show a - 1 + 1 = a by omega, g3, hq]
        · rw [k2, putL_old (by omega)]
      · obtain rfl : a = 0 := by omega
        obtain ⟨a2, q2, e2, h2⟩ : ∃ a2 q2 e2, take X q1 = (a2, q2, e2) := ⟨_, _, _, rfl⟩
        by_cases he2 : e2 = 0
        · subst he2
          obtain ⟨_, f1, f2, f3, f4⟩ := take_said hb h2
          by_cases ho : 2048 < a2
          · rw [(takeB_over h1 h2 ho).1] at h
            injection h with _ h
            injection h with _ h
            cases h
          · by_cases hs : (X.length : Int) < q2 + a2
            · rw [(takeB_short h1 h2 (by omega) hs).1] at h
              injection h with _ h
              injection h with _ h
              cases h
            · obtain ⟨s2, hs2⟩ : ∃ s2, ltrs ((X.drop q2.toNat).take a2) = s2 := ⟨_, rfl⟩
              by_cases ht : numT T s2 = 0
              · obtain ⟨k1, k2⟩ := takeB_new h1 h2 (by omega) (by omega) hs2 ht
                rw [k1] at h
                injection h with hs' hq
                injection hq with hq _
                subst hs'
                have hl2 : ((X.drop q2.toNat).take a2).length = a2 := by rw [List.length_take, List.length_drop]; omega
                have hlen : s2.length = a2 := by rw [← hs2, ltrs_len, hl2]
                have e3 : between X q2 q = nums s2 := by
                  rw [← hs2, nums_ltrs ((hb.drop _).take _)]
                  unfold between
                  congr 1
                  omega
                refine ⟨g0, by omega, by omega, ?_, by rw [k2, putL_new ht], fun _ => by omega⟩
                have e0 : [(0 : Int)] = between X p q1 := by rw [← g3, enc_small (by omega)]; rfl
                rw [putB_new ht, hlen, f3, ← e3, ← between_cat (p := p) (q := q1) (r := q) (by omega) (by omega), ← e0, ← between_cat (p := q1) (q := q2) (r := q) (by omega) (by omega)]
                rfl
              · rw [(takeB_twice h1 h2 (by omega) (by omega) hs2 ht).1] at h
                injection h with _ h
                injection h with _ h
                cases h
        · rw [(takeB_e2 h1 h2 he2).1] at h
          injection h with _ h
          injection h with _ h
          exact absurd h he2
  · rw [(takeB_e1 h1 he).1] at h
    injection h with _ h
    injection h with _ h
    exact absurd h he

/-! Lists of headers. -/
theorem common_take : ∀ (w l : List Hd), w.take (common w l) = l.take (common w l) := by
  intro w
  induction w with
  | nil => intro l; simp [common]
  | cons x xs ih =>
    intro l
    cases l with
    | nil => simp [common]
    | cons y ys =>
      unfold common
      split
      · rename_i h
        subst h
        rw [List.take_succ_cons, List.take_succ_cons, ih ys]
      · simp
theorem take_drop_rev (l : List Hd) (a k : Nat) (h : a + k ≤ l.length) : ((l.drop a).reverse.take k).reverse = l.drop (l.length - k) := by
  rw [List.reverse_take, List.reverse_reverse, List.length_reverse, List.length_drop, List.drop_drop]
  congr 1
  omega
theorem whole (w l : List Hd) : w.take (endA w l) ++ fresh w l ++ w.drop (w.length - endB w l) = l := by
  obtain ⟨h1, h2⟩ := ends_le w l
  have ha : w.take (endA w l) = l.take (endA w l) := common_take w l
  have hb0 := common_take (w.drop (endA w l)).reverse (l.drop (endA w l)).reverse
  have hb : w.drop (w.length - endB w l) = l.drop (l.length - endB w l) := by
    rw [← take_drop_rev w (endA w l) (endB w l) h1, ← take_drop_rev l (endA w l) (endB w l) h2]
    show (List.take (common (w.drop (endA w l)).reverse (l.drop (endA w l)).reverse) _).reverse = _
    rw [hb0]
    rfl
  rw [ha, hb]
  unfold fresh
  have e : l = l.take (endA w l) ++ l.drop (endA w l) := (List.take_append_drop _ _).symm
  conv => rhs; rw [e]
  rw [List.append_assoc]
  congr 1
  conv => rhs; rw [← List.take_append_drop (l.length - endA w l - endB w l) (l.drop (endA w l))]
  congr 1
  rw [List.drop_drop]
  congr 1
  omega
theorem back_text (x : ByteArray) : (⟨x.data.toList.toArray⟩ : ByteArray) = x := by cases x; simp

theorem hsteps_put (T : List (List UInt8)) (fs : List Hd) (P R : List Int) (hT : T.length + 2 * fs.length < 18446744073709551616) (hs : ∀ h ∈ fs, h.1.data.toList.length ≤ 2048 ∧ h.2.data.toList.length ≤ 2048) :
    ∀ k, k ≤ fs.length → hsteps (P ++ putsB T (txs fs) ++ R) ⟨[], P.length, 0, T⟩ k = ⟨fs.take k, ((P ++ putsB T (txs (fs.take k))).length : Int), 0, putsL T (txs (fs.take k))⟩ := by
  intro k
  induction k with
  | zero => intro _; simp [hsteps, txs, putsB, putsL]
  | succ k ih =>
    intro hk
    show hstep _ (hsteps _ _ k) = _
    rw [ih (by omega)]
    obtain ⟨⟨x, y⟩, hxy⟩ : ∃ h, fs[k]? = some h := ⟨_, List.getElem?_eq_getElem (by omega)⟩
    have hm : (x, y) ∈ fs := List.mem_of_getElem? hxy
    obtain ⟨hx, hy⟩ := hs _ hm
    obtain ⟨h1, h2⟩ := puts_step T hxy
    obtain ⟨W, hW⟩ : ∃ W, W = putsL T (txs (fs.take k)) := ⟨_, rfl⟩
    obtain ⟨B, hB⟩ : ∃ B, B = P ++ putsB T (txs (fs.take k)) := ⟨_, rfl⟩
    have hWl : W.length ≤ T.length + 2 * k := by
      have h3 := putsL_len T (txs (fs.take k))
      rw [txs_len, List.length_take] at h3
      rw [hW]
      omega
    have hsplit : putsB T (txs fs) = putsB T (txs (fs.take (k + 1))) ++ putsB (putsL T (txs (fs.take (k + 1)))) (txs (fs.drop (k + 1))) := by
      have e : ∀ (l : List (List UInt8)) (a ss : List (List UInt8)), putsB l (a ++ ss) = putsB l a ++ putsB (putsL l a) ss := by
        intro l a
        induction a generalizing l with
        | nil => intro ss; simp [putsB, putsL]
        | cons x a ih => intro ss; show putB l x ++ putsB (putL l x) (a ++ ss) = _; rw [ih (putL l x) ss]; simp [putsB, putsL]
      rw [← e, ← txs_append, List.take_append_drop]
    obtain ⟨Z, hZ⟩ : ∃ Z, Z = putsB (putsL T (txs (fs.take (k + 1)))) (txs (fs.drop (k + 1))) ++ R := ⟨_, rfl⟩
    have eX : P ++ putsB T (txs fs) ++ R = B ++ putB W x.data.toList ++ (putB (putL W x.data.toList) y.data.toList ++ Z) := by
      rw [hsplit, h1, hB, hW, hZ]
      simp
    have eX2 : P ++ putsB T (txs fs) ++ R = (B ++ putB W x.data.toList) ++ putB (putL W x.data.toList) y.data.toList ++ Z := by
      rw [eX]
      simp
    rw [← hW] at h1 h2
    have a1 := takeB_put W x.data.toList B (putB (putL W x.data.toList) y.data.toList ++ Z) (by omega) hx
    have a2 := takeB_put (putL W x.data.toList) y.data.toList (B ++ putB W x.data.toList) Z (by have := putL_len W x.data.toList; omega) hy
    rw [← eX] at a1
    rw [← eX2] at a2
    rw [h1, h2, ← hW, ← hB]
    rw [hstep_ok (x := x.data.toList) (y := y.data.toList) (q1 := ((B ++ putB W x.data.toList).length : Int)) (t1 := putL W x.data.toList) rfl a1.1 a1.2 a2.1 rfl]
    rw [a2.2, back_text, back_text]
    have e5 : fs.take (k + 1) = fs.take k ++ [(x, y)] := by rw [List.take_add_one, hxy]; rfl
    rw [e5, hB]
    simp only [List.append_assoc]

theorem dtake_put (T : List (List UInt8)) (w l : List Hd) (A R : List Int) (hT : T.length + 50 < 18446744073709551616) (hl : l.length ≤ 25) (hs : ∀ h ∈ l, h.1.data.toList.length ≤ 2048 ∧ h.2.data.toList.length ≤ 2048) :
    dtake T (A ++ dputB T w l ++ R) A.length w = ((l, ((A ++ dputB T w l).length : Int), 0), dputL T w l) := by
  obtain ⟨h1, h2⟩ := ends_le w l
  have hf := fresh_len w l
  have hm : ∀ h ∈ fresh w l, h.1.data.toList.length ≤ 2048 ∧ h.2.data.toList.length ≤ 2048 := fun h hh => hs h (List.mem_of_mem_drop (List.mem_of_mem_take hh))
  have hw1 := whole w l
  obtain ⟨a, ha⟩ : ∃ a, a = endA w l := ⟨_, rfl⟩
  obtain ⟨b, hb⟩ : ∃ b, b = endB w l := ⟨_, rfl⟩
  have ea : endA w (w.take a ++ fresh w l ++ w.drop (w.length - b)) = a := by rw [ha, hb, hw1]
  have eb : endB w (w.take a ++ fresh w l ++ w.drop (w.length - b)) = b := by rw [ha, hb, hw1]
  have e0 : dputB T w l = enc a ++ (enc b ++ (enc (l.length - a - b) ++ putsB T (txs (fresh w l)))) := by
    rw [ha, hb]
    unfold dputB dputH
    simp
  rw [← ha, ← hb] at h1 h2 hf hw1
  have t1 : take (A ++ dputB T w l ++ R) A.length = (a, ((A ++ enc a).length : Int), 0) := by
    have := take_enc A (enc b ++ (enc (l.length - a - b) ++ putsB T (txs (fresh w l))) ++ R) (n := a) (by omega)
    rw [e0]
    simpa using this
  have t2 : take (A ++ dputB T w l ++ R) ((A ++ enc a).length : Int) = (b, ((A ++ enc a ++ enc b).length : Int), 0) := by
    have := take_enc (A ++ enc a) (enc (l.length - a - b) ++ putsB T (txs (fresh w l)) ++ R) (n := b) (by omega)
    rw [e0]
    simpa using this
  have t3 : take (A ++ dputB T w l ++ R) ((A ++ enc a ++ enc b).length : Int) = (l.length - a - b, ((A ++ enc a ++ enc b ++ enc (l.length - a - b)).length : Int), 0) := by
    have := take_enc (A ++ enc a ++ enc b) (putsB T (txs (fresh w l)) ++ R) (n := l.length - a - b) (by omega)
    rw [e0]
    simpa using this
  rw [dtake_mid t1 t2 t3, dmid_on h1 (by omega)]
  have e1 : A ++ dputB T w l ++ R = (A ++ enc a ++ enc b ++ enc (l.length - a - b)) ++ putsB T (txs (fresh w l)) ++ R := by rw [e0]; simp
  have h3 := hsteps_put T (fresh w l) (A ++ enc a ++ enc b ++ enc (l.length - a - b)) R (by omega) hm (fresh w l).length (Nat.le_refl _)
  rw [← e1, List.take_length] at h3
  rw [hf] at h3
  rw [h3, dend_ok rfl ea eb]
  simp only
  rw [hw1]
  unfold dputL
  rw [e0]
  simp only [List.append_assoc]

theorem hsteps_is {X : List Int} (hb : Bytes X) (T : List (List UInt8)) (hu : T.Nodup) (q : Int) (_hq : 0 ≤ q) (hqx : q ≤ X.length) : ∀ c, (hsteps X ⟨[], q, 0, T⟩ c).e = 0 →
    (hsteps X ⟨[], q, 0, T⟩ c).hs.length = c ∧ (hsteps X ⟨[], q, 0, T⟩ c).t = putsL T (txs (hsteps X ⟨[], q, 0, T⟩ c).hs) ∧ putsB T (txs (hsteps X ⟨[], q, 0, T⟩ c).hs) = between X q (hsteps X ⟨[], q, 0, T⟩ c).q ∧ q ≤ (hsteps X ⟨[], q, 0, T⟩ c).q ∧ (hsteps X ⟨[], q, 0, T⟩ c).q ≤ X.length := by
  intro c
  induction c with
  | zero => intro _; exact ⟨rfl, rfl, (between_same X q).symm, Int.le_refl _, hqx⟩
  | succ c ih =>
    intro h0
    have h00 : (hstep X (hsteps X ⟨[], q, 0, T⟩ c)).e = 0 := h0
    show (hstep X (hsteps X ⟨[], q, 0, T⟩ c)).hs.length = _ ∧ (hstep X (hsteps X ⟨[], q, 0, T⟩ c)).t = putsL T (txs (hstep X (hsteps X ⟨[], q, 0, T⟩ c)).hs) ∧ putsB T (txs (hstep X (hsteps X ⟨[], q, 0, T⟩ c)).hs) = between X q (hstep X (hsteps X ⟨[], q, 0, T⟩ c)).q ∧ q ≤ (hstep X (hsteps X ⟨[], q, 0, T⟩ c)).q ∧ (hstep X (hsteps X ⟨[], q, 0, T⟩ c)).q ≤ X.length
    generalize hsteps X ⟨[], q, 0, T⟩ c = s at h00 ih ⊢
    by_cases he : s.e = 0
    · obtain ⟨i1, i2, i3, i4, i5⟩ := ih he
      have hsu : s.t.Nodup := by rw [i2]; exact putsL_nodup T hu _
      obtain ⟨x, q1, e1, a1⟩ : ∃ x q1 e1, takeB s.t X s.q = (x, q1, e1) := ⟨_, _, _, rfl⟩
      by_cases h1 : e1 = 0
      · subst h1
        obtain ⟨b0, b1, b2, b3, b4, _⟩ := takeB_is hb hsu a1
        obtain ⟨y, q2, e2, a2⟩ : ∃ y q2 e2, takeB (takeL s.t X s.q) X q1 = (y, q2, e2) := ⟨_, _, _, rfl⟩
        by_cases h2 : e2 = 0
        · subst h2
          obtain ⟨_, c1, c2, c3, c4, _⟩ := takeB_is hb (by rw [b4]; exact putL_nodup x hsu) a2
          rw [hstep_ok he a1 rfl a2 rfl]
          simp only
          have et : txs (s.hs ++ [((⟨x.toArray⟩ : ByteArray), (⟨y.toArray⟩ : ByteArray))]) = txs s.hs ++ [x] ++ [y] := by rw [txs_append]; simp [txs]
          refine ⟨by simp [i1], ?_, ?_, by omega, by omega⟩
          · rw [et, putsL_snoc, putsL_snoc, ← i2, c4, b4]
          · rw [et, putsB_snoc, putsB_snoc, putsL_snoc, ← i2, i3, b3, ← b4, c3, between_cat (by omega) (by omega), between_cat (by omega) (by omega)]
        · rw [hstep_e2 he a1 rfl a2 rfl h2] at h00
          exact absurd h00 h2
      · rw [hstep_e1 he a1 rfl h1] at h00
        exact absurd h00 h1
    · have : hstep X s = s := if_pos he
      rw [this] at h00
      exact absurd h00 he

theorem dtake_is {X : List Int} (hb : Bytes X) {T : List (List UInt8)} (hu : T.Nodup) {p : Int} {w l : List Hd} {q : Int} {T' : List (List UInt8)} (h : dtake T X p w = ((l, q, 0), T')) :
    0 ≤ p ∧ p < q ∧ q ≤ X.length ∧ dputB T w l = between X p q ∧ T' = dputL T w l ∧ l.length ≤ 25 := by
  obtain ⟨a, q1, e1, t1⟩ : ∃ a q1 e1, take X p = (a, q1, e1) := ⟨_, _, _, rfl⟩
  by_cases h1 : e1 = 0
  · subst h1
    obtain ⟨f0, f1, f2, f3, _⟩ := take_said hb t1
    obtain ⟨b, q2, e2, t2⟩ : ∃ b q2 e2, take X q1 = (b, q2, e2) := ⟨_, _, _, rfl⟩
    by_cases h2 : e2 = 0
    · subst h2
      obtain ⟨_, g1, g2, g3, _⟩ := take_said hb t2
      obtain ⟨c, q3, e3, t3⟩ : ∃ c q3 e3, take X q2 = (c, q3, e3) := ⟨_, _, _, rfl⟩
      by_cases h3 : e3 = 0
      · subst h3
        obtain ⟨_, k1, k2, k3, _⟩ := take_said hb t3
        rw [dtake_mid t1 t2 t3] at h
        by_cases hn : w.length < a + b
        · rw [dmid_none hn] at h
          cases h
        · by_cases ho : 25 < a + b + c
          · rw [dmid_over (by omega) ho] at h
            cases h
          · rw [dmid_on (by omega) (by omega)] at h
            have hi := hsteps_is hb T hu q3 (by omega) k2 c
            generalize hsteps X ⟨[], q3, 0, T⟩ c = s at h hi
            by_cases he : s.e = 0
            · obtain ⟨i1, i2, i3, i4, i5⟩ := hi he
              by_cases hf : endA w (w.take a ++ s.hs ++ w.drop (w.length - b)) ≠ a ∨ endB w (w.take a ++ s.hs ++ w.drop (w.length - b)) ≠ b
              · rw [dend_form he hf] at h
                cases h
              · have ea : endA w (w.take a ++ s.hs ++ w.drop (w.length - b)) = a := Classical.byContradiction fun h' => hf (.inl h')
                have eb : endB w (w.take a ++ s.hs ++ w.drop (w.length - b)) = b := Classical.byContradiction fun h' => hf (.inr h')
                rw [dend_ok he ea eb] at h
                injection h with h hT
                injection h with hl h
                injection h with hq _
                have hlen : l.length = a + c + b := by
                  rw [← hl, List.length_append, List.length_append, List.length_take, List.length_drop, i1]
                  omega
                rw [hl] at ea eb
                have hfr : fresh w l = s.hs := by
                  unfold fresh
                  rw [ea, eb, hlen, ← hl, List.append_assoc, List.drop_left' (by rw [List.length_take]; omega), show a + c + b - a - b = c by omega]
                  exact List.take_left' i1
                subst hq
                refine ⟨f0, by omega, i5, ?_, ?_, by omega⟩
                · unfold dputB dputH
                  rw [ea, eb, hlen, show a + c + b - a - b = c by omega, hfr, f3, g3, k3, i3, between_cat (by omega) (by omega), between_cat (by omega) (by omega), between_cat (by omega) (by omega)]
                · unfold dputL
                  rw [hfr, ← hT, i2]
            · rw [dend_bad he] at h
              injection h with h _
              injection h with _ h
              injection h with _ h
              exact absurd h he
      · rw [dtake_e3 t1 t2 t3 h3] at h
        injection h with h _
        injection h with _ h
        injection h with _ h
        exact absurd h h3
    · rw [dtake_e2 t1 t2 h2] at h
      injection h with h _
      injection h with _ h
      injection h with _ h
      exact absurd h h2
  · rw [dtake_e1 t1 h1] at h
    injection h with h _
    injection h with _ h
    injection h with _ h
    exact absurd h h1
end Go.Proofs.Ytodncamohimmmaa
