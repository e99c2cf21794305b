/-
  'string(delta.Put(x, intern.New(), few(was), few(list))) == string(ref.Put(..))' in open order: what holds while it is done. Conditions: those that each theorem states.
-/
import Derived.Test.YtkjnpdnihfohoaaDelWords
namespace Go.Proofs.Ytkjnpdnihfohoaa
open Go.RowKit Go.Lib Go.Maps Go.WideMaps Leb

/-- A slice value that reads as headers, and lies in neither table. -/
def HX (w : World) (v : Value) (l : List Hd) (S1 S2 : Nat → Prop) : Prop := ∃ A m c, v = .slice A m c ∧ m ≤ 24 ∧ Hds w A m c l ∧ Off S1 A m ∧ Off S2 A m
/-- A slice value that reads as bytes, and lies in neither table. -/
def BX (w : World) (v : Value) (Y : List Int) (S1 S2 : Nat → Prop) : Prop := ∃ A m c, v = .slice A m c ∧ Holds w A m c Y ∧ Off S1 A m ∧ Off S2 A m
section
variable {w w' : World} {v : Value} {l : List Hd} {Y : List Int} {S1 S2 S1' S2' : Nat → Prop}
theorem off_wide {A : Option Addr} {m : Nat} (h1 : Off S1 A m) (h2 : Off S2 A m) : Off (fun k => S1 k ∨ S2 k) A m := fun g off e h0 hs => hs.elim (h1 g off e h0) (h2 g off e h0)
theorem HX.step (h : HX w v l S1 S2) (ha : Alt w w' (fun k => S1 k ∨ S2 k)) (n1 : ∀ k, S1' k → S1 k ∨ w.heap.size ≤ k) (n2 : ∀ k, S2' k → S2 k ∨ w.heap.size ≤ k) : HX w' v l S1' S2' := by
  obtain ⟨A, m, c, e, hm, hH, h1, h2⟩ := h
  have e1 := (HdO.mk hH h1)
  refine ⟨A, m, c, e, hm, hH.alt ha (off_wide h1 h2), fun g off e h0 hs => ?_, fun g off e h0 hs => ?_⟩
  · subst e
    have := hH.block h0
    rcases n1 g hs with q | q
    · exact h1 g off rfl h0 q
    · omega
  · subst e
    have := hH.block h0
    rcases n2 g hs with q | q
    · exact h2 g off rfl h0 q
    · omega
theorem BX.step (h : BX w v Y S1 S2) (ha : Alt w w' (fun k => S1 k ∨ S2 k)) (n1 : ∀ k, S1' k → S1 k ∨ w.heap.size ≤ k) (n2 : ∀ k, S2' k → S2 k ∨ w.heap.size ≤ k) : BX w' v Y S1' S2' := by
  obtain ⟨A, m, c, e, hH, h1, h2⟩ := h
  refine ⟨A, m, c, e, hH.alt ha (off_wide h1 h2), fun g off e h0 hs => ?_, fun g off e h0 hs => ?_⟩
  · subst e
    have := hH.block h0
    rcases n1 g hs with q | q
    · exact h1 g off rfl h0 q
    · omega
  · subst e
    have := hH.block h0
    rcases n2 g hs with q | q
    · exact h2 g off rfl h0 q
    · omega
end
def HL (lw ll : List Hd) : List (Nat × Nat × List Hd) := [(5, 19, lw), (7, 21, ll), (14, 28, lw), (16, 30, ll)]
def BL : List (Nat × Nat) := [(8, 22), (17, 31)]
structure DC (W0 : World) (lw ll : List Hd) (Y : List Int) (S1 S2 : Nat → Prop) (D : Nat → Prop) (a : Act) (w : World) : Prop where
  below : Below W0.heap.size W0 w
  lo1 : ∀ k, S1 k → W0.heap.size ≤ k ∧ k < w.heap.size
  lo2 : ∀ k, S2 k → W0.heap.size ≤ k ∧ k < w.heap.size
  ap : ∀ k, S1 k → ¬ S2 k
  t1 : D 3 → ¬ D 8 → ∃ b, a.eval (.tmp 17) = .pointer (some ⟨b, 0, Option.none⟩) ∧ PTab w b [] S1
  t2 : D 12 → ¬ D 17 → ∃ b, a.eval (.tmp 26) = .pointer (some ⟨b, 0, Option.none⟩) ∧ RTab w b [] S2
  hs : ∀ t ∈ HL lw ll, D t.1 → HX w (a.eval (.tmp t.2.1)) t.2.2 S1 S2
  bs : ∀ t ∈ BL, D t.1 → BX w (a.eval (.tmp t.2)) Y S1 S2
section
variable {W0 w w' : World} {lw ll : List Hd} {Y : List Int} {S1 S2 S1' S2' : Nat → Prop} {D : Nat → Prop} {a : Act}
theorem hl_slots {lw ll : List Hd} : ∀ t ∈ HL lw ll, t.1 ∈ [5, 7, 14, 16] ∧ t.2.1 ∈ [19, 21, 28, 30] := by
  intro t ht
  simp only [HL, List.mem_cons, List.not_mem_nil, or_false] at ht
  rcases ht with rfl | rfl | rfl | rfl <;> simp
theorem bl_slots : ∀ t ∈ BL, t.1 ∈ [8, 17] ∧ t.2 ∈ [22, 31] := by decide
/-- An operation that touches no table, no headers and no bytes that are spoken of. -/
theorem DC.calm (h : DC W0 lw ll Y S1 S2 D a w) {i s : Nat} (v : Value) (hb : Below w.heap.size w w') (hi : i ∉ [3, 5, 7, 8, 12, 14, 16, 17]) (hs : s ∉ [17, 19, 21, 22, 26, 28, 30, 31]) : DC W0 lw ll Y S1 S2 (fun j => D j ∨ j = i) (a.put (some s) v) w' := by
  have ha := alt_below hb (fun k => S1 k ∨ S2 k)
  have ne : ∀ {x}, x ∈ [17, 19, 21, 22, 26, 28, 30, 31] → (a.put (some s) v).eval (.tmp x) = a.eval (.tmp x) := fun hx => eval_put_other _ _ fun e => hs (e ▸ hx)
  have nd : ∀ {x}, x ∈ [3, 5, 7, 8, 12, 14, 16, 17] → (D x ∨ x = i) → D x := fun hx h => h.resolve_right fun e => hi (e ▸ hx)
  refine ⟨h.below.trans (hb.mono h.below.size), fun k hk => ⟨(h.lo1 k hk).1, Nat.lt_of_lt_of_le (h.lo1 k hk).2 hb.size⟩, fun k hk => ⟨(h.lo2 k hk).1, Nat.lt_of_lt_of_le (h.lo2 k hk).2 hb.size⟩, h.ap, fun h3 h8 => ?_, fun h3 h8 => ?_, fun t ht hd => ?_, fun t ht hd => ?_⟩
  · rw [ne (by decide)]
    obtain ⟨b, e, hp⟩ := h.t1 (nd (by decide) h3) fun q => h8 (.inl q)
    exact ⟨b, e, hp.later hb⟩
  · rw [ne (by decide)]
    obtain ⟨b, e, hp⟩ := h.t2 (nd (by decide) h3) fun q => h8 (.inl q)
    exact ⟨b, e, hp.later hb⟩
  · have := hl_slots t ht
    simp only [List.mem_cons, List.not_mem_nil, or_false] at this
    have hx : t.2.1 ∈ [17, 19, 21, 22, 26, 28, 30, 31] := by rcases this.2 with q | q | q | q <;> rw [q] <;> decide
    have hy : t.1 ∈ [3, 5, 7, 8, 12, 14, 16, 17] := by rcases this.1 with q | q | q | q <;> rw [q] <;> decide
    rw [ne hx]
    exact (h.hs t ht (nd hy hd)).step ha (fun _ q => .inl q) (fun _ q => .inl q)
  · have := bl_slots t ht
    simp only [List.mem_cons, List.not_mem_nil, or_false] at this
    have hx : t.2 ∈ [17, 19, 21, 22, 26, 28, 30, 31] := by rcases this.2 with q | q <;> rw [q] <;> decide
    have hy : t.1 ∈ [3, 5, 7, 8, 12, 14, 16, 17] := by rcases this.1 with q | q <;> rw [q] <;> decide
    rw [ne hx]
    exact (h.bs t ht (nd hy hd)).step ha (fun _ q => .inl q) (fun _ q => .inl q)
/-- few has made headers. -/
theorem DC.few (h : DC W0 lw ll Y S1 S2 D a w) {i s : Nat} {l : List Hd} (ht0 : (i, s, l) ∈ HL lw ll) (hsz : s < a.tmps.size) {v : Value} (hb : Below w.heap.size w w') (ho : OwnsH w' w.heap.size v l) (hl : l.length ≤ 24) : DC W0 lw ll Y S1 S2 (fun j => D j ∨ j = i) (a.put (some s) v) w' := by
  have ha := alt_below hb (fun k => S1 k ∨ S2 k)
  have hi := hl_slots _ ht0
  simp only [List.mem_cons, List.not_mem_nil, or_false] at hi
  have hv : HX w' v l S1 S2 := by
    obtain ⟨A, c, rfl, hH⟩ := ho.hds
    exact ⟨A, _, c, rfl, hl, hH, (ho.off fun k hk => (h.lo1 k hk).2).off, (ho.off fun k hk => (h.lo2 k hk).2).off⟩
  refine ⟨h.below.trans (hb.mono h.below.size), fun k hk => ⟨(h.lo1 k hk).1, Nat.lt_of_lt_of_le (h.lo1 k hk).2 hb.size⟩, fun k hk => ⟨(h.lo2 k hk).1, Nat.lt_of_lt_of_le (h.lo2 k hk).2 hb.size⟩, h.ap, fun h3 h8 => ?_, fun h3 h8 => ?_, fun t ht hd => ?_, fun t ht hd => ?_⟩
  · rw [eval_put_other _ _ (by omega)]
    obtain ⟨b, e, hp⟩ := h.t1 (h3.resolve_right (by omega)) fun q => h8 (.inl q)
    exact ⟨b, e, hp.later hb⟩
  · rw [eval_put_other _ _ (by omega)]
    obtain ⟨b, e, hp⟩ := h.t2 (h3.resolve_right (by omega)) fun q => h8 (.inl q)
    exact ⟨b, e, hp.later hb⟩
  · by_cases hti : t.1 = i
    · have e : t = (i, s, l) := by
        simp only [HL, List.mem_cons, List.not_mem_nil, or_false, Prod.mk.injEq] at ht ht0
        rcases ht with rfl | rfl | rfl | rfl <;> rcases ht0 with ⟨rfl, rfl, rfl⟩ | ⟨rfl, rfl, rfl⟩ | ⟨rfl, rfl, rfl⟩ | ⟨rfl, rfl, rfl⟩ <;> first | rfl | (simp at hti)
      rw [e]
      simp only
      rw [eval_put_same _ _ _ hsz]
      exact hv
    · have hts : t.2.1 ≠ s := by
        simp only [HL, List.mem_cons, List.not_mem_nil, or_false, Prod.mk.injEq] at ht ht0
        rcases ht with rfl | rfl | rfl | rfl <;> rcases ht0 with ⟨rfl, rfl, rfl⟩ | ⟨rfl, rfl, rfl⟩ | ⟨rfl, rfl, rfl⟩ | ⟨rfl, rfl, rfl⟩ <;> first | (simp at hti; done) | (simp; done)
      rw [eval_put_other _ _ hts]
      exact (h.hs t ht (hd.resolve_right hti)).step ha (fun _ q => .inl q) (fun _ q => .inl q)
  · have := bl_slots t ht
    simp only [List.mem_cons, List.not_mem_nil, or_false] at this
    rw [eval_put_other _ _ (by omega)]
    exact (h.bs t ht (hd.resolve_right (by omega))).step ha (fun _ q => .inl q) (fun _ q => .inl q)
/-- A table is made. -/
theorem DC.new (h : DC W0 lw ll Y S1 S2 D a w) (hsz : 17 < a.tmps.size) {b : Nat} (hb : Below w.heap.size w w') (hp : PTab w' b [] S1') (hlo : ∀ k, S1' k → w.heap.size ≤ k) : DC W0 lw ll Y S1' S2 (fun j => D j ∨ j = 3) (a.put (some 17) (.pointer (some ⟨b, 0, Option.none⟩))) w' := by
  have ha := alt_below hb (fun k => S1 k ∨ S2 k)
  refine ⟨h.below.trans (hb.mono h.below.size), fun k hk => ⟨Nat.le_trans h.below.size (hlo k hk), hp.low k hk⟩, fun k hk => ⟨(h.lo2 k hk).1, Nat.lt_of_lt_of_le (h.lo2 k hk).2 hb.size⟩, fun k h1 h2 => by have := hlo k h1; have := (h.lo2 k h2).2; omega, fun _ _ => ⟨b, eval_put_same _ _ _ hsz, hp⟩, fun h3 h8 => ?_, fun t ht hd => ?_, fun t ht hd => ?_⟩
  · rw [eval_put_other _ _ (by omega)]
    obtain ⟨b, e, hp⟩ := h.t2 (h3.resolve_right (by omega)) fun q => h8 (.inl q)
    exact ⟨b, e, hp.later hb⟩
  · have := hl_slots t ht
    simp only [List.mem_cons, List.not_mem_nil, or_false] at this
    rw [eval_put_other _ _ (by omega)]
    exact (h.hs t ht (hd.resolve_right (by omega))).step ha (fun k q => .inr (hlo k q)) (fun _ q => .inl q)
  · have := bl_slots t ht
    simp only [List.mem_cons, List.not_mem_nil, or_false] at this
    rw [eval_put_other _ _ (by omega)]
    exact (h.bs t ht (hd.resolve_right (by omega))).step ha (fun k q => .inr (hlo k q)) (fun _ q => .inl q)
/-- The reference's table is made. -/
theorem DC.box (h : DC W0 lw ll Y S1 S2 D a w) (hsz : 26 < a.tmps.size) : DC W0 lw ll Y S1 (fun k => k = w.heap.size) (fun j => D j ∨ j = 12) (a.put (some 26) (.pointer (some ⟨w.heap.size, 0, Option.none⟩))) (w.alloc (.cells #[.slice Option.none 0 0] 33)) := by
  have hb := below_box w (.cells #[.slice Option.none 0 0] 33)
  have ha := alt_below hb (fun k => S1 k ∨ S2 k)
  refine ⟨h.below.trans (hb.mono h.below.size), fun k hk => ⟨(h.lo1 k hk).1, Nat.lt_of_lt_of_le (h.lo1 k hk).2 hb.size⟩, fun k hk => by have := h.below.size; subst hk; exact ⟨this, by simp⟩, fun k h1 h2 => by have := (h.lo1 k h1).2; omega, fun h3 h8 => ?_, fun _ _ => ⟨w.heap.size, eval_put_same _ _ _ hsz, newR w _ rfl⟩, fun t ht hd => ?_, fun t ht hd => ?_⟩
  · rw [eval_put_other _ _ (by omega)]
    obtain ⟨b, e, hp⟩ := h.t1 (h3.resolve_right (by omega)) fun q => h8 (.inl q)
    exact ⟨b, e, hp.later hb⟩
  · have := hl_slots t ht
    simp only [List.mem_cons, List.not_mem_nil, or_false] at this
    rw [eval_put_other _ _ (by omega)]
    exact (h.hs t ht (hd.resolve_right (by omega))).step ha (fun _ q => .inl q) (fun k q => .inr (by omega))
  · have := bl_slots t ht
    simp only [List.mem_cons, List.not_mem_nil, or_false] at this
    rw [eval_put_other _ _ (by omega)]
    exact (h.bs t ht (hd.resolve_right (by omega))).step ha (fun _ q => .inl q) (fun k q => .inr (by omega))
/-- The program has put. -/
theorem DC.put (h : DC W0 lw ll Y S1 S2 D a w) (hsz : 22 < a.tmps.size) {b : Nat} {r : Value} {T' : List (List UInt8)} (hown : Owns w' w.heap.size 5 r Y) (hof : OffV S1' r) (hst : PStep w w' b S1 S1' T') : DC W0 lw ll Y S1' S2 (fun j => D j ∨ j = 8) (a.put (some 22) r) w' := by
  have ha : Alt w w' (fun k => S1 k ∨ S2 k) := hst.alt.mono fun _ _ q => .inl q
  refine ⟨below_alt h.below hst.alt h.below.size fun k hk => (h.lo1 k hk).1, fun k hk => ⟨(hst.new k hk).elim (fun q => (h.lo1 k q).1) (fun q => Nat.le_trans h.below.size q), hst.tab.low k hk⟩, fun k hk => ⟨(h.lo2 k hk).1, Nat.lt_of_lt_of_le (h.lo2 k hk).2 hst.alt.size⟩, fun k h1 h2 => (hst.new k h1).elim (fun q => h.ap k q h2) (fun q => by have := (h.lo2 k h2).2; omega), fun _ h8 => absurd (.inr rfl) h8, fun h3 h8 => ?_, fun t ht hd => ?_, fun t ht hd => ?_⟩
  · rw [eval_put_other _ _ (by omega)]
    obtain ⟨b, e, hp⟩ := h.t2 (h3.resolve_right (by omega)) fun q => h8 (.inl q)
    exact ⟨b, e, hp.alt hst.alt fun k h2 h1 => h.ap k h1 h2⟩
  · have := hl_slots t ht
    simp only [List.mem_cons, List.not_mem_nil, or_false] at this
    rw [eval_put_other _ _ (by omega)]
    exact (h.hs t ht (hd.resolve_right (by omega))).step ha hst.new (fun _ q => .inl q)
  · by_cases hti : t.1 = 8
    · have e : t = (8, 22) := by
        simp only [BL, List.mem_cons, List.not_mem_nil, or_false] at ht
        rcases ht with rfl | rfl
        · rfl
        · simp at hti
      rw [e]
      simp only
      rw [eval_put_same _ _ _ hsz]
      obtain ⟨A, c, rfl, hX⟩ := hown.holds
      exact ⟨A, _, c, rfl, hX, hof.off, (hown.off fun k hk => (h.lo2 k hk).2).off⟩
    · have e : t = (17, 31) := by
        simp only [BL, List.mem_cons, List.not_mem_nil, or_false] at ht
        rcases ht with rfl | rfl
        · simp at hti
        · rfl
      subst e
      rw [eval_put_other _ _ (by decide)]
      exact (h.bs _ (by decide) (hd.resolve_right (by decide))).step ha hst.new (fun _ q => .inl q)
/-- The reference has put. -/
theorem DC.rput (h : DC W0 lw ll Y S1 S2 D a w) (hsz : 31 < a.tmps.size) {b : Nat} {r : Value} {T' : List (List UInt8)} (hown : Owns w' w.heap.size 5 r Y) (hof : OffV S2' r) (hst : RStep w w' b S2 S2' T') : DC W0 lw ll Y S1 S2' (fun j => D j ∨ j = 17) (a.put (some 31) r) w' := by
  have ha : Alt w w' (fun k => S1 k ∨ S2 k) := hst.alt.mono fun _ _ q => .inr q
  refine ⟨below_alt h.below hst.alt h.below.size fun k hk => (h.lo2 k hk).1, fun k hk => ⟨(h.lo1 k hk).1, Nat.lt_of_lt_of_le (h.lo1 k hk).2 hst.alt.size⟩, fun k hk => ⟨(hst.new k hk).elim (fun q => (h.lo2 k q).1) (fun q => Nat.le_trans h.below.size q), hst.tab.low k hk⟩, fun k h1 h2 => (hst.new k h2).elim (fun q => h.ap k h1 q) (fun q => by have := (h.lo1 k h1).2; omega), fun h3 h8 => ?_, fun _ h8 => absurd (.inr rfl) h8, fun t ht hd => ?_, fun t ht hd => ?_⟩
  · rw [eval_put_other _ _ (by omega)]
    obtain ⟨b, e, hp⟩ := h.t1 (h3.resolve_right (by omega)) fun q => h8 (.inl q)
    exact ⟨b, e, hp.alt hst.alt fun k h1 h2 => h.ap k h1 h2⟩
  · have := hl_slots t ht
    simp only [List.mem_cons, List.not_mem_nil, or_false] at this
    rw [eval_put_other _ _ (by omega)]
    exact (h.hs t ht (hd.resolve_right (by omega))).step ha (fun _ q => .inl q) hst.new
  · by_cases hti : t.1 = 17
    · have e : t = (17, 31) := by
        simp only [BL, List.mem_cons, List.not_mem_nil, or_false] at ht
        rcases ht with rfl | rfl
        · simp at hti
        · rfl
      rw [e]
      simp only
      rw [eval_put_same _ _ _ hsz]
      obtain ⟨A, c, rfl, hX⟩ := hown.holds
      exact ⟨A, _, c, rfl, hX, (hown.off fun k hk => (h.lo1 k hk).2).off, hof.off⟩
    · have e : t = (8, 22) := by
        simp only [BL, List.mem_cons, List.not_mem_nil, or_false] at ht
        rcases ht with rfl | rfl
        · rfl
        · simp at hti
      subst e
      rw [eval_put_other _ _ (by decide)]
      exact (h.bs _ (by decide) (hd.resolve_right (by decide))).step ha (fun _ q => .inl q) hst.new
end
/-- Both tables, whichever blocks they have. -/
def DX (W0 : World) (lw ll : List Hd) (Y : List Int) (D : Nat → Prop) (a : Act) (w : World) : Prop := ∃ S1 S2, DC W0 lw ll Y S1 S2 D a w
theorem DX.calm {W0 w w' : World} {lw ll : List Hd} {Y : List Int} {D : Nat → Prop} {a : Act} (h : DX W0 lw ll Y D a w) {i s : Nat} (v : Value) (hb : Below w.heap.size w w') (hi : i ∉ [3, 5, 7, 8, 12, 14, 16, 17]) (hs : s ∉ [17, 19, 21, 22, 26, 28, 30, 31]) : DX W0 lw ll Y (fun j => D j ∨ j = i) (a.put (some s) v) w' := by
  obtain ⟨S1, S2, h⟩ := h
  exact ⟨S1, S2, h.calm v hb hi hs⟩
theorem DX.pure {W0 w : World} {lw ll : List Hd} {Y : List Int} {D : Nat → Prop} {a : Act} (h : DX W0 lw ll Y D a w) {i s : Nat} (v : Value) (hi : i ∉ [3, 5, 7, 8, 12, 14, 16, 17]) (hs : s ∉ [17, 19, 21, 22, 26, 28, 30, 31]) : DX W0 lw ll Y (fun j => D j ∨ j = i) (a.put (some s) v) w := h.calm v (Below.refl _ _) hi hs
theorem dx_start (w : World) (lw ll : List Hd) (Y : List Int) (a : Act) : DX w lw ll Y (fun _ => False) a w.drew :=
  ⟨fun _ => False, fun _ => False, (Below.refl _ _).drew, fun _ h => h.elim, fun _ h => h.elim, fun _ h => h.elim, fun h => h.elim, fun h => h.elim, fun _ _ h => h.elim, fun _ _ h => h.elim⟩
theorem DX.below {W0 w : World} {lw ll : List Hd} {Y : List Int} {D : Nat → Prop} {a : Act} (h : DX W0 lw ll Y D a w) : Below W0.heap.size W0 w := by
  obtain ⟨S1, S2, h⟩ := h
  exact h.below

section
variable {P : Program} {ops : Array Oper} {Q : Exit → Act → World → Prop} {i : Nat} {o : Oper} {a : Act} {w : World} {K : Act → World → Prop}
theorem wpOp_call4d (ho : ops[i]? = some o) (hw : Region.wanted o (yielded ops a.tmps) = true) (f : FuncId) (x y z t : Operand) (ts : Array TypeId) (hop : o.op = .call { callee := .value (.func f), args := #[x, y, z, t], argTypes := ts }) (u u' u'' u3 : Value) (hx : a.eval x = u) (hy : a.eval y = u') (hz : a.eval z = u'') (ht : a.eval t = u3)
    {R : Ending → World → Prop} (hcf : (callFunc f #[u, u', u'', u3]).run P w = .ok (.enter f #[u, u', u'', u3]) w) (hc : Calls P f #[u, u', u'', u3] w R) (hK : ∀ e w', R e w' → ∃ v, e = .returned v ∧ K (a.put o.dst v) w') : wpOp P ops Q i K a w :=
  wpOp_call ho hw f #[u, u', u'', u3] (by
    subst hx
    subst hy
    subst hz
    subst ht
    unfold execOp
    simp only [hop, resolve, Act.eval, Deferred.ofValue, invoke, Sem.run_bind, Sem.run_pure, Result.andThen_ok, List.map_toArray, List.map_cons, List.map_nil, Array.append_empty]
    exact hcf) hc hK
theorem wpOp_box (ho : ops[i]? = some o) (hw : Region.wanted o (yielded ops a.tmps) = true) (t : TypeId) (x : Operand) (hop : o.op = .box t x) (u v : Value) (w' : World) (hx : a.eval x = u) (hr : (Instr.box t u).run P w = .ok v w') (hK : K (a.put o.dst v) w') : wpOp P ops Q i K a w :=
  wpOp_value ho hw (v := v) (w' := w') (by simp only [execOp, hop, hx, Sem.run_bind, hr]; rfl) hK
end
theorem enters_few20 (vs : Array Value) (w : World) : (callFunc 8 vs).run Try.prog w = .ok (.enter 8 vs) w := by kernel_rfl
theorem enters_new20 (vs : Array Value) (w : World) : (callFunc 7 vs).run Try.prog w = .ok (.enter 7 vs) w := by kernel_rfl
theorem enters_put20 (vs : Array Value) (w : World) : (callFunc 6 vs).run Try.prog w = .ok (.enter 6 vs) w := by kernel_rfl
theorem enters_rput20 (vs : Array Value) (w : World) : (callFunc 9 vs).run Try.prog w = .ok (.enter 9 vs) w := by kernel_rfl
set_option maxRecDepth 100000 in
theorem run_buildT (w : World) : (Instr.build 33 #[]).run Try.prog w = .ok (.agg #[.slice Option.none 0 0]) w := by go_simp
set_option maxRecDepth 100000 in
theorem run_boxT (w : World) : (Instr.box 33 (.agg #[.slice Option.none 0 0])).run Try.prog w = .ok (.pointer (some ⟨w.heap.size, 0, Option.none⟩)) (w.alloc (.cells #[.slice Option.none 0 0] 33)) := by go_simp
set_option maxRecDepth 100000 in
theorem run_eqS20 (x y : Operand) (s : ByteArray) (w : World) : (do eqGuard .eql 9 x y (.string s) (.string s); binOp .eql 9 (.string s) (.string s) : Sem Value).run Try.prog w = .ok (.bool true) w := by go_simp
/-- What the slots hold where the law asks whether both have put the same. -/
def dqF (A : Option Addr) (n c : Nat) (Aw : Option Addr) (nw cw : Nat) (Al : Option Addr) (nl cl : Nat) (z : ByteArray) (j : Nat) (v : Value) (_ : World) : Prop :=
  match j with
  | 0 => v = .bool true
  | 1 => v = .bool true
  | 2 => v = .slice A n c
  | 3 => True
  | 4 => v = .slice Aw nw cw
  | 5 => True
  | 6 => v = .slice Al nl cl
  | 7 => True
  | 8 => True
  | 9 => v = .string z
  | 10 => v = .slice A n c
  | 11 => v = .agg #[.slice Option.none 0 0]
  | 12 => True
  | 13 => v = .slice Aw nw cw
  | 14 => True
  | 15 => v = .slice Al nl cl
  | 16 => True
  | 17 => True
  | 18 => v = .string z
  | 19 => v = .bool true
  | 20 => v = .bool true
  | 21 => v = .bool true
  | _ => True
theorem dqF_any {A : Option Addr} {n c : Nat} {Aw : Option Addr} {nw cw : Nat} {Al : Option Addr} {nl cl : Nat} {z : ByteArray} {j : Nat} {v : Value} {w w' : World} (h : dqF A n c Aw nw cw Al nl cl z j v w) : dqF A n c Aw nw cw Al nl cl z j v w' := by
  unfold dqF at h ⊢
  split at h
  all_goals exact h
end Go.Proofs.Ytkjnpdnihfohoaa
