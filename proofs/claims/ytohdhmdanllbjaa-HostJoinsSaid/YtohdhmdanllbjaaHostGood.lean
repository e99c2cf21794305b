/-
  host.Good as the program has it: whether a host is valid. Conditions: the text is no longer than any text may be.
-/
import Derived.Test.YtohdhmdanllbjaaHostParts
namespace Go.Proofs.Ytohdhmdanllbjaa
open Go.RowKit Go.Lib Go.Shelf

attribute [local go_sem] Oper.semAt_some

set_option maxRecDepth 100000 in
set_option maxHeartbeats 400000 in
theorem good_long (s : ByteArray) (hs : s.size ≤ maxLen) (h : 253 < s.size) (w : World) : Calls Try.prog 7 #[.string s] w fun e w' => e = .returned (.bool (hgood s.data.toList)) ∧ Below w.heap.size w w' := by
  rw [hgood_len (by rw [← size_len]; exact h)]
  have hm : s.size ≤ 9223372036854775807 := by unfold maxLen at hs; exact hs
  have hB : Below w.heap.size w (w.alloc (.cells #[.bool false] 4)) := (Below.refl _ w).alloc (Nat.le_refl _) _
  go_enter Try.func7, Try.ntmps7
  go_wp2
  exact bodyPost_ret (v := .bool false) (by simp [results, Try.results7, go_sem]) rfl ⟨rfl, hB⟩

/-- Between two rounds. -/
def GdI (w : World) (pre : List Txt) (W : World) : Prop := Boxed W w.heap.size 4 (.bool false) ∧ (((texts pre).all hpart = true) ∧ Below w.heap.size w W)
/-- Where a round has left. -/
def GdIx (w : World) (c : Code) (pre : List Txt) (W : World) : Prop := (c = .ret ∧ (texts pre).all hpart = false) ∧ (Boxed W w.heap.size 4 (.bool false) ∧ Below w.heap.size w W)

theorem gdI_own (w : World) (B : Nat) (hB : w.heap.size ≤ B) : OwnFrom B (GdI w) :=
  OwnFrom.and (Own.from (boxed_own _ _ (fun _ => .bool false)) _) (OwnFrom.and (ownFrom_pure _ _) (ownFrom_below (Nat.le_refl _) hB))
theorem gdIx_own (w : World) (B : Nat) (hB : w.heap.size ≤ B) (c : Code) : OwnFrom B (GdIx w c) :=
  OwnFrom.and (ownFrom_pure _ _) (OwnFrom.and (Own.from (boxed_own _ _ (fun _ => .bool false)) _) (ownFrom_below (Nat.le_refl _) hB))

set_option maxRecDepth 100000 in
set_option maxHeartbeats 4000000 in
theorem good_short (s : ByteArray) (h : s.size ≤ 253) (w : World) : Calls Try.prog 7 #[.string s] w fun e w' => e = .returned (.bool (hgood s.data.toList)) ∧ Below w.heap.size w w' := by
  have hs : s.size ≤ maxLen := by simp only [maxLen]; omega
  have hm : s.size ≤ 9223372036854775807 := by omega
  rw [hgood_of (by rw [← size_len]; exact h)]
  refine (callsIn_wide (n := 10)).1 ?_
  refine callsIn_of_wp_marks Try.func7 rfl trivial ?_ rfl
  simp only [Try.ntmps7, List.size_toArray, List.length_cons, List.length_nil, Nat.reduceAdd, Nat.reduceSub, Array.replicate_succ, Array.replicate_zero, List.push_toArray, List.append_toArray, List.nil_append, List.cons_append]
  gi_wp2_with (refine ⟨trivial, ?_⟩; gi_at_call 15; refine (parts_in _ _ _).mono ?_; rintro e w' ⟨rfl, rfl⟩)
  obtain ⟨W0, hW0⟩ : ∃ W0, (w.alloc (.cells #[.bool false] 4)).alloc (.cells #[.string s] 9) = W0 := ⟨_, rfl⟩
  have hsz : W0.heap.size = w.heap.size + 2 := by rw [← hW0]; simp
  have hB0 : Below w.heap.size w W0 := by
    rw [← hW0]
    exact ((Below.refl _ w).alloc (Nat.le_refl _) _).alloc (by simp) _
  have b0 : Boxed W0 w.heap.size 4 (.bool false) := by
    have := (Boxed.new w 4 (.bool false)).alloc (.cells #[.string s] 9)
    rw [hW0] at this
    exact this
  have b1 : Boxed W0 (w.heap.size + 1) 9 (.string s) := by
    have := Boxed.new (w.alloc (.cells #[.bool false] 4)) 9 (.string s)
    rw [World.size_alloc, hW0] at this
    exact this
  have bd : decide ((253 : Int) < s.size) = false := by rw [decide_eq_false_iff_not]; omega
  simp only [hW0, bd]
  clear hW0 bd
  refine wpIn_rangeFunc_ownG rfl (by omega) (gf := 21) (lb := #[.pointer (some ⟨w.heap.size + 1, 0, Option.none⟩)]) rfl trivial (enters_of Try.func21 (by kernel_rfl) rfl)
    (parts_stops 9 s hs (w.heap.size + 1) w.heap.size (by omega) W0 b1) belowK_t (belowK_b (by omega)) (Below.refl _ _) (fun _ => rfl)
    (GdI w) (GdIx w) (gdI_own w _ (by omega)) (gdIx_own w _ (by omega)) ⟨b0, rfl, hB0⟩
    (fun x => { tmps := #[.string s, undef, .pointer (some ⟨w.heap.size, 0, Option.none⟩), .string x.1, .string s, .int .i64 s.size, .bool false, .string s, .func (.func 21) #[] #[.pointer (some ⟨w.heap.size + 1, 0, Option.none⟩)], .string x.1, undef, undef, undef], defers := [] }) ?assign ?body ?done ?stop
  case assign =>
    intro l x W K hK
    gi_wp2
    exact hK
  case body =>
    rintro l pre x W ⟨hb, hall, hB⟩ hlt
    have hsn := texts_snoc pre x
    obtain ⟨x, hx⟩ := x
    simp only at hsn
    have Hall : Hid ((texts (pre ++ [⟨x, hx⟩])).all hpart = hpart x.data.toList) := Lib.hid (by rw [hsn, List.all_append, hall]; simp)
    have hgp := fun W' => goodPart_any x hx W'
    clear hsn hall
    have hc := hb.cell
    have hf := hb.frozen
    by_cases hp : hpart x.data.toList = true
    · rw [hp] at hgp Hall
      have Hgp := Lib.hid hgp
      clear hgp hp
      gi_wp2_with (refine ⟨trivial, ?_⟩; gi_at_call 16; refine (CallsIn.inRound l (callsIn_wide.2 (Hgp.out _))).mono ?_; rintro e w' ⟨rfl, hw⟩; subst hw)
      exact ⟨(KeepsOthers.refl _).from _, Below.refl _ _, hb, Hall.out, hB⟩
    · have hp' : hpart x.data.toList = false := Bool.eq_false_iff.2 hp
      rw [hp'] at hgp Hall
      have Hgp := Lib.hid hgp
      clear hgp hp hp'
      gi_wp2_with (refine ⟨trivial, ?_⟩; gi_at_call 16; refine (CallsIn.inRound l (callsIn_wide.2 (Hgp.out _))).mono ?_; rintro e w' ⟨rfl, hw⟩; subst hw)
      exact ⟨(KeepsOthers.setCell _ _ _).from _, ⟨rfl, Hall.out⟩, hb.set _, hB.setCell (p := ⟨w.heap.size, 0, Option.none⟩) (Nat.le_refl _) _⟩
  case done =>
    rintro D ys W hD hys ⟨hb, hall, hB⟩ hK
    rw [hys] at hall
    have Hall := Lib.hid hall
    clear hall
    have hc := hb.cell
    have hf := hb.frozen
    gi_wp2
    have hK' : (W.setCell ⟨w.heap.size, 0, Option.none⟩ (.bool true)).heap[D]? = some (.deferred (some [])) := (KeepsOthers.setCell _ _ _).same D _ hK rfl
    have b2 := ((boxed_own (β := Unit) _ _ (fun _ => .bool true)).from 0).putObj (s := ()) (.deferred Option.none) (hb.set (.bool true)) (Nat.zero_le _) hK' rfl
    have c2 := b2.cell
    have hB1 := (hB.setCell (p := ⟨w.heap.size, 0, Option.none⟩) (Nat.le_refl _) (.bool true)).trans (belowK_b (w := w) (Nat.le_refl _) _ D _ (.deferred Option.none) (by omega) hK' rfl rfl)
    refine ⟨by simp, .inl ⟨_, _, rfl, run_takeDeferred hK', ?_⟩⟩
    exact ⟨.bool true, by simp [results, Try.results7, go_sem, c2], ret_bool Hall.out.symm, hB1⟩
  case stop =>
    rintro D c pre W hD hpre ⟨⟨rfl, hbad⟩, hb, hB⟩ hK
    have hall : (hdots s.data.toList).all hpart = false := by
      obtain ⟨q, hq⟩ := hpre
      rw [← hq, List.all_append, hbad]
      rfl
    have Hall := Lib.hid hall
    clear hall hbad hpre
    have b2 := ((boxed_own (β := Unit) _ _ (fun _ => .bool false)).from 0).putObj (s := ()) (.deferred Option.none) hb (Nat.zero_le _) hK rfl
    have c2 := b2.cell
    have hB1 := hB.trans (belowK_b (w := w) (Nat.le_refl _) W D _ (.deferred Option.none) (by omega) hK rfl rfl)
    gi_wp2
    refine ⟨by simp, .inl ⟨_, _, rfl, run_takeDeferred hK, ?_⟩⟩
    exact ⟨.bool false, by simp [results, Try.results7, go_sem, c2], ret_bool Hall.out.symm, hB1⟩

/-- Good, for any text. -/
theorem good_any (s : ByteArray) (hs : s.size ≤ maxLen) (w : World) : Calls Try.prog 7 #[.string s] w fun e w' => e = .returned (.bool (hgood s.data.toList)) ∧ Below w.heap.size w w' := by
  by_cases h : 253 < s.size
  · exact good_long s hs h w
  · exact good_short s (by omega) w
end Go.Proofs.Ytohdhmdanllbjaa
