/-
  What chunk.Unpack returns: as the plain function 'unpack' of the mathematics says, the bytes in memory of the call's own; nothing that was there is changed. Conditions: the slice reads as bytes, at most 1,000,000 of them; a table of numbers of 32 bits.
-/
import Derived.Test.YtaabhnjikggomaaChunkPieces
namespace Go.Proofs.Ytaabhnjikggomaa
open Go.RowKit Leb Go.Shelf

attribute [local go_sem] Oper.semAt_some

/-- The end of Unpack. -/
def Unpacked (w : World) (r : List Int × Int × Int) (e : Ending) (w' : World) : Prop :=
  ∃ v, e = .returned (.tuple #[v, .int .i64 r.2.1, .int .i64 r.2.2]) ∧ Owns w' w.heap.size 5 v r.1 ∧ Below w.heap.size w w'

/-- The offset after the last piece that has come. -/
def lastNext {w : World} (pre : List (PieceOf w)) : Int := match pre.getLast? with | some x => x.next | Option.none => 0
theorem lastNext_snoc {w : World} (pre : List (PieceOf w)) (x : PieceOf w) : lastNext (pre ++ [x]) = x.next := by simp [lastNext]

/-- Between two rounds. -/
def UnI (w : World) (pre : List (PieceOf w)) (W : World) : Prop :=
  (∃ v, Boxed W (w.heap.size + 1) 24 v ∧ Owns W w.heap.size 5 v (flat pre)) ∧ (Boxed W (w.heap.size + 2) 3 (.int .i64 (lastNext pre)) ∧ (Boxed W (w.heap.size + 3) 32 (.int .i64 0) ∧ ((∀ x ∈ pre, PieceOf.err x = 0) ∧ Below w.heap.size w W)))
/-- Where a round has left. -/
def UnIx (w : World) (c : Code) (pre : List (PieceOf w)) (W : World) : Prop :=
  (c = .ret ∧ ∃ x, pre.getLast? = some x ∧ PieceOf.err x ≠ 0) ∧ (Boxed W (w.heap.size + 1) 24 (.slice Option.none 0 0) ∧ (Boxed W (w.heap.size + 2) 3 (.int .i64 0) ∧ (Boxed W (w.heap.size + 3) 32 (.int .i64 (match pre.getLast? with | some x => x.err | Option.none => 0)) ∧ Below w.heap.size w W)))

theorem unI_own (w : World) (B : Nat) (hB : w.heap.size ≤ B) : OwnFrom B (UnI w) :=
  OwnFrom.and (Own.from (boxedOwns_own w.heap.size (w.heap.size + 1) 24 5 flat) _) (OwnFrom.and (Own.from (boxed_own _ _ (fun pre => .int .i64 (lastNext pre))) _) (OwnFrom.and (Own.from (boxed_own _ _ (fun _ => .int .i64 0)) _) (OwnFrom.and (ownFrom_pure _ _) (ownFrom_below (Nat.le_refl _) hB))))
theorem unIx_own (w : World) (B : Nat) (hB : w.heap.size ≤ B) (c : Code) : OwnFrom B (UnIx w c) :=
  OwnFrom.and (ownFrom_pure _ _) (OwnFrom.and (Own.from (boxed_own _ _ (fun _ => .slice Option.none 0 0)) _) (OwnFrom.and (Own.from (boxed_own _ _ (fun _ => .int .i64 0)) _) (OwnFrom.and (Own.from (boxed_own _ _ (fun pre : List (PieceOf w) => .int .i64 (match pre.getLast? with | some x => x.err | Option.none => 0))) _) (ownFrom_below (Nat.le_refl _) hB))))

set_option maxRecDepth 100000 in
set_option maxHeartbeats 400000 in
theorem unpack_out (t : Nat → Nat) (A : Option Addr) (k c : Nat) (s : List Int) (p : Int) (w : World) (hA : Holds w A k c s) (hp : p < 0 ∨ (k : Int) < p) :
    Calls Try.prog 13 #[.agg (cells32 t).toArray, .slice A k c, .int .i64 p] w (Unpacked w (Chunk.unpack (sum4 t) s p)) := by
  have e : Chunk.unpack (sum4 t) s p = ([], 0, 1) := by rw [Chunk.unpack, if_pos (by rw [hA.len]; exact hp)]
  rw [e]
  clear e
  have h1 := hA.cap
  have h2 := hA.room
  unfold maxLen at h2
  generalize (cells32 t).toArray = T at *
  have hB : Below w.heap.size w ((((w.alloc (.cells T 25)).alloc (.cells #[.slice Option.none 0 0] 24)).alloc (.cells #[.int .i64 0] 3)).alloc (.cells #[.int .i64 1] 32)) := ((((Below.refl _ w).alloc (Nat.le_refl _) _).alloc (by simp) _).alloc (by simp; omega) _).alloc (by simp; omega) _
  rcases hp with hp | hp
  · go_enter Try.func13, Try.ntmps13
    go_wp2
    exact bodyPost_ret (v := .tuple #[.slice Option.none 0 0, .int .i64 0, .int .i64 1]) (by simp [results, Try.results13, go_sem]) rfl ⟨_, rfl, owns_nil _ _ _, hB⟩
  · go_enter Try.func13, Try.ntmps13
    go_wp2
    exact bodyPost_ret (v := .tuple #[.slice Option.none 0 0, .int .i64 0, .int .i64 1]) (by simp [results, Try.results13, go_sem]) rfl ⟨_, rfl, owns_nil _ _ _, hB⟩

/-- The frame in a round. -/
def UnAx (T : Array Value) (A : Option Addr) (k c p : Nat) (w : World) (x : PieceOf w) (a' : Act) (W : World) : Prop :=
  ∃ Bx, w.heap.size + 4 ≤ Bx ∧ W.heap[Bx]? = some (.cells #[.slice x.1.1.1 x.1.1.2.1 x.1.1.2.2.1, .int .i64 x.1.2.1] 56 (0, 0)) ∧
    a' = { tmps := #[.agg T, .slice A k c, .int .i64 p, .pointer (some ⟨w.heap.size, 0, Option.none⟩), undef, undef, .pointer (some ⟨w.heap.size + 1, 0, Option.none⟩), .pointer (some ⟨w.heap.size + 2, 0, Option.none⟩), .pointer (some ⟨w.heap.size + 3, 0, Option.none⟩), .pointer (some ⟨Bx, 0, Option.none⟩), .int .i64 x.1.2.2, .int .i64 p, .bool false, .bool false, .int .i64 p, .slice A k c, .int .i64 k, .bool false, .bool false, .agg T, .slice A k c, .int .i64 p,
      .func (.func 27) #[] #[.pointer (some ⟨w.heap.size + 6, 0, Option.none⟩), .pointer (some ⟨w.heap.size + 4, 0, Option.none⟩), .pointer (some ⟨w.heap.size + 5, 0, Option.none⟩)],
      .agg #[.slice x.1.1.1 x.1.1.2.1 x.1.1.2.2.1, .int .i64 x.1.2.1], .int .i64 x.1.2.2, undef, undef, undef, undef, undef, undef, undef, undef, undef, undef, undef], defers := [] }
theorem unAx_own (T : Array Value) (A : Option Addr) (k c p : Nat) (w : World) (B : Nat) (x : PieceOf w) (a' : Act) : OwnFrom B (fun (_ : Unit) W => UnAx T A k c p w x a' W) := by
  rintro s X Y row ⟨Bx, h1, h2, h3⟩ hg hr
  exact ⟨Bx, h1, (Own.from (cells_own (β := Unit) Bx _ _) B) () X Y row h2 hg hr, h3⟩

set_option maxRecDepth 100000 in
set_option maxHeartbeats 4000000 in
theorem unpack_in (t : Nat → Nat) (ht : ∀ c, t c < 4294967296) (A : Option Addr) (k c : Nat) (s : List Int) (p : Nat) (w : World) (hA : Holds w A k c s) (hk : k ≤ 1000000) (hp : p ≤ k) :
    Calls Try.prog 13 #[.agg (cells32 t).toArray, .slice A k c, .int .i64 p] w (Unpacked w (Chunk.unpack (sum4 t) s p)) := by
  refine (callsIn_wide (n := 10)).1 ?_
  have h1 := hA.cap
  have h2 := hA.room
  unfold maxLen at h2
  have e : Chunk.unpack (sum4 t) s p = Chunk.unp (sum4 t) s (s.length + 1) p true [] := by rw [Chunk.unpack, if_neg (by rw [hA.len]; omega), Int.toNat_natCast]
  rw [e]
  clear e
  obtain ⟨T, hTT⟩ : ∃ T, T = (cells32 t).toArray := ⟨_, rfl⟩
  rw [← hTT]
  have hri : (Try.prog.info? 25).map (·.size) = some T.size := by rw [hTT, info32]; simp [length_cells32]
  have HTT := Lib.hid hTT
  clear hTT
  obtain ⟨i0, hi, hz0, hz1, hz2⟩ := info_parts Try.info8
  have bT1 := heap_alloc2_old w (.cells T 25) (.cells #[.slice Option.none 0 0] 24)
  have bT : ((((w.alloc (.cells T 25)).alloc (.cells #[.slice Option.none 0 0] 24)).alloc (.cells #[.int .i64 0] 3)).alloc (.cells #[.int .i64 0] 32)).heap[w.heap.size]? = some (.cells T 25 (0, 0)) := by
    rw [Below.heap_alloc _ _ _ (by simp; omega), Below.heap_alloc _ _ _ (by simp; omega)]
    exact bT1
  clear bT1
  refine callsIn_of_wp_marks Try.func13 rfl trivial ?_ rfl
  simp only [Try.ntmps13, List.size_toArray, List.length_cons, List.length_nil, Nat.reduceAdd, Nat.reduceSub, Array.replicate_succ, Array.replicate_zero, List.push_toArray, List.append_toArray, List.nil_append, List.cons_append]
  gi_wp2_with (first
    | (with_reducible refine wpListIn_row_wide rfl _ _ rfl w.heap.size rfl 25 T (0, 0) _ bT Try.underlying25 rfl hri ?_)
    | (refine ⟨trivial, ?_⟩; gi_at_call 23; refine (pieces_in _ _ _ _ _ _ _).mono ?_; rintro e w' ⟨rfl, rfl⟩))
  obtain ⟨W0, hW0⟩ : ∃ W0, ((((((w.alloc (.cells T 25)).alloc (.cells #[.slice Option.none 0 0] 24)).alloc (.cells #[.int .i64 0] 3)).alloc (.cells #[.int .i64 0] 32)).alloc (.cells T 25)).alloc (.cells #[.slice A k c] 24)).alloc (.cells #[.int .i64 p] 3) = W0 := ⟨_, rfl⟩
  have hsz : W0.heap.size = w.heap.size + 7 := by rw [← hW0]; simp
  have hB0 : Below w.heap.size w W0 := by
    rw [← hW0]
    exact (((((((Below.refl _ w).alloc (Nat.le_refl _) _).alloc (by simp) _).alloc (by simp; omega) _).alloc (by simp; omega) _).alloc (by simp; omega) _).alloc (by simp; omega) _).alloc (by simp; omega) _
  have b1 : Boxed W0 (w.heap.size + 1) 24 (.slice Option.none 0 0) := by
    have := (((((Boxed.new (w.alloc (.cells T 25)) 24 (.slice Option.none 0 0)).alloc (.cells #[.int .i64 0] 3)).alloc (.cells #[.int .i64 0] 32)).alloc (.cells T 25)).alloc (.cells #[.slice A k c] 24)).alloc (.cells #[.int .i64 p] 3)
    rw [hW0] at this
    simpa using this
  have b2 : Boxed W0 (w.heap.size + 2) 3 (.int .i64 0) := by
    have := ((((Boxed.new ((w.alloc (.cells T 25)).alloc (.cells #[.slice Option.none 0 0] 24)) 3 (.int .i64 0)).alloc (.cells #[.int .i64 0] 32)).alloc (.cells T 25)).alloc (.cells #[.slice A k c] 24)).alloc (.cells #[.int .i64 p] 3)
    rw [hW0] at this
    simpa using this
  have b3 : Boxed W0 (w.heap.size + 3) 32 (.int .i64 0) := by
    have := (((Boxed.new (((w.alloc (.cells T 25)).alloc (.cells #[.slice Option.none 0 0] 24)).alloc (.cells #[.int .i64 0] 3)) 32 (.int .i64 0)).alloc (.cells T 25)).alloc (.cells #[.slice A k c] 24)).alloc (.cells #[.int .i64 p] 3)
    rw [hW0] at this
    simpa using this
  have b4 : W0.heap[w.heap.size + 4]? = some (.cells T 25 (0, 0)) := by
    rw [← hW0, Below.heap_alloc _ _ _ (by simp), Below.heap_alloc _ _ _ (by simp)]
    have := World.alloc_heap_new ((((w.alloc (.cells T 25)).alloc (.cells #[.slice Option.none 0 0] 24)).alloc (.cells #[.int .i64 0] 3)).alloc (.cells #[.int .i64 0] 32)) (.cells T 25)
    simpa using this
  have b5 : Boxed W0 (w.heap.size + 5) 24 (.slice A k c) := by
    have := (Boxed.new (((((w.alloc (.cells T 25)).alloc (.cells #[.slice Option.none 0 0] 24)).alloc (.cells #[.int .i64 0] 3)).alloc (.cells #[.int .i64 0] 32)).alloc (.cells T 25)) 24 (.slice A k c)).alloc (.cells #[.int .i64 p] 3)
    rw [hW0] at this
    simpa using this
  have b6 : Boxed W0 (w.heap.size + 6) 3 (.int .i64 p) := by
    have := Boxed.new ((((((w.alloc (.cells T 25)).alloc (.cells #[.slice Option.none 0 0] 24)).alloc (.cells #[.int .i64 0] 3)).alloc (.cells #[.int .i64 0] 32)).alloc (.cells T 25)).alloc (.cells #[.slice A k c] 24)) 3 (.int .i64 p)
    rw [hW0] at this
    simpa using this
  have bp : decide ((p : Int) < 0) = false := by simp
  simp only [hW0, bp, Nat.add_assoc, Nat.reduceAdd]
  clear hW0 bp bT
  refine wpIn_rangeFunc_ownH rfl (by omega) (gf := 27) (lb := #[.pointer (some ⟨w.heap.size + 6, 0, Option.none⟩), .pointer (some ⟨w.heap.size + 4, 0, Option.none⟩), .pointer (some ⟨w.heap.size + 5, 0, Option.none⟩)]) rfl trivial (enters_of Try.func27 (by kernel_rfl) rfl)
    (pieces_stops 9 t ht T HTT.out w (w.heap.size + 4) (w.heap.size + 5) (w.heap.size + 6) [w.heap.size + 1, w.heap.size + 2, w.heap.size + 3] (by simp) (by simp) A k c p s hA hk hp (by omega) W0 (by intro i hi; simp at hi; omega) hB0 b4 b5 b6) kept_t (kept_b (by omega)) (Below.refl _ _) (fun _ => rfl)
    (UnI w) (UnIx w) (unI_own w _ (by omega)) (unIx_own w _ (by omega)) ⟨⟨_, b1, owns_nil _ _ _⟩, b2, b3, (fun _ h => by cases h), hB0⟩
    (UnAx T A k c p w) (unAx_own T A k c p w _) ?assign ?body ?done ?stop
  case assign =>
    rintro l pre x W K hI hK
    have hI1 := fun o => (unI_own w w.heap.size (Nat.le_refl _)).alloc o hI
    have hws := hI.2.2.2.2.size
    have hW4 := hI.2.2.1.lt
    obtain ⟨⟨⟨B, m, d, ls⟩, q, e0⟩, hx1, hx2⟩ := x
    simp only at hx1 hx2
    simp only [PieceOf.vals]
    gi_wp2
    exact hK _ _ ((KeepsOthers.alloc _ _).from _) (kept_of_below ((Below.refl _ _).alloc (Nat.le_refl _) _) hws) (hI1 _) ⟨W.heap.size, by omega, World.alloc_heap_new W _, rfl⟩
  case body =>
    rintro l pre x a' W hl - ⟨⟨v, hv, hown⟩, bn, be, hall, hB⟩ ⟨Bx, hBx, bX, rfl⟩ hlt
    have hfl := flat_length pre
    have hfs := flat_snoc pre x
    have hls := lastNext_snoc pre x
    have hgl : (pre ++ [x]).getLast? = some x := by simp
    have hye : PieceOf.err x = x.1.2.2 := rfl
    have hal : x.1.2.2 = 0 → ∀ z ∈ pre ++ [x], PieceOf.err z = 0 := fun h z hz => by
      rcases List.mem_append.1 hz with h1 | h1
      · exact hall z h1
      · rw [List.mem_singleton] at h1
        rw [h1]
        exact h
    obtain ⟨⟨⟨B, m, d, ls⟩, q, e0⟩, hx1, hx2⟩ := x
    simp only at hx1 hx2 bX hye hal
    have Hfs := Lib.hid hfs
    have Hls := Lib.hid hls
    have Hgl := Lib.hid hgl
    have Hye := Lib.hid hye
    have Hal := Lib.hid hal
    clear hfs hls hye hal hgl hall
    have hws := hB.size
    have hcX0 : W.cell? ⟨Bx, 0, Option.none⟩ = some (.slice B m d) := by rw [cell_of_row _ _ _ _ _ _ bX]; rfl
    have hcn := bn.cell
    have hfn := bn.frozen
    have hce := be.cell
    have hfe := be.frozen
    have hcv := hv.cell
    have hfv := hv.frozen
    by_cases he : e0 = 0
    · subst he
      gi_wp2_with (gi_at_builtin; refine wpListIn_append_bytes rfl (.tmp 28) (.tmp 30) 24 rfl w.heap.size 5 i0 Try.underlying24 hi hz0 hz1 hz2 v (flat pre) rfl hown B m d ls rfl (hx1.later hB) (by omega) hws ?_; intro v2 w2 hown2 hg2 hat2; obtain ⟨L2, hL2⟩ : ∃ L2, L2 = flat pre ++ ls := ⟨_, rfl⟩; rw [← hL2] at hown2; have HL2 := Lib.hid hL2; clear hL2 hcX0 hcn hfn hce hfe hcv hfv; obtain ⟨A2, c2, rfl, _⟩ := hown2.holds; obtain ⟨hv2, hv3, hown3, hko3, hkp3⟩ := boxed_append (Bs := [w.heap.size + 1, w.heap.size + 2, w.heap.size + 3]) hv (by decide) hown hown2 hg2 hws (by omega) (by simp); have hc2 := hv2.cell; have hf2 := hv2.frozen; have bX3 := hkp3.other _ _ _ _ (by simp; omega) (by decide) bX; have bn3 := (bn.kept hg2 (bn.not_row (by decide) hown.2)).other (B' := w.heap.size + 1) (by omega) (.slice A2 L2.length c2); have be3 := (be.kept hg2 (be.not_row (by decide) hown.2)).other (B' := w.heap.size + 1) (by omega) (.slice A2 L2.length c2); have hcX1 : (w2.setCell ⟨w.heap.size + 1, 0, Option.none⟩ (.slice A2 L2.length c2)).cell? ⟨Bx, 1, Option.none⟩ = some (.int .i64 q) := (by rw [cell_of_row _ _ _ _ _ _ bX3]; rfl); have hcn3 := bn3.cell; have hfn3 := bn3.frozen)
      have hoW := (hko3.trans (KeepsOthers.setCell _ ⟨w.heap.size + 2, 0, Option.none⟩ (.int .i64 q))).from (w.heap.size + 7)
      have hkW := hkp3.trans (kept_set (B := w.heap.size + 2) (by simp) (by omega) _ (.int .i64 q))
      refine ⟨hoW, hkW, ⟨_, hv3.other (B' := w.heap.size + 2) (by omega) _, ?_⟩, ?_, be3.other (B' := w.heap.size + 2) (by omega) _, Hal.out (by simp), hB.trans hkW.below⟩
      · rw [Hfs.out]
        have : Owns (w2.setCell ⟨w.heap.size + 1, 0, Option.none⟩ (.slice A2 L2.length c2)) w.heap.size 5 (.slice A2 L2.length c2) (flat pre ++ ls) := by rw [← HL2.out]; exact hown3
        exact ⟨this.1, this.2.kept (grownBy_setCell' _ (w.heap.size + 2) _) (.inr (fun e => by
          obtain ⟨_, cs, hcs⟩ := own_cells this e
          rw [show _ = _ from bn3] at hcs
          cases hcs))⟩
      · rw [Hls.out]
        exact bn3.set _
    · have b0 : (e0 == 0) = false := by rw [beq_eq_false_iff_ne]; exact he
      gi_wp2
      refine ⟨(((KeepsOthers.setCell _ _ _).trans (KeepsOthers.setCell _ _ _)).trans (KeepsOthers.setCell _ _ _)).from _, ⟨rfl, _, Hgl.out, ?_⟩, ((hv.set _).other (B' := w.heap.size + 2) (by omega) _).other (B' := w.heap.size + 3) (by omega) _, ((bn.other (B' := w.heap.size + 1) (by omega) _).set _).other (B' := w.heap.size + 3) (by omega) _, ?_, ((hB.setCell (p := ⟨w.heap.size + 1, 0, Option.none⟩) (by simp) _).setCell (p := ⟨w.heap.size + 2, 0, Option.none⟩) (by simp) _).setCell (p := ⟨w.heap.size + 3, 0, Option.none⟩) (by simp) _⟩
      · rw [Hye.out]
        exact he
      · rw [Hgl.out]
        exact ((be.other (B' := w.heap.size + 1) (by omega) _).other (B' := w.heap.size + 2) (by omega) _).set _
  case done =>
    rintro D xs W hD ⟨pre, x, rfl, hh⟩ ⟨⟨v, hv, hown⟩, bn, be, hall, hB⟩ hK
    have htot := hh.resolve_left (fun h => h (hall x (by simp)))
    rw [lastNext_snoc] at bn
    have Htot := Lib.hid htot
    clear hh htot hall
    generalize flat (pre ++ [x]) = L at *
    generalize x.next = q at *
    obtain ⟨A2, c2, rfl, _⟩ := hown.holds
    have hcv := hv.cell
    have hfv := hv.frozen
    have hcn := bn.cell
    have hfn := bn.frozen
    have hce := be.cell
    have hfe := be.frozen
    gi_wp2
    refine wpIn_wide.2 ?_
    go_region
    clear hcv hfv hcn hfn hce hfe
    obtain ⟨X, hX⟩ : ∃ X, (((W.setCell ⟨w.heap.size + 1, 0, Option.none⟩ (.slice A2 L.length c2)).setCell ⟨w.heap.size + 2, 0, Option.none⟩ (.int .i64 q)).setCell ⟨w.heap.size + 3, 0, Option.none⟩ (.int .i64 0)).drew = X := ⟨_, rfl⟩
    have hK' : X.heap[D]? = some (.deferred (some [])) := by
      rw [← hX]
      exact ((((KeepsOthers.setCell _ _ _).trans (KeepsOthers.setCell _ _ _)).trans (KeepsOthers.setCell _ _ _)).trans (KeepsOthers.drew _)).same D _ hK rfl
    have b1 : Boxed X (w.heap.size + 1) 24 (.slice A2 L.length c2) := by
      rw [← hX]
      exact ((hv.set _).other (B' := w.heap.size + 2) (by omega) _).other (B' := w.heap.size + 3) (by omega) _
    have b2 : Boxed X (w.heap.size + 2) 3 (.int .i64 q) := by
      rw [← hX]
      exact ((bn.other (B' := w.heap.size + 1) (by omega) _).set _).other (B' := w.heap.size + 3) (by omega) _
    have b3 : Boxed X (w.heap.size + 3) 32 (.int .i64 0) := by
      rw [← hX]
      exact ((be.other (B' := w.heap.size + 1) (by omega) _).other (B' := w.heap.size + 2) (by omega) _).set _
    have hBX : Below w.heap.size w X := by
      rw [← hX]
      exact (((hB.setCell (p := ⟨w.heap.size + 1, 0, Option.none⟩) (by simp) _).setCell (p := ⟨w.heap.size + 2, 0, Option.none⟩) (by simp) _).setCell (p := ⟨w.heap.size + 3, 0, Option.none⟩) (by simp) _).drew
    have hoX : Owns X w.heap.size 5 (.slice A2 L.length c2) L := by
      rw [← hX]
      refine ⟨hown.1, ?_⟩
      have o1 := hown.2.kept (grownBy_setCell' W (w.heap.size + 1) (.slice A2 L.length c2)) (.inr (hv.not_row (by decide) hown.2).symm)
      have o2 := o1.kept (grownBy_setCell' _ (w.heap.size + 2) (.int .i64 q)) (.inr ((bn.other (B' := w.heap.size + 1) (by omega) _).not_row (by decide) o1).symm)
      have o3 := o2.kept (grownBy_setCell' _ (w.heap.size + 3) (.int .i64 0)) (.inr (((be.other (B' := w.heap.size + 1) (by omega) _).other (B' := w.heap.size + 2) (by omega) _).not_row (by decide) o2).symm)
      exact o3
    rw [hX]
    clear hX hv hown bn be hB hK
    have hB1 := hBX.trans (belowK_b (w := w) (Nat.le_refl _) X D _ (.deferred Option.none) (by omega) hK' rfl rfl)
    have b1' := ((boxed_own (β := Unit) _ _ (fun _ => .slice A2 L.length c2)).from 0).putObj (s := ()) (.deferred Option.none) b1 (Nat.zero_le _) hK' rfl
    have b2' := ((boxed_own (β := Unit) _ _ (fun _ => .int .i64 q)).from 0).putObj (s := ()) (.deferred Option.none) b2 (Nat.zero_le _) hK' rfl
    have b3' := ((boxed_own (β := Unit) _ _ (fun _ => .int .i64 0)).from 0).putObj (s := ()) (.deferred Option.none) b3 (Nat.zero_le _) hK' rfl
    have d1 := b1'.cell
    have d2 := b2'.cell
    have d3 := b3'.cell
    gi_wp2
    rw [Htot.out]
    refine ⟨by simp, .inl ⟨_, _, rfl, run_takeDeferred hK', ?_⟩⟩
    exact ⟨.tuple #[.slice A2 L.length c2, .int .i64 q, .int .i64 0], by simp [results, Try.results13, go_sem, d1, d2, d3], _, rfl, hoX.putObj _ hK' rfl, hB1⟩
  case stop =>
    rintro D c pre W hD ⟨pre', x', hp', htot⟩ ⟨⟨rfl, x, hx, hxe⟩, b1, b2, b3, hB⟩ hK
    have e1 : x' = x := by
      rw [hp'] at hx
      simpa using hx
    subst e1
    rw [htot hxe]
    simp only [hx] at b3
    clear htot hp' hx
    generalize x'.err = q at *
    have hB1 := hB.trans (belowK_b (w := w) (Nat.le_refl _) W D _ (.deferred Option.none) (by omega) hK rfl rfl)
    have b1' := ((boxed_own (β := Unit) _ _ (fun _ => .slice Option.none 0 0)).from 0).putObj (s := ()) (.deferred Option.none) b1 (Nat.zero_le _) hK rfl
    have b2' := ((boxed_own (β := Unit) _ _ (fun _ => .int .i64 0)).from 0).putObj (s := ()) (.deferred Option.none) b2 (Nat.zero_le _) hK rfl
    have b3' := ((boxed_own (β := Unit) _ _ (fun _ => .int .i64 q)).from 0).putObj (s := ()) (.deferred Option.none) b3 (Nat.zero_le _) hK rfl
    have c1 := b1'.cell
    have c2 := b2'.cell
    have c3 := b3'.cell
    gi_wp2
    refine ⟨by simp, .inl ⟨_, _, rfl, run_takeDeferred hK, ?_⟩⟩
    exact ⟨.tuple #[.slice Option.none 0 0, .int .i64 0, .int .i64 q], by simp [results, Try.results13, go_sem, c1, c2, c3], _, rfl, owns_nil _ _ _, hB1⟩

/-- Unpack, for any bytes and any offset. -/
theorem unpack_any (t : Nat → Nat) (ht : ∀ c, t c < 4294967296) (A : Option Addr) (k c : Nat) (s : List Int) (p : Int) (w : World) (hA : Holds w A k c s) (hk : k ≤ 1000000) :
    Calls Try.prog 13 #[.agg (cells32 t).toArray, .slice A k c, .int .i64 p] w (Unpacked w (Chunk.unpack (sum4 t) s p)) := by
  by_cases h : p < 0 ∨ (k : Int) < p
  · exact unpack_out t A k c s p w hA h
  · obtain ⟨q, rfl⟩ : ∃ q : Nat, p = q := ⟨p.toNat, by omega⟩
    exact unpack_in t ht A k c s q w hA hk (by omega)
end Go.Proofs.Ytaabhnjikggomaa
