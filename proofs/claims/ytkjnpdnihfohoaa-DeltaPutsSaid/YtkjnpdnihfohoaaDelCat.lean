/-
  slices.Grow and slices.Concat at headers, and slices.Clone of bytes, as delta calls them. Conditions: those that each theorem states.
-/
import Derived.Test.YtkjnpdnihfohoaaDelShelf
import Derived.Test.YtkjnpdnihfohoaaDelOps
import Derived.Test.YtkjnpdnihfohoaaTabDuo
namespace Go.Proofs.Ytkjnpdnihfohoaa
open Go.RowKit Go.Lib Go.Shelf

/-- slices.Grow of no slice. -/
theorem grow20_pos (m : Nat) (h1 : 0 < m) (hm : m ≤ 100000) (w : World) :
    Calls Try.prog 33 #[.slice Option.none 0 0, .int .i64 m] w (GivesH w []) := by
  obtain ⟨i0, hi, hz0, hz1, hz2⟩ := info_parts Try.infoHd
  refine (Any8.slices_Grow_grow Try.laysGrow i0 _ hi hz0 (by rw [hz1]; omega) Option.none 0 0 m [] w (Nat.le_refl _) (by omega) (by rw [hz2]; omega) (by omega) (by rw [Nat.zero_mul]; rfl) (fun _ => rfl) (fun a e => by cases e)).mono ?_
  rintro e w' ⟨rfl, rfl⟩
  refine ⟨_, rfl, ?_, (Below.refl _ _).drew.alloc (Nat.le_refl _) _⟩
  have hG := grownCap_ge w (0 + m) 0 (Try.laysGrow_ren.t 25)
  have hG2 := grownCap_le_maxLen w (0 + m) 0 (Try.laysGrow_ren.t 25) (by unfold maxLen; omega)
  generalize grownCap w (0 + m) 0 (Try.laysGrow_ren.t 25) = G at hG hG2
  refine World.ownsRow_made w.drew _ G (Nat.le_refl _) hG2 ?_
  have hc : (Value.agg #[.string ByteArray.empty, .string ByteArray.empty]).cells.size = 2 := rfl
  simp only [Array.size_append, size_zeroCells, hc, List.size_toArray, List.length_nil]
  omega

/-- slices.Grow of no slice, by no headers too. -/
theorem grow20_any (m : Nat) (hm : m ≤ 100000) (w : World) :
    Calls Try.prog 33 #[.slice Option.none 0 0, .int .i64 m] w (GivesH w []) := by
  by_cases h : 0 < m
  · exact grow20_pos m h hm w
  · obtain rfl : m = 0 := by omega
    refine (Any8.slices_Grow_room Try.laysGrow Option.none 0 0 0 w (Nat.le_refl _) (by omega) (by omega) (by omega)).mono ?_
    rintro e w' ⟨rfl, rfl⟩
    exact ⟨_, rfl, World.ownsRow_nil _ _ _ _, Below.refl _ _⟩

/-- Tri20 slices of headers, in a block of their own. -/
structure Tri20 (w : World) (g : Nat) (v1 v2 v3 : Value) (l1 l2 l3 : List Hd) : Prop where
  c1 : w.cell? ⟨g, 0, Option.none⟩ = some v1
  c2 : w.cell? ⟨g, 1, Option.none⟩ = some v2
  c3 : w.cell? ⟨g, 2, Option.none⟩ = some v3
  h1 : HH l1 v1 w
  h2 : HH l2 v2 w
  h3 : HH l3 v3 w

/-- The second loop of slices.Concat. -/
def CatRel20 (w : World) (ls : Nat → List Hd) (v i : Value) (wr : World) : Prop :=
  ∃ k : Nat, k ≤ 3 ∧ i = .int .i64 k ∧ OwnsH wr w.heap.size v (ls k) ∧ Below w.heap.size w wr

set_option maxHeartbeats 4000000 in
set_option maxRecDepth 100000 in
theorem concat20_any (g : Nat) (v1 v2 v3 : Value) (l1 l2 l3 : List Hd) (w : World) (h : Tri20 w g v1 v2 v3 l1 l2 l3) (b1 : l1.length ≤ 1000) (b2 : l2.length ≤ 1000) (b3 : l3.length ≤ 1000) :
    Calls Try.prog 25 #[.slice (some ⟨g, 0, Option.none⟩) 3 3] w (GivesH w (l1 ++ l2 ++ l3)) := by
  obtain ⟨i0, hi, hz0, hz1, hz2⟩ := info_parts Try.infoHd
  obtain ⟨c1, c2, c3, ⟨A1, n1, d1, rfl, H1⟩, ⟨A2, n2, d2, rfl, H2⟩, ⟨A3, n3, d3, rfl, H3⟩⟩ := h
  have e1 := H1.len
  have e2 := H2.len
  have e3 := H3.len
  have k1 := Lib.hid H1
  have k2 := Lib.hid H2
  have k3 := Lib.hid H3
  rw [e1] at b1
  rw [e2] at b2
  rw [e3] at b3
  have e1' := Lib.hid e1
  have e2' := Lib.hid e2
  have e3' := Lib.hid e3
  clear H1 H2 H3 e1 e2 e3
  have hgr := Lib.hid (fun (m : Nat) (h2 : m ≤ 100000) W => grow20_any m h2 W)
  go_enter Try.func25, Try.ntmps25
  go_wp2
  go_loop [3, 11] (fun s i => ∃ k : Nat, k ≤ 3 ∧ i = .int .i64 k ∧ ∃ m : Nat, s = .int .i64 m ∧ m = (if k = 0 then 0 else if k = 1 then n1 else if k = 2 then n1 + n2 else n1 + n2 + n3)) (fun _ i => 3 - (RowKit.intOf i).toNat)
  case atStart => exact ⟨0, by omega, rfl, 0, rfl, rfl⟩
  case round =>
    obtain ⟨k, hk, rfl, m, rfl, hm⟩ := hrel
    have hm' := Lib.hid hm
    have hmb : m ≤ 3000 := by rw [hm]; split <;> (try split) <;> (try split) <;> omega
    clear hm
    rcases (show k = 0 ∨ k = 1 ∨ k = 2 ∨ k = 3 by omega) with rfl | rfl | rfl | rfl
    · go_wp2
      go_round
      case rel => exact ⟨1, by omega, rfl, m + n1, by go_num, by have := hm'.out; simp at this ⊢; omega⟩
      case measure => simp [RowKit.intOf]
    · go_wp2
      go_round
      case rel => exact ⟨2, by omega, rfl, m + n2, by go_num, by have := hm'.out; simp at this ⊢; omega⟩
      case measure => simp [RowKit.intOf]
    · go_wp2
      go_round
      case rel => exact ⟨3, by omega, rfl, m + n3, by go_num, by have := hm'.out; simp at this ⊢; omega⟩
      case measure => simp [RowKit.intOf]
    · clear hm'
      go_wp2_with (go_at_call 33; refine (hgr.out m (by omega) _).mono ?_; rintro e w1 ⟨v, rfl, hown0, hb0⟩)
      obtain ⟨ls, hls⟩ : ∃ ls : Nat → List Hd, ls = fun k => if k = 0 then [] else if k = 1 then [] ++ l1 else if k = 2 then [] ++ l1 ++ l2 else [] ++ l1 ++ l2 ++ l3 := ⟨_, rfl⟩
      have hl0 := Lib.hid (show ls 0 = [] by rw [hls]; rfl)
      have hl1 := Lib.hid (show ls 1 = ls 0 ++ l1 by rw [hls]; rfl)
      have hl2 := Lib.hid (show ls 2 = ls 1 ++ l2 by rw [hls]; rfl)
      have hl3 := Lib.hid (show ls 3 = ls 2 ++ l3 by rw [hls]; rfl)
      have hle := Lib.hid (show ls 3 = l1 ++ l2 ++ l3 by rw [hls]; rfl)
      have hlen : Hid (∀ k, k ≤ 3 → (ls k).length ≤ 3000) := Lib.hid (fun k hk => by
        have q1 := e1'.out; have q2 := e2'.out; have q3 := e3'.out
        rw [hls]
        rcases (show k = 0 ∨ k = 1 ∨ k = 2 ∨ k = 3 by omega) with rfl | rfl | rfl | rfl <;> simp <;> omega)
      clear hls
      go_loopw [6, 27] (fun v i wr => CatRel20 w ls v i wr) (fun _ i _ => 3 - (RowKit.intOf i).toNat)
      case atStart => exact ⟨0, by omega, rfl, by rw [hl0.out]; exact hown0, hb0⟩
      case round =>
        obtain ⟨k, hk, rfl, hown, hb⟩ := hrel
        have hB := hb.size
        have hlk := hlen.out k hk
        rcases (show k = 0 ∨ k = 1 ∨ k = 2 ∨ k = 3 by omega) with rfl | rfl | rfl | rfl
        · have hck := cell_later hb c1
          go_wp2_with (at_builtin; refine wpList_append_hds rfl (.tmp 31) (.tmp 32) 23 rfl w.heap.size i0 Try.underlying23 hi hz0 hz1 hz2 _ _ rfl hown _ _ _ _ rfl (k1.out.later hb) (by omega) hB ?_; intro v1 w3 hown1 hg1)
          go_roundw
          case rel => exact ⟨1, by omega, rfl, by rw [hl1.out]; exact hown1, hown.below hb hg1 hB⟩
          case measure => simp [RowKit.intOf]
        · have hck := cell_later hb c2
          go_wp2_with (at_builtin; refine wpList_append_hds rfl (.tmp 31) (.tmp 32) 23 rfl w.heap.size i0 Try.underlying23 hi hz0 hz1 hz2 _ _ rfl hown _ _ _ _ rfl (k2.out.later hb) (by omega) hB ?_; intro v1 w3 hown1 hg1)
          go_roundw
          case rel => exact ⟨2, by omega, rfl, by rw [hl2.out]; exact hown1, hown.below hb hg1 hB⟩
          case measure => simp [RowKit.intOf]
        · have hck := cell_later hb c3
          go_wp2_with (at_builtin; refine wpList_append_hds rfl (.tmp 31) (.tmp 32) 23 rfl w.heap.size i0 Try.underlying23 hi hz0 hz1 hz2 _ _ rfl hown _ _ _ _ rfl (k3.out.later hb) (by omega) hB ?_; intro v1 w3 hown1 hg1)
          go_roundw
          case rel => exact ⟨3, by omega, rfl, by rw [hl3.out]; exact hown1, hown.below hb hg1 hB⟩
          case measure => simp [RowKit.intOf]
        · go_wp2
          go_ret
          exact ⟨_, rfl, by rw [← hle.out]; exact hown, hb⟩
theorem owns_noneB20 (W : World) (B : Nat) (hB : B ≤ W.heap.size) : Owns (W.alloc (.cells #[] 5)) B 5 (.slice (some ⟨W.heap.size, 0, Option.none⟩) 0 0) [] := owns_lit W B 5 #[] [] rfl Leb.Bytes.nil (by simp) hB
set_option maxHeartbeats 4000000 in
set_option maxRecDepth 100000 in
theorem cloneB20_any (A : Option Addr) (n c : Nat) (X : List Int) (w : World) (h : Holds w A n c X) (hn : n ≤ 1000000000) :
    Calls Try.prog 15 #[.slice A n c] w fun e w' => ∃ v, e = .returned v ∧ Owns w' w.heap.size 5 v X ∧ Below w.heap.size w w' := by
  obtain ⟨i0, hi, hz0, hz1, hz2⟩ := info_parts Try.info8
  have qnil : ∀ (w : World) (a : Option Addr) (n c n' c' : Nat), (binOp .eql 22 (.slice a n c) (.slice Option.none n' c')).run Try.prog w = .ok (.bool a.isNone) w := fun w a n c n' c' => Lib.run_eql_slice_nil w _ _ a n c n' c' Try.underlying22
  cases A with
  | none =>
    have h0 : n = 0 := by have h1 := h.bare rfl; have h2 := h.cap; omega
    subst h0
    have hX : X = [] := List.eq_nil_of_length_eq_zero h.len
    subst hX
    have hc := h.bare rfl
    subst hc
    clear h
    go_enter Try.func15, Try.ntmps15
    go_wp2
    go_ret
    exact ⟨_, rfl, ⟨Leb.Bytes.nil, World.ownsRow_nil _ _ _ _⟩, Below.refl _ _⟩
  | some ad =>
    have hXl := h.len
    have h00 := Lib.hid (owns_noneB20 w w.heap.size (Nat.le_refl _))
    have hb0 := Lib.hid (below_box w (.cells #[] 5))
    have hE := Lib.hid (h.later hb0.out)
    clear h
    go_enter Try.func15, Try.ntmps15
    go_wp2_with (at_builtin; refine wpList_append_bytes rfl (.tmp 5) (.tmp 6) 22 rfl w.heap.size 5 i0 Try.underlying22 hi hz0 hz1 hz2 _ [] rfl h00.out _ _ _ _ rfl hE.out (by simp; omega) (by simp) ?_; intro v2 w2 hown2 hg2 _; have hb2 := Lib.hid (below_own hb0.out h00.out hg2 (by simp)); rw [List.nil_append] at hown2; replace hown2 := Lib.hid hown2)
    go_ret
    exact ⟨_, rfl, hown2.out, hb2.out⟩
theorem run_frontHU (w : World) (A : Option Addr) (n c k : Nat) (h : k ≤ n) (hc : n ≤ c) : (Instr.sliceAt 23 (.slice A n c) Option.none (some (.int .u64 (k : Int))) Option.none).run Try.prog w = .ok (.slice A k c) w := by
  have f3 : (0 : Int) ≤ (k : Int) := by omega
  have f5 : (k : Int) ≤ (c : Int) := by omega
  go_simp
theorem run_backHU (w : World) (A : Option Addr) (n c k : Nat) (h : k ≤ n) (hc : n ≤ c) : (Instr.sliceAt 23 (.slice A n c) (some (.int .u64 (k : Int))) Option.none Option.none).run Try.prog w = .ok (.slice (if c = k then A else A.map (·.add (k * 2))) (n - k) (c - k)) w := by
  have f3 : (0 : Int) ≤ (k : Int) := by omega
  have f4 : (k : Int) ≤ (n : Int) := by omega
  have f5 : (n : Int) ≤ (c : Int) := by omega
  go_simp
end Go.Proofs.Ytkjnpdnihfohoaa
