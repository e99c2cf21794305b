/-
  The reference's Set of layer 9. Conditions: those that each theorem states.
-/
import Derived.Test.YtklbikafkdjgpaaDoorHeadRef
namespace Go.Proofs.YtklbikafkdjgpaaDoor
open Go.RowKit Go.Lib Go.Shelf

/-- The loop of the reference's Set. -/
def RefSetRel (w0 : World) (h : Hd) (l : List Hd) (v d i : Value) (wr : World) : Prop :=
  ∃ (k : Nat) (b : Bool), k ≤ l.length ∧ i = .int .i64 k ∧ d = .bool b ∧ Hid (b = (setUp h (l.take k)).2) ∧ OwnsH wr w0.heap.size v (setUp h (l.take k)).1 ∧ Below w0.heap.size w0 wr

theorem owns_one {w3 : World} {B : Nat} {v1 : Value} {x y : ByteArray} {xs : List Hd} (h : w3.ownsRow B 29 2 v1 (xs.length + 1) (hcells xs ++ [.string x, .string y])) : OwnsH w3 B v1 (xs ++ [(x, y)]) := by
  unfold OwnsH
  rw [List.length_append, hcells_append]
  exact h

set_option maxHeartbeats 4000000 in
set_option maxRecDepth 100000 in
theorem refSet_any (A : Option Addr) (n c : Nat) (l : List Hd) (x y : ByteArray) (w : World) (h : Hds w A n c l) (hn : n ≤ 1000) (hB : Fits l) (hs : x.size ≤ 140737488351232) :
    Calls Tryd.prog 18 #[.slice A n c, .agg #[.string x, .string y]] w (ReadsH w (setOf l (x, y))) := by
  obtain ⟨i0, hi, hz0, hz1, hz2⟩ := info_parts Tryd.infoHd
  have hl := Lib.hid h.len
  have hH := Lib.hid h
  have hB' := Lib.hid hB
  have hul := Lib.hid (fun k => Nat.le_trans (setUp_len (x, y) (l.take k)) (show (l.take k).length + 1 ≤ 1001 by rw [List.length_take, h.len]; omega))
  obtain ⟨w0, hw0⟩ : ∃ w0, w0 = w.alloc (.cells #[.string x, .string y] 29) := ⟨_, rfl⟩
  have hb0 := Lib.hid (show Below w.heap.size w w0 by rw [hw0]; exact below_box w _)
  have hx0 : Hid (w0.cell? ⟨w.heap.size, 0, Option.none⟩ = some (.string x)) := Lib.hid (by rw [hw0]; simp)
  have hy0 : Hid (w0.cell? ⟨w.heap.size, 1, Option.none⟩ = some (.string y)) := Lib.hid (by rw [hw0]; simp)
  have h00 := Lib.hid (World.ownsRow_made (base := w0.heap.size) (e := 29) (size := 2) w0 #[] 0 (Nat.le_refl _) (Nat.zero_le _) rfl)
  rw [hw0] at h00
  have hw0' := Lib.hid hw0
  clear h hB hw0
  go_enter Tryd.func18, Tryd.ntmps18
  go_wp2
  go_loopw [5, 6, 7] (fun v d i wr => RefSetRel w0 (x, y) l v d i wr) (fun _ _ i _ => n - (RowKit.intOf i).toNat)
  case atStart => exact ⟨0, false, Nat.zero_le _, rfl, rfl, Lib.hid rfl, by rw [hw0'.out]; have h := h00.out; simpa [OwnsH, setUp_nil, hcells] using h, by rw [hw0'.out]; exact below_box _ _⟩
  case round =>
    obtain ⟨k, b, hk, rfl, rfl, hbb, hown, hb⟩ := hrel
    rw [hl.out] at hk
    have hu := hul.out k
    have hB1 := hb.size
    have hcx := cell_later hb hx0.out
    have hcy := cell_later hb hy0.out
    by_cases hlt : k < n
    · have hkl : k < l.length := by rw [hl.out]; exact hlt
      obtain ⟨g, off, rfl, h1, h2⟩ := ((hH.out.later hb0.out).later hb).at hlt
      have hcall := fun W => alike_any l[k].1 x (hB'.out _ (List.getElem_mem hkl)).1 hs W
      have hst := Lib.hid (take_snoc hkl)
      generalize l[k] = q at h1 h2 hcall hst
      obtain ⟨p1, p2⟩ := q
      simp only at h1 h2 hcall
      cases ha : alike p1 x with
      | false =>
        have hup := Lib.hid (setUp_other (h := (x, y)) (x := (p1, p2)) (l := l.take k) ha)
        rw [← hst.out] at hup
        rw [ha] at hcall
        have hcall' := Lib.hid hcall
        clear ha hst hcall
        obtain ⟨xs, hxs⟩ : ∃ xs, xs = (setUp (x, y) (l.take k)).1 := ⟨_, rfl⟩
        rw [← hxs] at hown hu hup
        have hxs' := Lib.hid hxs
        clear hxs
        go_wp2
        go_region_with (go_at_call 21; refine (hcall'.out _).mono ?_; rintro e w2 ⟨rfl, hb2⟩; replace hb2 := below_undrew hb2; have h1' := cell_later hb2 h1; have h2' := cell_later hb2 h2)
        all_goals
          go_wp2_with (at_builtin; refine wpList_append_own _ rfl (.tmp 24) (.tmp 29) 22 rfl w0.heap.size 29 i0 (.agg #[.string ByteArray.empty, .string ByteArray.empty]) 2 32 Tryd.underlying22 hi hz0 hz1 hz2 rfl (by decide) _ _ _ rfl ((hown.kept hb2 (Nat.le_refl _)).alloc _) _ 1 1 [.string p1, .string p2] rfl rfl (cells_pair_new _ _ _ _) (fun u hu => by simp at hu; rcases hu with rfl | rfl <;> rfl) (by simp only [maxLen]; omega) (by omega) (by have h3 := hb2.size; simp at h3 ⊢; omega) ?_; intro v1 w3 hown1 hg1 _)
          go_roundw
          case rel =>
            have hbc := below_then hb hb2
            exact ⟨k + 1, b, by omega, by go_num, rfl, Lib.hid (by rw [hup.out]; exact hbb.out), by rw [hup.out]; exact owns_one hown1, OwnsH.below ((hown.kept hb2 (Nat.le_refl _)).alloc _) (hbc.alloc hbc.size _) hg1 (by have := hbc.size; simp; omega)⟩
          case measure => simp [RowKit.intOf]; omega
      | true =>
        cases b with
        | true =>
          have hup := Lib.hid (setUp_later (h := (x, y)) (x := (p1, p2)) (l := l.take k) ha hbb.out.symm)
          rw [← hst.out] at hup
          rw [ha] at hcall
          have hcall' := Lib.hid hcall
          clear ha hst hcall
          go_wp2
          go_region_with (go_at_call 21; refine (hcall'.out _).mono ?_; rintro e w2 ⟨rfl, hb2⟩; replace hb2 := below_undrew hb2)
          all_goals
            go_wp2
            go_roundw
            case rel => exact ⟨k + 1, true, by omega, by go_num, rfl, Lib.hid (by rw [hup.out]), by rw [hup.out]; exact hown.kept hb2 (Nat.le_refl _), below_then hb hb2⟩
            case measure => simp [RowKit.intOf]; omega
        | false =>
          have hup := Lib.hid (setUp_first (h := (x, y)) (x := (p1, p2)) (l := l.take k) ha hbb.out.symm)
          rw [← hst.out] at hup
          rw [ha] at hcall
          have hcall' := Lib.hid hcall
          clear ha hst hcall
          obtain ⟨xs, hxs⟩ : ∃ xs, xs = (setUp (x, y) (l.take k)).1 := ⟨_, rfl⟩
          rw [← hxs] at hown hu hup
          have hxs' := Lib.hid hxs
          clear hxs
          go_wp2
          go_region_with (go_at_call 21; refine (hcall'.out _).mono ?_; rintro e w2 ⟨rfl, hb2⟩; replace hb2 := below_undrew hb2; have h1' := cell_later hb2 hcx; have h2' := cell_later hb2 hcy)
          all_goals
            go_wp2_with (at_builtin; refine wpList_append_own _ rfl (.tmp 33) (.tmp 35) 22 rfl w0.heap.size 29 i0 (.agg #[.string ByteArray.empty, .string ByteArray.empty]) 2 32 Tryd.underlying22 hi hz0 hz1 hz2 rfl (by decide) _ _ _ rfl ((hown.kept hb2 (Nat.le_refl _)).alloc _) _ 1 1 [.string x, .string y] rfl rfl (cells_pair_new _ _ _ _) (fun u hu => by simp at hu; rcases hu with rfl | rfl <;> rfl) (by simp only [maxLen]; omega) (by omega) (by have h3 := hb2.size; simp at h3 ⊢; omega) ?_; intro v1 w3 hown1 hg1 _)
            go_roundw
            case rel =>
              have hbc := below_then hb hb2
              exact ⟨k + 1, true, by omega, by go_num, rfl, Lib.hid (by rw [hup.out]), by rw [hup.out]; exact owns_one hown1, OwnsH.below ((hown.kept hb2 (Nat.le_refl _)).alloc _) (hbc.alloc hbc.size _) hg1 (by have := hbc.size; simp; omega)⟩
            case measure => simp [RowKit.intOf]; omega
    · have ek : k = n := by omega
      subst ek
      have hT : l.take k = l := by rw [← hl.out, List.take_length]
      rw [hT] at hown hbb hu
      clear hT
      cases b with
      | true =>
        have he := Lib.hid (setUp_end_yes hbb.out.symm)
        go_wp2
        go_ret
        exact ⟨_, rfl, by rw [← he.out]; exact hown.hh, below_then hb0.out hb⟩
      | false =>
        have he := Lib.hid (setUp_end_no hbb.out.symm)
        obtain ⟨xs, hxs⟩ : ∃ xs, xs = (setUp (x, y) l).1 := ⟨_, rfl⟩
        rw [← hxs] at hown hu he
        clear hxs
        go_wp2_with (at_builtin; refine wpList_append_own _ rfl (.tmp 39) (.tmp 41) 22 rfl w0.heap.size 29 i0 (.agg #[.string ByteArray.empty, .string ByteArray.empty]) 2 32 Tryd.underlying22 hi hz0 hz1 hz2 rfl (by decide) _ _ _ rfl (hown.alloc _) _ 1 1 [.string x, .string y] rfl rfl (cells_pair_new _ _ _ _) (fun u hu => by simp at hu; rcases hu with rfl | rfl <;> rfl) (by simp only [maxLen]; omega) (by omega) (by simp; omega) ?_; intro v1 w3 hown1 hg1 _)
        go_ret
        exact ⟨_, rfl, by rw [← he.out]; exact (owns_one hown1).hh, below_then hb0.out (OwnsH.below (hown.alloc _) (hb.alloc hb.size _) hg1 (by simp; omega))⟩
end Go.Proofs.YtklbikafkdjgpaaDoor
