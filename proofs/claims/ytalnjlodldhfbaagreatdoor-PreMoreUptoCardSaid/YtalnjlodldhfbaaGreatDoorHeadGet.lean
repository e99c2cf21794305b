/-
  head.Get as the program has it. Conditions: those that each theorem states.
-/
import Derived.Test.YtalnjlodldhfbaaGreatDoorHeadMatch
namespace Go.Proofs.YtalnjlodldhfbaaGreatDoor
open Go.RowKit Go.Lib Go.Shelf

/-- The loop of Get: k headers are looked at. -/
def GetRel (w1 : World) (n : ByteArray) (l : List Hd) (v i : Value) (wr : World) : Prop :=
  ∃ k : Nat, k ≤ l.length ∧ i = .int .i64 k ∧ OwnsS wr w1.heap.size v (vals n (l.take k)) ∧ Below w1.heap.size w1 wr

set_option maxHeartbeats 4000000 in
set_option maxRecDepth 100000 in
theorem get_any (A : Option Addr) (n c : Nat) (l : List Hd) (name : ByteArray) (w : World) (h : Hds w A n c l) (hn : n ≤ 1000) (hB : Short maxLen l) (hs : name.size ≤ maxLen) (hj : (joined (vals name l)).length ≤ 140737488355328) :
    Calls Tryz.prog 47 #[.slice A n c, .string name] w fun e w' => e = .returned (.tuple #[.string (mk (joined (vals name l))), .bool (decide (0 < (vals name l).length))]) ∧ Below w.heap.size w w' := by
  obtain ⟨i0, hi, hz0, hz1, hz2⟩ := info_parts Tryz.info9
  have h' := Lib.hid h
  have hl := Lib.hid h.len
  have hB' := Lib.hid hB
  have hj' := Lib.hid hj
  have hmat := Lib.hid (fun g hg => (matching_any (some ⟨g, 0, Option.none⟩) 1 1 [name] _ (strs_one w name g hg) (by omega) (fun x hx => by simp at hx; subst hx; exact hs)).mono (fun e w' hh => hh))
  clear h hB hj
  go_enter Tryz.func47, Tryz.ntmps47
  go_wp2_with (go_at_call 65; refine (hmat.out _ rfl).mono ?_; rintro e w1 ⟨g, rfl, hg, hL, hb1⟩)
  have hL' := Lib.hid hL
  have hb1' := Lib.hid (below_then (below_box w _) hb1)
  clear hL hb1
  go_loopw [7, 15] (fun v i wr => GetRel w1 name l v i wr) (fun _ i _ => n - (RowKit.intOf i).toNat)
  case atStart => exact ⟨0, Nat.zero_le _, rfl, World.ownsRow_nil _ _ _ _, Below.refl _ _⟩
  case round =>
    obtain ⟨k, hk, rfl, hown, hb⟩ := hrel
    rw [hl.out] at hk
    have hvl : (vals name (l.take k)).length ≤ 1000 := by have := vals_len name (l.take k); rw [List.length_take, hl.out] at this; omega
    have hB1 := hb.size
    by_cases hlt : k < n
    · have hkl : k < l.length := by rw [hl.out]; exact hlt
      obtain ⟨b, off, rfl, h1, h2⟩ := ((h'.out.later hb1'.out).later hb).at hlt
      have hcall := fun W hW => match_any [name] g l[k] (hB'.out _ (List.getElem_mem hkl)).1 W hW
      have hst := Lib.hid (vals_step (n := name) hkl)
      have e : hit [name] l[k] = alike l[k].1 name := hit_one _ _
      rw [e] at hcall
      clear e
      generalize hx : l[k].1 = x at h1 hcall hst
      generalize hy : l[k].2 = y at h2 hcall hst
      have hcall' := Lib.hid hcall
      clear hcall hx hy
      cases ha : alike x name with
      | false =>
        rw [ha] at hcall' hst
        clear ha
        go_wp2_with (go_at_call 87; refine (hcall'.out _ ((hL'.out.later hb).later (below_box _ _))).mono ?_; rintro e w2 ⟨rfl, hb2⟩)
        go_roundw
        case rel =>
          have hbb := below_then (below_box wr _) hb2
          refine ⟨k + 1, by omega, by go_num, ?_, below_then hb hbb⟩
          rw [hst.out]
          simpa using hown.kept hbb (Nat.le_refl _)
        case measure => simp [RowKit.intOf]; omega
      | true =>
        rw [ha] at hcall' hst
        clear ha
        go_wp2_with (first
          | (go_at_call 87; refine (hcall'.out _ ((hL'.out.later hb).later (below_box _ _))).mono ?_; rintro e w2 ⟨rfl, hb2⟩; have hcy : w2.cell? ⟨wr.heap.size, 1, Option.none⟩ = some (.string y) := cell_later hb2 (by simp))
          | (at_builtin; refine wpList_append_own _ rfl (.tmp 22) (.tmp 25) 31 rfl w1.heap.size 9 i0 (.string ByteArray.empty) 1 16 Tryz.underlying31 hi hz0 hz1 hz2 rfl (by decide) _ _ _ rfl ((hown.kept (below_then (below_box wr _) hb2) (Nat.le_refl _)).alloc _) _ 1 1 [.string y] rfl rfl (cell_one_new _ _ _) (fun u hu => by simp at hu; subst hu; rfl) (by simp only [maxLen]; omega) (by omega) (by have h3 := hb2.size; simp at h3 ⊢; omega) ?_; intro v1 w3 hown1 hg1 _))
        go_roundw
        case rel =>
          have hbb := below_then (below_box wr _) hb2
          have hbc := below_then hb hbb
          refine ⟨k + 1, by omega, by go_num, ?_, OwnsS.below ((hown.kept hbb (Nat.le_refl _)).alloc _) (hbc.alloc hbc.size _) hg1 (by have := hbc.size; simp; omega)⟩
          rw [hst.out]
          unfold OwnsS
          rw [List.length_append, List.map_append]
          simpa using hown1
        case measure => simp [RowKit.intOf]; omega
    · have ek : k = n := by omega
      subst ek
      rw [← hl.out, List.take_length] at hown
      obtain ⟨A2, m, c2, rfl, hm', hS⟩ := hown.strs'
      rw [← hl.out, List.take_length, ← hm'.out] at hvl
      have hjo := join_any A2 m c2 (vals name l) wr hS (by omega) hj'.out
      obtain ⟨t, ht⟩ : ∃ t, t = mk (joined (vals name l)) := ⟨_, rfl⟩
      rw [← ht] at hjo
      have ht' := Lib.hid ht
      clear ht hown hS
      by_cases hp : 0 < m
      · go_wp2_with (go_at_call 23; refine hjo.mono ?_; rintro e w2 ⟨rfl, hb2⟩)
        go_ret2
        refine ⟨?_, below_then (below_then hb1'.out hb) hb2⟩
        rw [← ht'.out, ← hm'.out, decide_eq_true hp]
        rfl
      · go_wp2_with (go_at_call 23; refine hjo.mono ?_; rintro e w2 ⟨rfl, hb2⟩)
        go_ret2
        refine ⟨?_, below_then (below_then hb1'.out hb) hb2⟩
        rw [← ht'.out, ← hm'.out, decide_eq_false hp]
        rfl
end Go.Proofs.YtalnjlodldhfbaaGreatDoor
