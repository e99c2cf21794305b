/-
  ascii.List as the program has it. Conditions: at most 2^32 - 16 bytes (what the library's contract of strings.Split asks), and that the variable internal/bytealg.MaxLen holds an int.
-/
import Derived.Test.YtalnjlodldhfbaaGreatDoorLow
import Derived.Test.YtalnjlodldhfbaaGreatDoorAscTrim
namespace Go.Proofs.YtalnjlodldhfbaaGreatDoor
open Go.RowKit Go.Lib Go.Shelf

/-- The library's variable that strings.Split may read holds an int. -/
def Lim (w : World) : Prop := 0 < w.heap.size ∧ ∃ m : Int, w.cell? ⟨0, 0, Option.none⟩ = some (.int .i64 m)
theorem Lim.later {w w' : World} (h : Lim w) (hb : Below w.heap.size w w') : Lim w' := by
  obtain ⟨h0, m, hm⟩ := h
  exact ⟨Nat.lt_of_lt_of_le h0 hb.size, m, cell_later hb hm⟩

theorem split_any (s : ByteArray) (hs : s.size < 4294967281) (w : World) (hm : Lim w) : Calls Tryz.prog 66 #[.string s, .string ⟨#[44]⟩] w fun e w' =>
    e = .returned (.slice (some ⟨w.heap.size, 0, Option.none⟩) (cutAt s.data.toList).length (cutAt s.data.toList).length) ∧ w' = w.alloc (.cells ((cutAt s.data.toList).map fun p => Value.string (mk p)).toArray 9) := by
  obtain ⟨_, m, hm⟩ := hm
  have h := Any.strings_Split Tryz.lays146 (by kernel_rfl) s ⟨#[44]⟩ m w hs hm (by decide)
  rw [split_many, split_parts, List.map_map] at h
  exact h

/-- The program's loop over the parts: k of them are looked at. -/
def ListRel (w1 : World) (ps : List (List UInt8)) (v i : Value) (wr : World) : Prop :=
  ∃ k : Nat, k ≤ ps.length ∧ i = .int .i64 k ∧ OwnsT wr w1.heap.size v (clean (ps.take k)) ∧ Below w1.heap.size w1 wr

theorem clean_step {ps : List (List UInt8)} {k : Nat} (hk : k < ps.length) : clean (ps.take (k + 1)) = clean (ps.take k) ++ clean [ps[k]] := by
  rw [List.take_add_one, List.getElem?_eq_getElem hk, clean_append]
  rfl

theorem OwnsT.low {w : World} {base base' : Nat} {v : Value} {l : List (List UInt8)} (h : OwnsT w base v l) (hB : base' ≤ base) : OwnsT w base' v l := by
  refine ⟨h.1, ?_⟩
  rcases h.2 with h0 | ⟨g, cap, cur, e1, hb, rest⟩
  · exact .inl h0
  · exact .inr ⟨g, cap, cur, e1, Nat.le_trans hB hb, rest⟩

set_option maxHeartbeats 2000000 in
set_option maxRecDepth 100000 in
theorem list_any (s : ByteArray) (hs : s.size < 4294967281) (w : World) (hm : Lim w) : Calls Tryz.prog 48 #[.string s] w (GivesT w (listOf s.data.toList)) := by
  obtain ⟨i0, hi, hz0, hz1, hz2⟩ := info_parts Tryz.info9
  have hsp := split_any s hs w hm
  have hT := Lib.hid (texts_new w _ (cutAt s.data.toList) rfl)
  have hps := Lib.hid (show ∀ p ∈ cutAt s.data.toList, p.length ≤ s.size from fun p hp => by rw [size_len]; exact cut_part_le p hp)
  have hpl : (cutAt s.data.toList).length ≤ s.size + 1 := by rw [size_len]; exact cut_len _
  have hr := Lib.hid (show clean (cutAt s.data.toList) = listOf s.data.toList from rfl)
  generalize listOf s.data.toList = R at hr ⊢
  generalize cutAt s.data.toList = ps at hsp hT hps hpl hr
  have hcl : ∀ k, (clean (ps.take k)).length ≤ s.size + 1 := fun k => Nat.le_trans (clean_len _) (Nat.le_trans (by rw [List.length_take]; omega) hpl)
  have hcl' := Lib.hid hcl
  have hb0 := Lib.hid ((Below.refl w.heap.size w).alloc (Nat.le_refl _) (.cells (ps.map fun p => Value.string (mk p)).toArray 9))
  clear hcl
  generalize hw1 : w.alloc (.cells (ps.map fun p => Value.string (mk p)).toArray 9) = w1 at hsp hT hb0
  have hsz : w1.heap.size = w.heap.size + 1 := by rw [← hw1]; simp
  have hsz' := Lib.hid hsz
  have hsp := hsp.mono (fun e w' h => And.intro h.1 h.2.symm)
  clear hw1 hsz hm
  go_enter Tryz.func48, Tryz.ntmps48
  go_wp2_with (go_at_call 66; refine hsp.mono ?_; rintro e w' ⟨rfl, hw⟩; subst hw)
  go_loopw [3, 9] (fun v i wr => ListRel w1 ps v i wr) (fun _ i _ => ps.length - (RowKit.intOf i).toNat)
  case atStart => exact ⟨0, Nat.zero_le _, rfl, World.ownsRow_nil _ _ _ _, Below.refl _ _⟩
  case round =>
    obtain ⟨k, hk, rfl, hown, hb⟩ := hrel
    by_cases hkn : k < ps.length
    · obtain ⟨g, hg, _, hc⟩ := (hT.out.later hb).cell (by omega)
      injection hg with hg
      injection hg with hg
      subst hg
      have h1 := hc k hkn
      rw [List.getElem?_eq_getElem hkn] at h1
      have hst := Lib.hid (clean_step hkn)
      have hp := hps.out ps[k] (List.getElem_mem hkn)
      rw [clean_one] at hst
      replace h1 : wr.cell? ⟨w.heap.size, k, Option.none⟩ = some (.string (mk ps[k])) := h1
      have htr := fun W => trim_any (mk ps[k]) (by rw [mk_size]; simp only [maxLen]; omega) W
      rw [mk_list] at htr
      clear hc
      generalize hx : trim ps[k] = x at htr hst
      replace htr : ∀ W, Calls Tryz.prog 67 #[.string (mk ps[k])] W fun e w' => e = .returned (.string (mk x)) ∧ Below W.heap.size W w' := htr
      generalize mk ps[k] = y at h1 htr
      clear hp hx
      have htr' := Lib.hid htr
      clear htr
      by_cases hx0 : x = []
      · subst hx0
        have e0 : mk [] = ⟨#[]⟩ := rfl
        rw [e0] at htr'
        go_wp2_with (go_at_call 67; refine (htr'.out _).mono ?_; rintro e w' ⟨rfl, hb1⟩)
        go_roundw
        case rel =>
          refine ⟨k + 1, by omega, by go_num, ?_, hb.trans (hb1.mono hb.size)⟩
          rw [hst.out]
          simpa using hown.kept hb1 (Nat.le_refl _)
        case measure => simp [RowKit.intOf]; omega
      · have hx1 : (mk x).toList.isEmpty = false := by rw [ByteArray.toList_eq, mk_list]; simpa using hx0
        generalize hy : mk x = z at htr' hx1
        go_wp2_with (first
          | (go_at_call 67; refine (htr'.out _).mono ?_; rintro e w' ⟨rfl, hb1⟩)
          | (at_builtin; refine wpList_append_own _ rfl (.tmp 17) (.tmp 19) 31 rfl w1.heap.size 9 i0 (.string ByteArray.empty) 1 16 Tryz.underlying31 hi hz0 hz1 hz2 rfl (by decide) _ _ _ rfl ((hown.kept hb1 (Nat.le_refl _)).alloc _) _ 1 1 [.string z] rfl rfl (cell_one_new _ _ _) (fun u hu => by simp at hu; subst hu; rfl) (by have := hcl'.out k; simp only [maxLen]; omega) (by have := hcl'.out k; omega) (by have h2 := hb.size; have h3 := hb1.size; simp; omega) ?_; intro v1 w2 hown1 hg1 _))
        go_roundw
        case rel =>
          have hbb := hb.trans (hb1.mono hb.size)
          refine ⟨k + 1, by omega, by go_num, ?_, OwnsT.below ((hown.kept hb1 (Nat.le_refl _)).alloc _) (hbb.alloc hbb.size _) hg1 (by have := hbb.size; simp; omega)⟩
          rw [hst.out, if_neg (by simpa using hx0)]
          unfold OwnsT
          rw [List.length_append, List.map_append]
          simpa [hy] using hown1
        case measure => simp [RowKit.intOf]; omega
    · have e : k = ps.length := by omega
      subst e
      go_wp2
      go_ret
      refine ⟨_, rfl, ?_, hb0.out.trans (hb.mono hb0.out.size)⟩
      rw [← hr.out]
      rw [List.take_length] at hown
      exact hown.low hb0.out.size
end Go.Proofs.YtalnjlodldhfbaaGreatDoor
