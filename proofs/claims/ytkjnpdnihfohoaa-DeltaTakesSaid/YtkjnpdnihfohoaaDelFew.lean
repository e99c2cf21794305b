/-
  The law's own short and few of layer 20. Conditions: those that each theorem states.
-/
import Derived.Test.YtkjnpdnihfohoaaDelOps
import Derived.Test.YtkjnpdnihfohoaaTail
namespace Go.Proofs.Ytkjnpdnihfohoaa
open Go.RowKit Go.Lib Go.Shelf

/-- At most 2048 bytes of a text. -/
def sh (s : ByteArray) : ByteArray := if 2048 < s.size then s.extract 0 2048 else s
theorem sh_size (s : ByteArray) : (sh s).size ≤ 2048 := by
  unfold sh
  split
  · rw [ByteArray.size_extract]; omega
  · omega
set_option maxRecDepth 100000 in
theorem short20_any (s : ByteArray) (w : World) (hs : s.size ≤ 9223372036854775807) : Calls Try.prog 18 #[.string s] w fun e w' => e = .returned (.string (sh s)) ∧ w = w' := by
  by_cases h : 2048 < s.size
  · have e : sh s = s.extract 0 2048 := if_pos h
    rw [e]
    clear e
    obtain ⟨n, hn⟩ : ∃ n, n = s.size := ⟨_, rfl⟩
    have hn' := hn.symm
    rw [← hn] at h hs
    clear hn
    go_enter Try.func18, Try.ntmps18
    go_wp2
    go_ret
    exact ⟨rfl, rfl⟩
  · have e : sh s = s := if_neg h
    rw [e]
    clear e
    obtain ⟨n, hn⟩ : ∃ n, n = s.size := ⟨_, rfl⟩
    have hn' := hn.symm
    rw [← hn] at h hs
    clear hn
    go_enter Try.func18, Try.ntmps18
    go_wp2
    go_ret
    exact ⟨rfl, rfl⟩

/-- The first 24, each cut short. -/
def fewH (l : List Hd) : List Hd := (l.take 24).map fun h => (sh h.1, sh h.2)
theorem fewH_len (l : List Hd) : (fewH l).length ≤ 24 := by simp [fewH]; omega
theorem fewH_short (l : List Hd) : Short 2048 (fewH l) := fun p hp => by
  obtain ⟨q, _, rfl⟩ := List.mem_map.1 hp
  exact ⟨sh_size _, sh_size _⟩
theorem fewH_step {l : List Hd} {k : Nat} {x y : ByteArray} (hk : k < 24) (hy : l[k]? = some (x, y)) : fewH (l.take (k + 1)) = fewH (l.take k) ++ [(sh x, sh y)] := by
  unfold fewH
  have h1 : l.take (k + 1) = l.take k ++ [(x, y)] := by rw [List.take_add_one, hy]; rfl
  have h2 : (l.take k).length ≤ k := List.length_take_le k l
  rw [h1, List.take_of_length_le (l := l.take k ++ [(x, y)]) (by rw [List.length_append, List.length_singleton]; omega), List.take_of_length_le (l := l.take k) (by omega), List.map_append]
  rfl
theorem fewH_end {l : List Hd} {k : Nat} (h : l.length ≤ k ∨ 24 ≤ k) : fewH (l.take k) = fewH l := by
  unfold fewH
  rw [List.take_take]
  rcases h with h | h
  · by_cases h4 : 24 ≤ k
    · rw [show min 24 k = 24 by omega]
    · rw [show min 24 k = k by omega, List.take_of_length_le h, List.take_of_length_le (by omega)]
  · rw [show min 24 k = 24 by omega]

/-- What the slots of few's round hold. -/
def fewF (u : Value) (g off n c k : Nat) (x y sx sy : ByteArray) (j : Nat) (v : Value) (w : World) : Prop :=
  match j with
  | 0 => v = u
  | 1 => v = .slice (some ⟨g, off, Option.none⟩) n c
  | 2 => v = .int .i64 (k : Int)
  | 3 => v = .pointer (some ⟨g, off + k * 2, Option.none⟩)
  | 4 => v = .pointer (some ⟨g, off + k * 2, Option.none⟩)
  | 5 => v = .string x
  | 6 => v = .string sx
  | 7 => v = .slice (some ⟨g, off, Option.none⟩) n c
  | 8 => v = .int .i64 (k : Int)
  | 9 => v = .pointer (some ⟨g, off + k * 2, Option.none⟩)
  | 10 => v = .pointer (some ⟨g, off + k * 2 + 1, Option.none⟩)
  | 11 => v = .string y
  | 12 => v = .string sy
  | 13 => v = .agg #[.string sx, .string sy]
  | 14 => HH [(sx, sy)] v w
  | _ => True
theorem fewF_later {u : Value} {g off n c k : Nat} {x y sx sy : ByteArray} : Outlives (fewF u g off n c k x y sx sy) := by
  intro j v w w' h hk
  unfold fewF at h ⊢
  split at h
  all_goals first | exact h.keeps hk | exact h
theorem enters_short (vs : Array Value) (w : World) : (callFunc 18 vs).run Try.prog w = .ok (.enter 18 vs) w := by kernel_rfl
set_option maxHeartbeats 8000000 in
set_option maxRecDepth 100000 in
theorem few20_any (A : Option Addr) (n c : Nat) (l : List Hd) (w : World) (h : Hds w A n c l) (hB : Short 9223372036854775807 l) : Calls Try.prog 8 #[.slice A n c] w (GivesH w (fewH l)) := by
  obtain ⟨i0, hi, hz0, hz1, hz2⟩ := info_parts Try.infoHd
  have h' := Lib.hid h
  have hn : n ≤ 9223372036854775807 := by have h1 := h.cap; have h2 := h.room; unfold maxLen at h2; omega
  have hlen := Lib.hid h.len
  have hB' := Lib.hid hB
  have h0 := Lib.hid (show OwnsH (w.alloc (.cells #[] 44)) w.heap.size (.slice (some ⟨w.heap.size, 0, Option.none⟩) 0 0) [] by
    have := World.ownsRow_lit (base := w.heap.size) (size := 2) (e := 44) w #[] 0 (Nat.le_refl _) (by simp) (by simp)
    simpa [OwnsH, hcells] using this)
  clear h hB
  go_enter Try.func8, Try.ntmps8
  go_wp2
  go_loopw [3, 4] (fun v i wr => ∃ k : Nat, k ≤ n ∧ k ≤ 24 ∧ i = .int .i64 k ∧ OwnsH wr w.heap.size v (fewH (l.take k)) ∧ Below w.heap.size w wr) (fun _ i _ => n - (RowKit.intOf i).toNat)
  case atStart => exact ⟨0, Nat.zero_le _, by omega, rfl, h0.out, below_box w _⟩
  case round =>
    obtain ⟨k, hk, hk4, rfl, hown, hb⟩ := hrel
    have hown' := Lib.hid hown
    have hb' := Lib.hid hb
    have hfl := Lib.hid (fewH_len (l.take k))
    have hst := Lib.hid (fun x y => fewH_step (l := l) (k := k) (x := x) (y := y))
    have hen := Lib.hid (fewH_end (l := l) (k := k))
    generalize fewH (l.take k) = T at hown' hfl hst hen
    clear hown hb
    by_cases hkn : k < n
    · by_cases hk24 : k < 24
      · obtain ⟨g, off, rfl, h1, h2⟩ := (h'.out.later hb'.out).at hkn
        have hlk : k < l.length := by rw [hlen.out]; exact hkn
        have hs := hB'.out _ (List.getElem_mem hlk)
        have hst' := Lib.hid (hst.out l[k].1 l[k].2 hk24 (List.getElem?_eq_getElem hlk))
        generalize l[k].1 = x at h1 hs hst'
        generalize l[k].2 = y at h2 hs hst'
        have hsx := Lib.hid (fun W => short20_any x W hs.1)
        have hsy := Lib.hid (fun W => short20_any y W hs.2)
        clear hs
        generalize sh x = sx at hsx hst'
        generalize sh y = sy at hsy hst'
        go_wp2
        refine wp_region_tail 15 18 (by decide) (by kernel_rfl) (RInv 33 [16, 17, 18, 19, 20, 21, 22, 23, 24, 25, 26, 27, 28, 29, 30] _ (fewF u3 g off n c k x y sx sy) wr NoMore) (by kernel_rfl) (by kernel_rfl) (RInv.start rfl trivial (Below.refl _ _).drew) ?_ ?_
        · intro i hi D a w1 hI hcl hnd hpre
          have hi' : i < 15 := hi
          have hcase : i = 0 ∨ i = 1 ∨ i = 2 ∨ i = 3 ∨ i = 4 ∨ i = 5 ∨ i = 6 ∨ i = 7 ∨ i = 8 ∨ i = 9 ∨ i = 10 ∨ i = 11 ∨ i = 12 ∨ i = 13 ∨ i = 14 := by omega
          have hF := hI.fact
          rcases hcase with rfl | rfl | rfl | rfl | rfl | rfl | rfl | rfl | rfl | rfl | rfl | rfl | rfl | rfl | rfl
          · exact wpOp_move rfl (wanted_free rfl) _ rfl _ (hI.same 3 (by decide)) (hI.add (by decide) fewF_later (by decide) (Below.refl _ _) rfl)
          · exact wpOp_move rfl (wanted_free rfl) _ rfl _ (hI.same 0 (by decide)) (hI.add (by decide) fewF_later (by decide) (Below.refl _ _) rfl)
          · exact wpOp_move rfl (wanted_free rfl) _ rfl _ (hI.same 4 (by decide)) (hI.add (by decide) fewF_later (by decide) (Below.refl _ _) rfl)
          · exact wpOp_index rfl (wanted_free rfl) _ _ _ rfl _ _ _ (hF 1 (hpre 1 (by kernel_rfl))) (hF 2 (hpre 2 (by kernel_rfl))) (run_idxH w1 g off n c k hkn) (hI.add (by decide) fewF_later (by decide) (Below.refl _ _) rfl)
          · exact wpOp_field rfl (wanted_free rfl) _ _ _ rfl _ _ (hF 3 (hpre 3 (by kernel_rfl))) (run_field0 w1 g (off + k * 2)) (hI.add (by decide) fewF_later (by decide) (Below.refl _ _) rfl)
          · exact wpOp_load rfl (wanted_free rfl) _ _ rfl _ _ (hF 4 (hpre 4 (by kernel_rfl))) (run_load9 w1 g _ x (cell_later hI.below h1)) (hI.add (by decide) fewF_later (by decide) (Below.refl _ _) rfl)
          · exact wpOp_call1 rfl (wanted_free rfl) 18 _ _ rfl _ (hF 5 (hpre 5 (by kernel_rfl))) (enters_short _ _) (hsx.out w1) (fun e w' h => ⟨_, h.1, by obtain ⟨_, rfl⟩ := h; exact (hI.add (by decide) fewF_later (by decide) (Below.refl _ _) rfl)⟩)
          · exact wpOp_move rfl (wanted_free rfl) _ rfl _ (hI.same 0 (by decide)) (hI.add (by decide) fewF_later (by decide) (Below.refl _ _) rfl)
          · exact wpOp_move rfl (wanted_free rfl) _ rfl _ (hI.same 4 (by decide)) (hI.add (by decide) fewF_later (by decide) (Below.refl _ _) rfl)
          · exact wpOp_index rfl (wanted_free rfl) _ _ _ rfl _ _ _ (hF 7 (hpre 7 (by kernel_rfl))) (hF 8 (hpre 8 (by kernel_rfl))) (run_idxH w1 g off n c k hkn) (hI.add (by decide) fewF_later (by decide) (Below.refl _ _) rfl)
          · exact wpOp_field rfl (wanted_free rfl) _ _ _ rfl _ _ (hF 9 (hpre 9 (by kernel_rfl))) (run_field1 w1 g (off + k * 2)) (hI.add (by decide) fewF_later (by decide) (Below.refl _ _) rfl)
          · exact wpOp_load rfl (wanted_free rfl) _ _ rfl _ _ (hF 10 (hpre 10 (by kernel_rfl))) (run_load9 w1 g _ y (cell_later hI.below h2)) (hI.add (by decide) fewF_later (by decide) (Below.refl _ _) rfl)
          · exact wpOp_call1 rfl (wanted_free rfl) 18 _ _ rfl _ (hF 11 (hpre 11 (by kernel_rfl))) (enters_short _ _) (hsy.out w1) (fun e w' h => ⟨_, h.1, by obtain ⟨_, rfl⟩ := h; exact (hI.add (by decide) fewF_later (by decide) (Below.refl _ _) rfl)⟩)
          · exact wpOp_agg rfl (wanted_free rfl) _ _ rfl #[(0, .string sx), (1, .string sy)] (by simp only [List.map_toArray, List.map_cons, List.map_nil, show a.eval (.tmp 22) = .string sx from (hF 6 (hpre 6 (by kernel_rfl))), show a.eval (.tmp 28) = .string sy from (hF 12 (hpre 12 (by kernel_rfl)))]) _ (run_aggH w1 sx sy) (hI.add (by decide) fewF_later (by decide) (Below.refl _ _) rfl)
          · exact wpOp_build rfl (wanted_free rfl) _ _ _ rfl #[(0, .agg #[.string sx, .string sy])] (by simp only [List.map_toArray, List.map_cons, List.map_nil, show a.eval (.tmp 29) = .agg #[.string sx, .string sy] from (hF 13 (hpre 13 (by kernel_rfl)))]) _ (run_buildH w1 sx sy) (hI.add (by decide) fewF_later (by decide) (below_box w1 _) ⟨_, 1, 1, rfl, hds_new w1 _ [(sx, sy)] rfl (by simp [maxLen])⟩)
        · intro D a w1 hI hall
          have hB1 := Lib.hid (below_then hb'.out hI.below)
          have hB2 := Lib.hid hI.below
          have hdone := hI.done (by decide) rfl hall
          have f16 : a.eval (.tmp 16) = u3 := hI.fact 0 (hall 0 (by decide))
          have f30 : HH [(sx, sy)] (a.eval (.tmp 30)) w1 := hI.fact 14 (hall 14 (by decide))
          have hsz := hI.size
          clear hI hall
          obtain ⟨Ae, ne, ce, ee, he⟩ := f30
          obtain rfl : ne = 1 := he.len.symm
          show wpOps _ _ _ [15, 16] a w1
          rw [wpOps_cons]
          refine wpOp_append_hds rfl (wanted_free rfl) (.tmp 16) (.tmp 30) 23 rfl w.heap.size i0 Try.underlying23 hi hz0 hz1 hz2 u3 T f16 (hown'.out.kept hB2.out (Nat.le_refl _)) Ae 1 ce [(sx, sy)] ee he (by have := hfl.out; omega) hB1.out.size ?_
          intro v1 w2 hown1 hg1
          have hb2 := Lib.hid (OwnsH.below (hown'.out.kept hB2.out (Nat.le_refl _)) hB1.out hg1 hB1.out.size)
          replace hown1 := Lib.hid hown1
          clear hg1 ee he f16
          show wpOps _ _ _ _ (a.put (some 31) v1) w2
          rw [wpOps_cons]
          refine wpOp_assign rfl (wanted_free rfl) _ rfl v1 (by rw [eval_put_same _ _ _ (by rw [hsz]; decide)]) ?_
          show wpOps _ _ _ _ ((a.put (some 31) v1).put (some 3) v1) w2
          rw [wpOps]
          clear hsz
          obtain ⟨fs, rfl, _⟩ := hdone
          simp only [putAll, List.map_cons, List.map_nil, Act.put, List.setIfInBounds_toArray, List.set_cons_zero, List.set_cons_succ]
          generalize fs 16 = y16
          generalize fs 17 = y17
          generalize fs 18 = y18
          generalize fs 19 = y19
          generalize fs 20 = y20
          generalize fs 21 = y21
          generalize fs 22 = y22
          generalize fs 23 = y23
          generalize fs 24 = y24
          generalize fs 25 = y25
          generalize fs 26 = y26
          generalize fs 27 = y27
          generalize fs 28 = y28
          generalize fs 29 = y29
          generalize fs 30 = y30
          go_wp2
          go_roundw
          case rel => exact ⟨k + 1, by omega, by omega, by go_num, by rw [hst'.out]; exact hown1.out, hb2.out⟩
          case measure => simp [RowKit.intOf]; omega
      · obtain rfl : k = 24 := by omega
        have e := hen.out (.inr (Nat.le_refl _))
        subst e
        go_wp2
        go_ret
        exact ⟨_, rfl, hown'.out, hb'.out⟩
    · obtain rfl : k = n := by omega
      have e := hen.out (.inl (by rw [hlen.out]; exact Nat.le_refl _))
      subst e
      go_wp2
      go_ret
      exact ⟨_, rfl, hown'.out, hb'.out⟩
end Go.Proofs.Ytkjnpdnihfohoaa
