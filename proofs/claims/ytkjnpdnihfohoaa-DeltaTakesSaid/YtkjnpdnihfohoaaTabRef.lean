/-
  The reference's table of layer 19 in memory, and the number of a text in it. Conditions: those that each theorem states.
-/
import Derived.Test.YtkjnpdnihfohoaaTabTexts
import Derived.Test.YtkjnpdnihfohoaaTabMath
namespace Go.Proofs.Ytkjnpdnihfohoaa
open Go.RowKit Go.Lib Leb

/-- Block b holds the reference's table, whose list is the slice v, which reads as the texts l. -/
structure RT (w : World) (b : Nat) (v : Value) (l : List (List UInt8)) : Prop where
  blk : w.heap[b]? = some (.cells #[v] 33 (0, 0))
  own : OwnsT w 0 v l
  ne : v.ownBlock ≠ some b
/-- The blocks that it consists of. -/
def inR (b : Nat) (v : Value) (k : Nat) : Prop := k = b ∨ v.ownBlock = some k

section
variable {w w' : World} {b : Nat} {v : Value} {l : List (List UInt8)}
theorem RT.lt (h : RT w b v l) : b < w.heap.size := (Array.getElem?_eq_some_iff.1 h.blk).1
theorem RT.low (h : RT w b v l) : ∀ k, inR b v k → k < w.heap.size := fun k hk => by
  rcases hk with rfl | hk
  · exact h.lt
  · exact (h.own.lt hk).2
theorem RT.cell (h : RT w b v l) : w.cell? ⟨b, 0, Option.none⟩ = some v := by rw [cell_of_row w _ 0 _ _ _ h.blk]; rfl
theorem RT.free (h : RT w b v l) : w.frozen? ⟨b, 0, Option.none⟩ = false := frozen_of_row w _ 0 _ _ h.blk
theorem RT.alt {S : Nat → Prop} (h : RT w b v l) (ha : Alt w w' S) (hS : ∀ k, inR b v k → ¬ S k) : RT w' b v l :=
  ⟨(ha.block b h.lt (hS b (.inl rfl))).trans h.blk, h.own.alt ha fun g hg => hS g (.inr hg), h.ne⟩
theorem RT.later (h : RT w b v l) (hb : Below w.heap.size w w') : RT w' b v l := h.alt (alt_below hb fun _ => False) fun _ _ h => h
/-- A store of a new list into the table's field. -/
theorem RT.put {W : World} {u : Value} {l' : List (List UInt8)} (h : RT w b v l) (hb : Below w.heap.size w W) (ho : OwnsT W w.heap.size u l') :
    RT (W.setCell ⟨b, 0, Option.none⟩ u) b u l' ∧ Alt w (W.setCell ⟨b, 0, Option.none⟩ u) (fun k => k = b) ∧ ∀ k, inR b u k → k = b ∨ w.heap.size ≤ k := by
  have hne : u.ownBlock ≠ some b := fun e => by have := (ho.lt e).1; have := h.lt; omega
  refine ⟨⟨heap_setCell_same W b 0 _ _ u ((hb.block b h.lt).trans h.blk), ?_, hne⟩, ?_, fun k hk => ?_⟩
  · exact (ho.alt (alt_set W ⟨b, 0, Option.none⟩ u (S := fun k => k = b) rfl) fun g hg e => hne (by rw [hg, e])).low (Nat.zero_le _)
  · exact (alt_below hb _).trans (alt_set W ⟨b, 0, Option.none⟩ u (S := fun k => k = b) rfl) fun _ _ e => e
  · rcases hk with rfl | hk
    · exact .inl rfl
    · exact .inr (ho.lt hk).1
end

set_option maxHeartbeats 2000000 in
set_option maxRecDepth 100000 in
theorem refAt_any (b : Nat) (v : Value) (l : List (List UInt8)) (p : List UInt8) (w : World) (h : RT w b v l) (hl : l.length ≤ 1000000) :
    Calls Try.prog 30 #[.pointer (some ⟨b, 0, Option.none⟩), .string (mk p)] w fun e w' => e = .returned (.int .i64 (numT l p)) ∧ w = w' := by
  obtain ⟨A, c, rfl, hT⟩ := h.own.texts
  obtain ⟨n, hn⟩ : ∃ n, n = l.length := ⟨_, rfl⟩
  have hc0 := h.cell
  rw [← hn] at hc0 hT hl
  have hT' := Lib.hid hT
  have hn' := Lib.hid hn
  have hp' := Lib.hid (fun a => text_eq a p)
  obtain ⟨s, hs⟩ : ∃ s, s = mk p := ⟨_, rfl⟩
  rw [← hs] at hp' ⊢
  obtain ⟨r, hr⟩ : ∃ r, r = numT l p := ⟨_, rfl⟩
  rw [← hr]
  have hr' := Lib.hid hr
  clear hT hn h hs hr
  go_enter Try.func30, Try.ntmps30
  go_wp2
  go_loop [5] (fun i => ∃ k : Nat, k ≤ n ∧ i = .int .i64 k ∧ ∀ j, j < k → l[j]? ≠ some p) (fun i => n - (RowKit.intOf i).toNat)
  case atStart => exact ⟨0, Nat.zero_le _, rfl, fun j hj => absurd hj (by omega)⟩
  case round =>
    obtain ⟨k, hk, rfl, hno⟩ := hrel
    have hno' := Lib.hid hno
    clear hno
    by_cases hkn : k < n
    · obtain ⟨g, rfl, _, hcs⟩ := hT'.out.cell (by omega)
      have h1 := hcs k hkn
      clear hcs
      have hlk : k < l.length := by rw [← hn'.out]; exact hkn
      obtain ⟨y, hy⟩ : ∃ y, l[k]? = some y := ⟨_, List.getElem?_eq_getElem hlk⟩
      rw [hy, Option.getD_some] at h1
      have hy' := Lib.hid hy
      have hq := Lib.hid (hp'.out y)
      clear hlk hy
      by_cases he : y = p
      · have hq1 : ((mk y).toList == s.toList) = true := by rw [hq.out, decide_eq_true he]
        have he' := Lib.hid he
        clear he
        generalize mk y = x at h1 hq1 hq
        go_wp2
        go_ret
        refine ⟨ret_int ?_, rfl⟩
        rw [hr'.out, numT_first l p k hno'.out (by rw [hy'.out, he'.out])]
        simp
      · have hq1 : ((mk y).toList == s.toList) = false := by rw [hq.out, decide_eq_false he]
        have he' := Lib.hid he
        clear he
        generalize mk y = x at h1 hq1 hq
        go_wp2
        go_round
        case rel =>
          refine ⟨k + 1, by omega, by go_num, fun j hj e => ?_⟩
          by_cases ej : j = k
          · subst ej
            rw [hy'.out] at e
            exact he'.out (Option.some.inj e)
          · exact hno'.out j (by omega) e
        case measure => simp [RowKit.intOf]; omega
    · obtain rfl : k = n := by omega
      go_wp2
      go_ret
      refine ⟨ret_int ?_, rfl⟩
      rw [hr'.out, numT_none fun j hj => hno'.out j (by rw [hn'.out]; exact hj)]
      rfl
end Go.Proofs.Ytkjnpdnihfohoaa
