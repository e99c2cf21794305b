/-
  The law's own 'few' of layer 19. Conditions: those that each theorem states.
-/
import Derived.Test.YtlmchoonokglaaaTabTexts
namespace Go.Proofs.Ytlmchoonokglaaa
open Go.RowKit Go.Lib Leb

/-- The slice value with address A, length n and capacity c reads as the texts l. -/
structure Txs (w : World) (A : Option Addr) (n c : Nat) (l : List (List UInt8)) : Prop where
  len : l.length = n
  cap : n ≤ c
  room : c ≤ maxLen
  bare : A = Option.none → c = 0
  cell : 0 < n → ∃ b off, A = some ⟨b, off, Option.none⟩ ∧ b < w.heap.size ∧ ∀ j, j < n → w.cell? ⟨b, off + j, Option.none⟩ = some (.string (mk (l[j]?.getD [])))
theorem Txs.later {w w' : World} {A : Option Addr} {n c : Nat} {l : List (List UInt8)} (h : Txs w A n c l) (hb : Below w.heap.size w w') : Txs w' A n c l :=
  ⟨h.len, h.cap, h.room, h.bare, fun hn => by
    obtain ⟨b, off, e, hlt, hc⟩ := h.cell hn
    exact ⟨b, off, e, Nat.lt_of_lt_of_le hlt hb.size, fun j hj => cell_later hb (hc j hj)⟩⟩

/-- The first 40, and of each the first 300 bytes. -/
def fewT (l : List (List UInt8)) : List (List UInt8) := (l.take 40).map fun p => p.take 300
theorem fewT_len (l : List (List UInt8)) : (fewT l).length ≤ 40 := by simp [fewT]; omega
theorem fewT_short (l : List (List UInt8)) : ∀ p ∈ fewT l, p.length ≤ 300 := fun p hp => by
  obtain ⟨q, _, rfl⟩ := List.mem_map.1 hp
  simp
  omega
theorem fewT_step {l : List (List UInt8)} {k : Nat} {y : List UInt8} (hk : k < 40) (hy : l[k]? = some y) : fewT (l.take (k + 1)) = fewT (l.take k) ++ [y.take 300] := by
  unfold fewT
  have h1 : l.take (k + 1) = l.take k ++ [y] := by rw [List.take_add_one, hy]; rfl
  have h2 : (l.take k).length ≤ k := List.length_take_le k l
  rw [h1, List.take_of_length_le (l := l.take k ++ [y]) (by rw [List.length_append, List.length_singleton]; omega), List.take_of_length_le (l := l.take k) (by omega), List.map_append]
  rfl
theorem fewT_end {l : List (List UInt8)} {k : Nat} (h : l.length ≤ k ∨ 40 ≤ k) : fewT (l.take k) = fewT l := by
  unfold fewT
  rw [List.take_take]
  rcases h with h | h
  · by_cases h4 : 40 ≤ k
    · rw [show min 40 k = 40 by omega]
    · rw [show min 40 k = k by omega, List.take_of_length_le h, List.take_of_length_le (by omega)]
  · rw [show min 40 k = 40 by omega]

set_option maxHeartbeats 4000000 in
set_option maxRecDepth 100000 in
theorem few19_any (A : Option Addr) (n c : Nat) (l : List (List UInt8)) (w : World) (h : Txs w A n c l) : Calls Try.prog 7 #[.slice A n c] w (GivesT w (fewT l)) := by
  obtain ⟨i9, hj, hy0, hy1, hy2⟩ := info_parts Try.info9
  have h0 := Lib.hid (owns_texts w [] (by simp) #[] rfl)
  have hT := Lib.hid h
  have hn : n ≤ 9223372036854775807 := by have h1 := h.cap; have h2 := h.room; unfold maxLen at h2; omega
  have hlen := Lib.hid h.len
  have hlit := Lib.hid (fun W p => owns_texts W [p] (by simp [maxLen]) #[.string (mk p)] rfl)
  clear h
  go_enter Try.func7, Try.ntmps7
  go_wp2
  go_loopw [3, 4] (fun v i wr => ∃ k : Nat, k ≤ n ∧ k ≤ 40 ∧ i = .int .i64 k ∧ OwnsT wr w.heap.size v (fewT (l.take k)) ∧ Below w.heap.size w wr) (fun _ i _ => n - (RowKit.intOf i).toNat)
  case atStart => exact ⟨0, Nat.zero_le _, by omega, rfl, h0.out, below_box w _⟩
  case round =>
    obtain ⟨k, hk, hk4, rfl, hown, hb⟩ := hrel
    have hown' := Lib.hid hown
    have hb' := Lib.hid hb
    have hfl := Lib.hid (fewT_len (l.take k))
    have hst := Lib.hid (fun y => fewT_step (l := l) (k := k) (y := y))
    have hen := Lib.hid (fewT_end (l := l) (k := k))
    generalize fewT (l.take k) = T at hown' hfl hst hen
    clear hown hb
    by_cases hkn : k < n
    · by_cases hk40 : k < 40
      · obtain ⟨g, off, rfl, _, hcs⟩ := (hT.out.later hb'.out).cell (by omega)
        have h1 := hcs k hkn
        have hlk : k < l.length := by rw [hlen.out]; exact hkn
        obtain ⟨y, hy⟩ : ∃ y, l[k]? = some y := ⟨_, List.getElem?_eq_getElem hlk⟩
        rw [hy, Option.getD_some] at h1
        have hst' := Lib.hid (hst.out y hk40 hy)
        have hxs : (mk y).size = y.length := mk_size y
        have hex : (mk y).extract 0 300 = mk (y.take 300) := by
          have h3 := mk_of ((mk y).extract 0 300)
          rw [Lib.extract_data, mk_list] at h3
          rw [← h3]
          simp
        have hlit' := Lib.hid (fun W => hlit.out W (y.take 300))
        obtain ⟨m, hm⟩ : ∃ m, m = y.length := ⟨_, rfl⟩
        obtain ⟨x, hx⟩ : ∃ x, x = mk y := ⟨_, rfl⟩
        obtain ⟨z, hz⟩ : ∃ z, z = mk (y.take 300) := ⟨_, rfl⟩
        rw [← hx] at h1 hxs hex
        rw [← hz] at hlit' hex
        rw [← hm] at hxs
        by_cases h3 : 300 < m
        · clear hcs hy hlk hx hz hm
          go_wp2_with (at_builtin; refine wpList_append_texts rfl (.tmp 26) (.tmp 28) 23 rfl w.heap.size i9 Try.underlying23 hj hy0 hy1 hy2 _ T rfl (hown'.out.alloc _) _ [y.take 300] wr.heap.size rfl (hlit'.out wr) (by have := hfl.out; simp; omega) (Nat.le_trans hb'.out.size (by simp)) ?_; intro v1 w1 hown1 hg1 _; have hb1 := Lib.hid (OwnsT.below (hown'.out.alloc _) (hb'.out.alloc hb'.out.size _) hg1 (Nat.le_trans hb'.out.size (by simp))); replace hown1 := Lib.hid hown1; clear hg1)
          go_roundw
          case rel => exact ⟨k + 1, by omega, by omega, by go_num, by rw [hst'.out]; exact hown1.out, hb1.out⟩
          case measure => simp [RowKit.intOf]; omega
        · have hxz : x = z := by rw [hx, hz, List.take_of_length_le (by omega)]
          subst hxz
          clear hcs hy hlk hx hz hm hex
          go_wp2_with (at_builtin; refine wpList_append_texts rfl (.tmp 26) (.tmp 28) 23 rfl w.heap.size i9 Try.underlying23 hj hy0 hy1 hy2 _ T rfl (hown'.out.alloc _) _ [y.take 300] wr.heap.size rfl (hlit'.out wr) (by have := hfl.out; simp; omega) (Nat.le_trans hb'.out.size (by simp)) ?_; intro v1 w1 hown1 hg1 _; have hb1 := Lib.hid (OwnsT.below (hown'.out.alloc _) (hb'.out.alloc hb'.out.size _) hg1 (Nat.le_trans hb'.out.size (by simp))); replace hown1 := Lib.hid hown1; clear hg1)
          go_roundw
          case rel => exact ⟨k + 1, by omega, by omega, by go_num, by rw [hst'.out]; exact hown1.out, hb1.out⟩
          case measure => simp [RowKit.intOf]; omega
      · obtain rfl : k = 40 := by omega
        have e := hen.out (.inr (Nat.le_refl _))
        subst e
        go_wp2
        go_ret
        exact ⟨_, rfl, hown'.out, hb'.out⟩
    · obtain rfl : k = n := by omega
      have e := hen.out (.inl (by rw [hlen.out]; exact Nat.le_refl _))
      subst e
      go_wp2
      go_ret
      exact ⟨_, rfl, hown'.out, hb'.out⟩
end Go.Proofs.Ytlmchoonokglaaa
