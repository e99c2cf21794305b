/-
  safe.Unsafe as the program has it, with slices.Sort and slices.Compact by the library's contracts. Conditions: those that each theorem states.
-/
import Derived.Test.YtalnjlodldhfbaaGreatDoorSafeSort
import Derived.Test.YtalnjlodldhfbaaGreatDoorSafeShelf
import Derived.Sort.OwnSorted
import Derived.Lib.OwnBridge
namespace Go.Proofs.YtalnjlodldhfbaaGreatDoor
open Go.RowKit Go.Lib Go.Shelf Go.Sort

theorem OwnsT.low {w : World} {base base' : Nat} {v : Value} {l : List (List UInt8)} (h : OwnsT w base v l) (hB : base' ≤ base) : OwnsT w base' v l := by
  refine ⟨h.1, ?_⟩
  rcases h.2 with h0 | ⟨g, cap, cur, e1, hb, rest⟩
  · exact .inl h0
  · exact .inr ⟨g, cap, cur, e1, Nat.le_trans hB hb, rest⟩

theorem sort_any (v : Value) (ss : List (List UInt8)) (B : Nat) (w0 w1 : World) (hown : OwnsT w1 B v ss) (hb : RowKit.Below B w0 w1) (hB : B ≤ w1.heap.size) (hn : ss.length ≤ 1000) :
    Calls Tryz.prog 39 #[v] w1 fun e w' => e = .returned (.tuple #[]) ∧ OwnsT w' B v (ss.mergeSort fun x y => decide (x ≤ y)) ∧ RowKit.Below B w0 w' := by
  have hown' : w1.ownsRow B 9 1 v ss.length (ss.map encStr) := hown
  rcases hown'.2 with ⟨rfl, h0⟩ | ⟨g, cap, cur, rfl, hbase, hbl, h1, h2, h3, h4⟩
  · have hl : ss = [] := List.eq_nil_of_length_eq_zero h0
    subst hl
    refine (Any.slices_Sort_string_none Tryz.lays190 Option.none 0 w1).mono ?_
    rintro e w' ⟨rfl, rfl⟩
    exact ⟨rfl, by simpa using hown, hb⟩
  · obtain ⟨g', cap', e1, _, hgl, _, _, _, hH⟩ := Lib.holds_of_ownsRow hown' (by intro e; cases e)
    cases e1
    refine (Any.slices_Sort_string Tryz.lays190 g 0 cap ss w1 hH hgl (by omega)).mono ?_
    rintro e w' ⟨rfl, nn, os, rfl⟩
    have hs := ownsRow_sorted (n := nn) (os := os) (ts := ss.mergeSort fun x y => decide (x ≤ y)) (List.length_mergeSort ss) hbase hbl h1 h2 h3
    refine ⟨rfl, ?_, hb.grown (grownBy_sorted _) hB (fun j hj => by cases hj; exact hbase)⟩
    unfold OwnsT
    rw [List.length_mergeSort]
    exact hs

theorem compact_any (v : Value) (ts : List (List UInt8)) (B : Nat) (w0 w1 : World) (hown : OwnsT w1 B v ts) (hb : RowKit.Below B w0 w1) (hn : ts.length ≤ 1000) :
    Calls Tryz.prog 40 #[v] w1 fun e w' => ∃ v', e = .returned v' ∧ OwnsT w' B v' (Lib.compact ts) ∧ RowKit.Below B w0 w' := by
  have hown' : w1.ownsRow B 9 1 v ts.length (ts.map encStr) := hown
  by_cases hv : v = .slice Option.none 0 0
  · subst hv
    have hl : ts = [] := by
      rcases hown'.2 with ⟨_, h0⟩ | ⟨g, cap, cur, e, _⟩
      · exact List.eq_nil_of_length_eq_zero h0
      · cases e
    subst hl
    refine (Any.slices_Compact_string_empty Tryz.lays194 Option.none 0 w1).mono ?_
    rintro e w' ⟨rfl, rfl⟩
    exact ⟨_, rfl, hown, hb⟩
  · obtain ⟨g, cap, rfl, hbase, hgl, hcap, hm, _, hH⟩ := Lib.holds_of_ownsRow hown' hv
    refine (Any.slices_Compact_string Tryz.lays194 g 0 cap ts w1 hH (by omega) hcap).mono ?_
    rintro e w' ⟨rfl, q, rfl⟩
    have hle := Lib.compact_length_le ts
    have hc := Lib.ownsRow_putRow (q := q) (k := (Lib.compact ts).length) (ys := Lib.compact ts ++ List.replicate (ts.length - (Lib.compact ts).length) []) hown' (by simp; omega) hle
    rw [List.take_left] at hc
    exact ⟨_, rfl, hc, Lib.below_putRow hb hbase⟩

/-- The loop of Unsafe: k headers are looked at. -/
def UnsRel (w : World) (l : List Hd) (v i : Value) (wr : World) : Prop :=
  ∃ k : Nat, k ≤ l.length ∧ i = .int .i64 k ∧ OwnsT wr w.heap.size v (namesOf (l.take k)) ∧ RowKit.Below w.heap.size w wr

theorem cell_one_new (w : World) (x : ByteArray) : ∀ j u, [Value.string x][j]? = some u → (w.alloc (.cells #[.string x] 9)).cell? ((⟨w.heap.size, 0, Option.none⟩ : Addr).add j) = some u := by
  intro j u hj
  rw [addr_add, cell_of_row _ w.heap.size (0 + j) _ 9 (0, 0) (heap_alloc_new w _)]
  match j, hj with
  | 0, hj => simpa using hj
theorem ownsT_snoc {w3 : World} {B : Nat} {v1 : Value} {x : List UInt8} {xs : List (List UInt8)} (h : w3.ownsRow B 9 1 v1 (xs.length + 1) ((xs.map fun p => Value.string (mk p)) ++ [.string (mk x)])) : OwnsT w3 B v1 (xs ++ [x]) := by
  unfold OwnsT
  rw [List.length_append, List.map_append]
  exact h

set_option maxHeartbeats 4000000 in
set_option maxRecDepth 100000 in
theorem unsafe_any (A : Option Addr) (n c : Nat) (l : List Hd) (w : World) (h : Hds w A n c l) (hn : n ≤ 1000) (hB : Short maxLen l) :
    Calls Tryz.prog 20 #[.slice A n c] w (GivesT w (uns l)) := by
  obtain ⟨i0, hi, hz0, hz1, hz2⟩ := info_parts Tryz.info9
  have h' := Lib.hid h
  have hl := Lib.hid h.len
  have hB' := Lib.hid hB
  clear h hB
  go_enter Tryz.func20, Tryz.ntmps20
  go_wp2
  go_loopw [3, 8] (fun v i wr => UnsRel w l v i wr) (fun _ i _ => n - (RowKit.intOf i).toNat)
  case atStart => exact ⟨0, Nat.zero_le _, rfl, World.ownsRow_nil _ _ _ _, RowKit.Below.refl _ _⟩
  case round =>
    obtain ⟨k, hk, rfl, hown, hb⟩ := hrel
    rw [hl.out] at hk
    have hvl : (namesOf (l.take k)).length ≤ 1000 := by have := namesOf_len (l.take k); rw [List.length_take, hl.out] at this; omega
    have hB1 := hb.size
    by_cases hlt : k < n
    · have hkl : k < l.length := by rw [hl.out]; exact hlt
      obtain ⟨b, off, rfl, h1, h2⟩ := (h'.out.later hb).at hlt
      have hsz := (hB'.out _ (List.getElem_mem hkl)).1
      have hcall := fun W => header_any l[k].1 l[k].2 hsz W
      have hlow := fun W => lower_any l[k].1 hsz W
      have hst := Lib.hid (namesOf_step hkl)
      change ∀ W, Calls _ _ _ _ (fun e w' => e = .returned (.string (mk (lo l[k].1))) ∧ RowKit.Below W.heap.size W w') at hlow
      generalize lo l[k].1 = t at hlow hst
      generalize headOk l[k].1 l[k].2 = ok at hcall hst
      generalize l[k].1 = x at h1 hcall hlow hsz
      generalize l[k].2 = y at h2 hcall
      have hcall' := Lib.hid hcall
      have hlow' := Lib.hid hlow
      clear hcall hlow
      cases ok with
      | true =>
        go_wp2_with (go_at_call 38; refine (hcall'.out _).mono ?_; rintro e w2 ⟨rfl, hb2⟩)
        go_roundw
        case rel =>
          have hbb := below_then (below_box wr _) hb2
          refine ⟨k + 1, by omega, by go_num, ?_, below_then hb hbb⟩
          rw [hst.out]
          simpa using hown.kept hbb (Nat.le_refl _)
        case measure => simp [RowKit.intOf]; omega
      | false =>
        obtain ⟨xs, hxs⟩ : ∃ xs, xs = namesOf (l.take k) := ⟨_, rfl⟩
        rw [← hxs] at hown hvl hst
        clear hxs
        obtain ⟨tb, htb⟩ : ∃ tb, tb = mk t := ⟨_, rfl⟩
        rw [← htb] at hlow'
        have htb' := Lib.hid htb
        clear htb
        go_wp2_with (first
          | (go_at_call 38; refine (hcall'.out _).mono ?_; rintro e w2 ⟨rfl, hb2⟩; have hcx : w2.cell? ⟨wr.heap.size, 0, Option.none⟩ = some (.string x) := cell_later hb2 (by simp))
          | (go_at_call 26; refine (hlow'.out _).mono ?_; rintro e w3 ⟨rfl, hb3⟩)
          | (at_builtin; refine wpList_append_own _ rfl (.tmp 15) (.tmp 19) 31 rfl w.heap.size 9 i0 (.string ByteArray.empty) 1 16 Tryz.underlying31 hi hz0 hz1 hz2 rfl (by decide) _ _ _ rfl ((hown.kept (below_then (below_then (below_box wr _) hb2) hb3) (Nat.le_refl _)).alloc _) _ 1 1 [.string tb] rfl rfl (cell_one_new _ _) (fun u hu => by simp at hu; rcases hu with rfl; rfl) (by simp only [maxLen]; omega) (by omega) (by have h3 := hb2.size; have h4 := hb3.size; simp at h3 h4 ⊢; omega) ?_; intro v1 w4 hown1 hg1 _))
        go_roundw
        case rel =>
          have hbb := below_then (below_then (below_box wr _) hb2) hb3
          have hbc := below_then hb hbb
          refine ⟨k + 1, by omega, by go_num, ?_, OwnsT.below ((hown.kept hbb (Nat.le_refl _)).alloc _) (hbc.alloc hbc.size _) hg1 (by have := hbc.size; simp; omega)⟩
          rw [hst.out]
          rw [htb'.out] at hown1
          exact ownsT_snoc hown1
        case measure => simp [RowKit.intOf]; omega
    · have ek : k = n := by omega
      subst ek
      rw [← hl.out, List.take_length] at hown hvl
      have hS := Lib.hid (sort_any _ (namesOf l) w.heap.size w wr hown hb hb.size hvl)
      have hU : Hid (uns l = Lib.compact ((namesOf l).mergeSort fun x y => decide (x ≤ y))) := Lib.hid rfl
      have hml : ((namesOf l).mergeSort fun x y => decide (x ≤ y)).length ≤ 1000 := by rw [List.length_mergeSort]; exact hvl
      generalize ((namesOf l).mergeSort fun x y => decide (x ≤ y)) = ts at hS hU hml
      clear hown
      go_wp2_with (first
        | (go_at_call 39; refine hS.out.mono ?_; rintro e w2 ⟨rfl, hown2, hb2⟩; have hC := Lib.hid (compact_any _ ts w.heap.size w w2 hown2 hb2 hml); clear hown2)
        | (go_at_call 40; refine hC.out.mono ?_; rintro e w3 ⟨v3, rfl, hown3, hb3⟩))
      go_ret
      exact ⟨_, rfl, by rw [hU.out]; exact hown3, hb3⟩
end Go.Proofs.YtalnjlodldhfbaaGreatDoor
