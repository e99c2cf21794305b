/-
  The reference's Ask of layer 14. Conditions: those that each theorem states.
-/
import Derived.Test.YtalnjlodldhfbaaGreatDoorPreAsk
namespace Go.Proofs.YtalnjlodldhfbaaGreatDoor
open Go.RowKit Go.Lib Go.Shelf

theorem mk_add (a b : List UInt8) : mk a ++ mk b = mk (a ++ b) := by
  rw [← mk_of (mk a ++ mk b)]
  congr 1

set_option maxHeartbeats 8000000 in
set_option maxRecDepth 100000 in
theorem refAsk_any (A : Option Addr) (n c : Nat) (l : List Hd) (s x : ByteArray) (w : World) (h : Hds w A n c l) (hn : n ≤ 1000) (hB : Fits l) (hby : bytesIn l ≤ 10000000) :
    Calls Tryz.prog 12 #[.string s, .string x, .slice A n c] w (GivesH w (asked s x (uns l))) := by
  obtain ⟨i0, hi, hz0, hz1, hz2⟩ := info_parts Tryz.infoHd
  have hU := Lib.hid (fun W (hb : Below w.heap.size w W) => refUns_any A n c l W (h.later hb) hn hB)
  have hjl := Lib.hid (fun k => joinC_le (by rw [h.len]; exact hn) hby k)
  have hul := uns_len l
  rw [h.len] at hul
  have htl := Lib.hid (uns_mem_len (l := l) (B := 10000000) (fun x hx => by have := bytesIn_mem hx; omega))
  clear h hB hby
  generalize uns l = ts at hU hjl hul htl ⊢
  have hO0 := Lib.hid (owns_hds w [askA] (tiny (by simp)) _ rfl)
  have hb0 := Lib.hid (below_box w (.cells #[.string askA.1, .string askA.2] 45))
  have hone := Lib.hid hds_one
  have hone1 : Hid (Hds ((w.alloc (.cells #[.string askA.1, .string askA.2] 45)).alloc (.cells #[.string askM, .string x] 45)) (some ⟨w.heap.size + 1, 0, Option.none⟩) 1 1 [(askM, x)]) := Lib.hid (by
    have h1 := hds_one (w.alloc (.cells #[.string askA.1, .string askA.2] 45)) askM x
    have e : (w.alloc (.cells #[.string askA.1, .string askA.2] 45)).heap.size = w.heap.size + 1 := by simp
    rw [e] at h1
    exact h1)
  have hd : asked s x ts = ([askA, (askM, x)] ++ (if ts.isEmpty then [] else [(askH, mk (joinC ts))])) ++ [(askO, s)] := rfl
  rw [hd]
  clear hd
  obtain ⟨mid, hmid⟩ : ∃ mid, mid = (if ts.isEmpty then [] else [(askH, mk (joinC ts))] : List Hd) := ⟨_, rfl⟩
  rw [← hmid]
  have hM := Lib.hid hmid
  clear hmid
  go_enter Tryz.func12, Tryz.ntmps12
  go_wp2_with (first
    | (at_builtin; refine wpList_append_hds rfl (.tmp 13) (.tmp 16) 22 rfl w.heap.size i0 Tryz.underlying22 hi hz0 hz1 hz2 _ _ rfl (hO0.out.alloc _) _ _ _ _ rfl hone1.out (by simp) (by simp; omega) ?_; intro v1 w1 hown1 hg1; have hb1 := Lib.hid ((hO0.out.alloc _).below (hb0.out.alloc hb0.out.size _) hg1 (by simp; omega)); have hO1 := Lib.hid hown1; clear hown1 hg1)
    | (go_at_call 18; (with_reducible refine (hU.out _ hb1.out).mono ?_); rintro e w2 ⟨v, rfl, ho, hb2⟩; obtain ⟨A1, n1, c1, rfl, hT, hS⟩ := ho.both; have hT2 := Lib.hid hT; have hO2 := Lib.hid (hO1.out.kept hb2 (Nat.le_refl _)); have hB2 := Lib.hid (below_then hb1.out hb2); clear ho hT hS hb2)
    | fail)
  have hn1 : n1 ≤ 1000 := by have := hT2.out.len; omega
  go_loop [9, 10] (fun t i => ∃ q : Nat, ∃ u : ByteArray, q ≤ n1 ∧ t = .string u ∧ i = .int .i64 q ∧ Hid (u = mk (joinC (ts.take q)))) (fun _ i => n1 - (RowKit.intOf i).toNat)
  case atStart => exact ⟨0, _, Nat.zero_le _, rfl, rfl, Lib.hid rfl⟩
  case round =>
    obtain ⟨q, u, hq, rfl, rfl, hu⟩ := hrel
    have huz : u.size ≤ 20000000000 := by rw [hu.out, mk_size]; exact hjl.out q
    by_cases hlt : q < n1
    · have hql : q < ts.length := by rw [hT2.out.len]; exact hlt
      obtain ⟨g, rfl, _, hc⟩ := hT2.out.cell (by omega)
      have h1 := hc q hlt
      rw [List.getElem?_eq_getElem hql] at h1
      replace h1 : w2.cell? ⟨g, q, Option.none⟩ = some (.string (mk ts[q])) := h1
      have hyz : (mk ts[q]).size ≤ 10000000 := by rw [mk_size]; exact htl.out _ (List.getElem_mem hql)
      clear hc
      by_cases h0 : 0 < q
      · have hst : Hid (u ++ ⟨#[44]⟩ ++ mk ts[q] = mk (joinC (ts.take (q + 1)))) := Lib.hid (by
          have hne : ts.take q ≠ [] := fun e => by have := congrArg List.length e; rw [List.length_take, List.length_nil] at this; omega
          rw [take_snoc hql, joinC_snoc _ hne, hu.out, show (⟨#[44]⟩ : ByteArray) = mk [44] from rfl, mk_add, mk_add])
        generalize mk ts[q] = y at h1 hyz hst
        go_wp2
        go_round
        case rel => exact ⟨q + 1, _, by omega, rfl, by go_num, hst⟩
        case measure => simp [RowKit.intOf]; omega
      · have eq0 : q = 0 := by omega
        subst eq0
        have hst : Hid (u ++ mk ts[0] = mk (joinC (ts.take (0 + 1)))) := Lib.hid (by
          rw [take_snoc hql, hu.out]
          simp only [List.take_zero, List.nil_append]
          rw [joinC_one, mk_add]
          rfl)
        generalize mk ts[0] = y at h1 hyz hst
        go_wp2
        go_round
        case rel => exact ⟨0 + 1, _, by omega, rfl, by go_num, hst⟩
        case measure => simp [RowKit.intOf]; omega
    · have eq1 : q = n1 := by omega
      have hu' : Hid (u = mk (joinC ts)) := Lib.hid (by rw [hu.out, eq1, ← hT2.out.len, List.take_length])
      by_cases hz : 0 < n1
      · have hmm : Hid (mid = [(askH, u)]) := Lib.hid (by
          have hne : ts.isEmpty = false := by
            rw [List.isEmpty_eq_false_iff]
            intro e
            have := hT2.out.len
            rw [e] at this
            simp at this
            omega
          rw [hM.out, hne, hu'.out]
          rfl)
        clear hu hu' hM
        go_wp2_with (first
          | (at_builtin; refine wpList_append_hds rfl (.tmp 39) (.tmp 42) 22 rfl w.heap.size i0 Tryz.underlying22 hi hz0 hz1 hz2 _ _ rfl (hO2.out.alloc _) _ _ _ _ rfl (hone.out w2 _ _) (by simp) (by have := hB2.out.size; simp; omega) ?_; intro v3 w3 hown3 hg3; have hb3 := Lib.hid ((hO2.out.alloc _).below (hB2.out.alloc hB2.out.size _) hg3 (by have := hB2.out.size; simp; omega)))
          | (at_builtin; refine wpList_append_hds rfl (.tmp 44) (.tmp 47) 22 rfl w.heap.size i0 Tryz.underlying22 hi hz0 hz1 hz2 _ _ rfl (hown3.alloc _) _ _ _ _ rfl (hone.out w3 _ _) (by simp) (by have := hb3.out.size; simp; omega) ?_; intro v4 w4 hown4 hg4; have hb4 := Lib.hid ((hown3.alloc _).below (hb3.out.alloc hb3.out.size _) hg4 (by have := hb3.out.size; simp; omega)))
          | fail)
        go_ret
        exact ⟨_, rfl, by rw [hmm.out]; exact hown4, hb4.out⟩
      · have en : n1 = 0 := by omega
        have hmm : Hid (mid = []) := Lib.hid (by
          have hz1 : ts = [] := List.eq_nil_of_length_eq_zero (by rw [hT2.out.len]; exact en)
          rw [hM.out, hz1]
          rfl)
        clear hu hu' hM
        subst en
        go_wp2_with (first
          | (at_builtin; refine wpList_append_hds rfl (.tmp 44) (.tmp 47) 22 rfl w.heap.size i0 Tryz.underlying22 hi hz0 hz1 hz2 _ _ rfl (hO2.out.alloc _) _ _ _ _ rfl (hone.out w2 _ _) (by simp) (by have := hB2.out.size; simp; omega) ?_; intro v4 w4 hown4 hg4; have hb4 := Lib.hid ((hO2.out.alloc _).below (hB2.out.alloc hB2.out.size _) hg4 (by have := hB2.out.size; simp; omega)))
          | fail)
        go_ret
        exact ⟨_, rfl, by rw [hmm.out]; exact hown4, hb4.out⟩
end Go.Proofs.YtalnjlodldhfbaaGreatDoor
