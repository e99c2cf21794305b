/-
  The walk of the statement CorsTwice: for any list of headers, text and number it returns true, and nothing that was there is changed. Condition: the names' and values' bytes, together with the number of headers, are at most 1048576, and the text has fewer than 4294967281 bytes.
-/
import Derived.Test.YtdmmkjioaiefdaaCorsAwake
import Derived.Test.YtdmmkjioaiefdaaCorsFew
import Derived.Test.YtdmmkjioaiefdaaHeadPut
namespace Go.Proofs.Ytdmmkjioaiefdaa
open Go.RowKit Go.Lib Go.Shelf

theorem short_in2 {l : List Hd} {B B' : Nat} (h : bytesIn l ≤ B) (hB : B ≤ B') : Short B' l := fun x hx => by
  have := bytesIn_mem hx
  omega
abbrev nameA : ByteArray := ⟨#[65, 99, 99, 101, 115, 115, 45, 67, 111, 110, 116, 114, 111, 108, 45, 65, 108, 108, 111, 119, 45, 79, 114, 105, 103, 105, 110]⟩
abbrev nameU : ByteArray := ⟨#[65, 67, 67, 69, 83, 83, 45, 67, 79, 78, 84, 82, 79, 76, 45, 65, 76, 76, 79, 87, 45, 79, 82, 73, 71, 73, 78]⟩
theorem alikeA : alike nameA nameO = true := by unfold alike lo; decide +kernel
theorem alikeU : alike nameU nameO = true := by unfold alike lo; decide +kernel

set_option maxHeartbeats 4000000 in
set_option maxRecDepth 100000 in
theorem corsTwice_law (A : Option Addr) (n0 c : Nat) (l0 : List Hd) (s : ByteArray) (k : Int) (_hk : k ≤ 9223372036854775807) (w : World) (h : Hds w A n0 c l0) (hb0 : bytesIn l0 ≤ 1048576) (hs : s.size < 4294967281) :
    Calls Try.prog 4 #[.slice A n0 c, .string s, .int .i64 k] w (Yes w) := by
  obtain ⟨i0, hi, hz0, hz1, hz2⟩ := info_parts Try.infoHd
  have h30 := Lib.hid h.few
  have hbl : bytesIn (l0.take 30) ≤ 1048576 := Nat.le_trans (bytesIn_take _ _) hb0
  have hfew := Lib.hid ((few13_any A n0 c l0 w h).mono fun e w' q => show e = .returned (.slice A (min n0 30) c) ∧ w = w' from And.intro q.1 q.2.symm)
  have hn30 : min n0 30 ≤ 30 := Nat.min_le_right _ _
  clear h hb0
  generalize l0.take 30 = l at h30 hbl
  generalize min n0 30 = n at h30 hfew hn30
  have h1 := Lib.hid (fun j W (hb : Below w.heap.size w W) => check_any A n c l s j W (h30.out.later hb) (by omega) (short_in2 hbl (by simp only [maxLen]; omega)) (by omega))
  have hl := h30.out.len
  have hbT : bytesIn (([] ++ l) ++ [(nameA, s), (nameU, s)]) ≤ 10000000000 := by
    rw [List.nil_append, bytesIn_append]
    have : bytesIn [(nameA, s), (nameU, s)] = 28 + s.size + (28 + s.size) := by
      simp only [bytesIn, List.map_cons, List.map_nil, List.sum_cons, List.sum_nil]
      have e1 : nameA.size = 27 := by decide
      have e2 : nameU.size = 27 := by decide
      omega
    omega
  have hT := Lib.hid (fun (v : Value) (W : World) (hv : HH (([] ++ l) ++ [(nameA, s), (nameU, s)]) v W) => show Calls Try.prog 6 #[v, .string s, .int .i64 k] W fun e w' => e = .returned (.bool false) ∧ Below W.heap.size W w' from by
    obtain ⟨B, m, d, rfl, hH⟩ := hv
    have hm := hH.len
    simp only [List.length_append, List.length_nil, List.length_cons] at hm
    have := check_any B m d _ s k W hH (by omega) (short_in2 hbT (by simp only [maxLen]; omega)) (by omega)
    rw [seen_twice ([] ++ l) nameA nameU s k alikeA alikeU] at this
    exact this)
  have hless := Lib.hid (fun h j => seen_less (l := l) (s := s) h j)
  have hs0 := Lib.hid (World.ownsRow_made (base := w.heap.size) (e := 27) (size := 2) w #[] 0 (Nat.le_refl _) (Nat.zero_le _) rfl)
  have hO0 : Hid (OwnsH (w.alloc (.cells #[] 27)) w.heap.size (.slice (some ⟨w.heap.size, 0, Option.none⟩) 0 0) []) := Lib.hid (by have h := hs0.out; simpa [OwnsH, hcells] using h)
  have hnew := Lib.hid (fun W => hds_new W _ [(nameA, s), (nameU, s)] rfl (tiny (by simp)))
  clear hbl hbT hs0
  go_enter Try.func4, Try.ntmps4
  go_wp2_with (first
    | (go_at_call 7; refine hfew.out.mono ?_; rintro e w' ⟨rfl, hw⟩; subst hw)
    | (at_builtin; refine wpList_append_hds rfl (.tmp 11) (.tmp 12) 22 rfl w.heap.size i0 Try.underlying22 hi hz0 hz1 hz2 _ _ rfl hO0.out _ _ _ _ rfl (h30.out.later (below_box w _)) (by simp only [List.length_nil]; omega) (by simp) ?_; intro v1 w1 hown1 hg1; have hb1 := Lib.hid (hO0.out.below (below_box w _) hg1 (by simp)))
    | (at_builtin; refine wpList_append_hds rfl (.tmp 13) (.tmp 18) 22 rfl w.heap.size i0 Try.underlying22 hi hz0 hz1 hz2 _ _ rfl (hown1.alloc _) _ _ _ _ rfl (hnew.out w1) (by simp only [List.length_append, List.length_nil]; omega) (by have := hb1.out.size; simp; omega) ?_; intro v2 w2 hown2 hg2; have hb2 := Lib.hid ((hown1.alloc _).below (hb1.out.alloc hb1.out.size _) hg2 (by have := hb1.out.size; simp; omega)))
    | fail)
  obtain ⟨B, m, d, rfl, hH⟩ := hown2.hh
  have H2 := Lib.hid hH
  clear hg1 hg2 hown1 hown2 hb1 hH hnew hO0 hfew h30
  refine (awake13_any _).mono ?_
  rintro e w3 ⟨rfl, hb3⟩
  have B3 := Lib.hid (below_then hb2.out hb3)
  have H3 := Lib.hid (H2.out.later hb3)
  clear hb2 hb3 H2
  cases e3 : seen l s 3 with
  | false =>
    have hc := Lib.hid (h1.out 3)
    rw [e3] at hc
    clear e3 h1 hless
    rcases Bool.eq_false_or_eq_true (s.toList == [42]) with p | p
    all_goals
      go_wp2_with (first
        | (go_at_call 6; (with_reducible refine (hc.out _ B3.out).mono ?_); rintro e w4 ⟨rfl, hb4⟩; have B4 := below_then B3.out hb4)
        | (go_at_call 6; refine (hT.out _ _ ⟨_, _, _, rfl, H3.out.later hb4⟩).mono ?_; rintro e w5 ⟨rfl, hb5⟩))
      go_ret
      first
        | exact ⟨rfl, below_then B4 hb5⟩
        | exact ⟨rfl, B4⟩
  | true =>
    have hc : Hid (∀ (j : Int) (W : World), Below w.heap.size w W → Calls Try.prog 6 #[.slice A n c, .string s, .int .i64 j] W fun e w' => e = .returned (.bool true) ∧ Below W.heap.size W w') := Lib.hid (fun j W hb => by
      have := h1.out j W hb
      rw [hless.out e3 j] at this
      exact this)
    clear e3 h1 hless
    rcases Bool.eq_false_or_eq_true (s.toList == [42]) with p | p
    all_goals
      go_wp2_with (first
        | (go_at_call 6; (with_reducible refine (hc.out _ _ B3.out).mono ?_); rintro e w4 ⟨rfl, hb4⟩; have B4 := below_then B3.out hb4; have H4 := Lib.hid (H3.out.later hb4))
        | (go_at_call 6; (with_reducible refine (hc.out _ _ B4).mono ?_); rintro e w5 ⟨rfl, hb5⟩; have B5 := below_then B4 hb5; have H5 := Lib.hid (H4.out.later hb5))
        | (go_at_call 6; (with_reducible refine (hc.out _ _ B5).mono ?_); rintro e w6 ⟨rfl, hb6⟩; have B6 := below_then B5 hb6)
        | (go_at_call 6; refine (hT.out _ _ ⟨_, _, _, rfl, H5.out.later hb6⟩).mono ?_; rintro e w7 ⟨rfl, hb7⟩))
      go_ret
      first
        | exact ⟨rfl, below_then B6 hb7⟩
        | exact ⟨rfl, B6⟩
end Go.Proofs.Ytdmmkjioaiefdaa
