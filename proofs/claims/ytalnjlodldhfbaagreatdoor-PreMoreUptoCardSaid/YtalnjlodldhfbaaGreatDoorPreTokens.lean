/-
  The parts of a header's value and the seconds, as pre has them. Conditions: those that each theorem states.
-/
import Derived.Test.YtalnjlodldhfbaaGreatDoorPreMath
import Derived.Test.YtalnjlodldhfbaaGreatDoorHeadGet
import Derived.Test.YtalnjlodldhfbaaGreatDoorAscList
import Derived.Test.YtalnjlodldhfbaaGreatDoorAscNum
namespace Go.Proofs.YtalnjlodldhfbaaGreatDoor
open Go.RowKit Go.Lib Go.Shelf

set_option maxHeartbeats 4000000 in
set_option maxRecDepth 100000 in
theorem tokens_any (A : Option Addr) (n c : Nat) (l : List Hd) (name : ByteArray) (w : World) (h : Hds w A n c l) (hn : n ≤ 1000) (hB : Short maxLen l) (hs : name.size ≤ maxLen) (hby : bytesIn l ≤ 40000000) (hm : Lim w) :
    Calls Tryz.prog 25 #[.slice A n c, .string name] w fun e w' => ∃ v, e = .returned (.tuple #[v, .bool (allTok (partsOf name l))]) ∧ OwnsT w' w.heap.size v (if allTok (partsOf name l) then partsOf name l else []) ∧ Below w.heap.size w w' := by
  have hj := joined_len name l
  have hG := Lib.hid (get_any A n c l name w h hn hB hs (by omega))
  have hL := Lib.hid (fun W (hb : Below w.heap.size w W) => list_any (mk (joined (vals name l))) (by rw [mk_size]; omega) W (hm.later hb))
  have hpl := Lib.hid (show ∀ p ∈ partsOf name l, p.length ≤ 140000000 from fun p hp => by have := part_len hp; omega)
  have hpn : (partsOf name l).length ≤ 140000000 := by have := listOf_len (joined (vals name l)); unfold partsOf; omega
  rw [mk_list] at hL
  change Hid (∀ W, Below w.heap.size w W → Calls _ _ _ _ (GivesT W (partsOf name l))) at hL
  clear hj h hB hby hm
  generalize partsOf name l = ps at hL hpl hpn ⊢
  generalize mk (joined (vals name l)) = a at hG hL
  generalize decide (0 < (vals name l).length) = b at hG
  obtain ⟨r, hr⟩ : ∃ r, r = allTok ps := ⟨_, rfl⟩
  rw [← hr]
  have hR : Hid (r = ps.all token) := Lib.hid hr
  clear hr
  obtain ⟨us, hu⟩ : ∃ us, us = if r then ps else [] := ⟨_, rfl⟩
  rw [← hu]
  have hU := Lib.hid hu
  clear hu
  go_enter Tryz.func25, Tryz.ntmps25
  go_wp2_with (first
    | (go_at_call 47; (with_reducible refine hG.out.mono ?_); rintro e w1 ⟨rfl, hb1⟩)
    | (go_at_call 48; (with_reducible refine (hL.out w1 hb1).mono ?_); rintro e w2 ⟨v, rfl, ho, hb2⟩; obtain ⟨A1, n1, c1, rfl, hT, _⟩ := ho.both; have hb := Lib.hid (below_then hb1 hb2); have ho' := Lib.hid (ho.low hb1.size); have hT' := Lib.hid hT; have hn1 : n1 ≤ 9223372036854775807 := by rw [← hT.len]; omega
       clear ho hT hb1 hb2))
  go_loop [21] (fun i => ∃ q : Nat, q ≤ n1 ∧ i = .int .i64 q ∧ Hid ((ps.take q).all token = true)) (fun i => n1 - (RowKit.intOf i).toNat)
  case atStart => exact ⟨0, Nat.zero_le _, rfl, Lib.hid rfl⟩
  case round =>
    obtain ⟨q, hq, rfl, hall⟩ := hrel
    by_cases hlt : q < n1
    · have hql : q < ps.length := by rw [hT'.out.len]; exact hlt
      obtain ⟨g, rfl, _, hc⟩ := hT'.out.cell (by omega)
      have h1 := hc q hlt
      rw [List.getElem?_eq_getElem hql] at h1
      replace h1 : w2.cell? ⟨g, q, Option.none⟩ = some (.string (mk ps[q])) := h1
      have hst := Lib.hid (all_take (p := token) hql)
      have hms := Lib.hid (fun hp => all_miss (p := token) hql hp)
      have hin := Lib.hid (fun W => token_any (mk ps[q]) (by rw [mk_size]; have := hpl.out ps[q] (List.getElem_mem hql); simp only [maxLen]; omega) W)
      rw [mk_list] at hin
      clear hc
      generalize token ps[q] = b1 at hst hms hin
      generalize mk ps[q] = z at h1 hin
      cases b1 with
      | true =>
        have hn : Hid ((ps.take (q + 1)).all token = true) := Lib.hid (by rw [hst.out, hall.out]; rfl)
        clear hst hms
        go_wp2_with (go_at_call 49; (with_reducible refine (hin.out _).mono ?_); rintro e1 w3 ⟨rfl, hw⟩; have hw := hw.symm; subst hw)
        go_round
        case rel => exact ⟨q + 1, by omega, by go_num, hn⟩
        case measure => simp [RowKit.intOf]; omega
      | false =>
        have hf := Lib.hid (hms.out rfl)
        clear hst hms
        go_wp2_with (go_at_call 49; (with_reducible refine (hin.out _).mono ?_); rintro e1 w3 ⟨rfl, hw⟩; have hw := hw.symm; subst hw)
        go_ret2
        have e1 : r = false := by rw [hR.out, hf.out]
        have e2 : us = [] := by rw [hU.out, e1]; rfl
        subst e1
        subst e2
        exact ⟨_, rfl, World.ownsRow_nil _ _ _ _, hb.out⟩
    · have e : q = n1 := by omega
      subst e
      have hf := Lib.hid (show ps.all token = true by
        have h1 := hall.out
        rw [← hT'.out.len, List.take_length] at h1
        exact h1)
      go_wp2
      go_ret2
      have e1 : r = true := by rw [hR.out, hf.out]
      have e2 : us = ps := by rw [hU.out, e1]; rfl
      subst e1
      subst e2
      exact ⟨_, rfl, ho'.out, hb.out⟩

set_option maxHeartbeats 4000000 in
set_option maxRecDepth 100000 in
theorem age_any (A : Option Addr) (n c : Nat) (l : List Hd) (w : World) (h : Hds w A n c l) (hn : n ≤ 1000) (hB : Short maxLen l) (hby : bytesIn l ≤ 40000000) :
    Calls Tryz.prog 27 #[.slice A n c] w fun e w' => e = .returned (.int .i64 (ageOf l : Nat)) ∧ Below w.heap.size w w' := by
  have hj := joined_len nameA l
  have hG := Lib.hid (get_any A n c l nameA w h hn hB (tiny (by decide)) (by omega))
  have hN := Lib.hid (fun W => number_any (mk (joined (vals nameA l))) (by rw [mk_size]; simp only [maxLen]; omega) 86400 (show 86400 ≤ 9223372036854775807 by decide) W)
  rw [mk_list, show ((86400 : Nat) : Int) = 86400 by simp] at hN
  have hd : ageOf l = if isNumber (joined (vals nameA l)) then number (joined (vals nameA l)) 86400 else 5 := rfl
  rw [hd]
  clear hj h hB hby hd
  generalize number (joined (vals nameA l)) 86400 = v at hN ⊢
  generalize isNumber (joined (vals nameA l)) = p at hN ⊢
  generalize mk (joined (vals nameA l)) = a at hG hN
  generalize decide (0 < (vals nameA l).length) = b at hG
  cases p
  all_goals
    go_enter Tryz.func27, Tryz.ntmps27
    go_wp2_with (first
      | (go_at_call 47; (with_reducible refine hG.out.mono ?_); rintro e w1 ⟨rfl, hb1⟩)
      | (go_at_call 51; (with_reducible refine (hN.out _).mono ?_); rintro e1 w3 ⟨rfl, hw⟩; have hw := hw.symm; subst hw))
    go_ret
    exact ⟨rfl, hb1⟩
end Go.Proofs.YtalnjlodldhfbaaGreatDoor
