/-
  The walk of the statement PreReads: for any response, origin, method, names and mode of credentials it returns true, and nothing that was there is changed. Condition: the response's names' and values' bytes, together with the number of headers, are at most 1048576, and so is each name; the library's variable that strings.Split may read holds an int.
-/
import Derived.Test.YtalnjlodldhfbaaGreatDoorPreAwake
import Derived.Test.YtalnjlodldhfbaaGreatDoorPreRefRead
import Derived.Test.YtalnjlodldhfbaaGreatDoorPreRefLets
import Derived.Test.YtalnjlodldhfbaaGreatDoorLow
import Derived.Test.YtalnjlodldhfbaaGreatDoorPreOps
import Derived.Test.YtalnjlodldhfbaaGreatDoorAscSame
namespace Go.Proofs.YtalnjlodldhfbaaGreatDoor
open Go.RowKit Go.Lib Go.Shelf

theorem short_in {l : List Hd} {B B' : Nat} (h : bytesIn l ≤ B) (hB : B ≤ B') : Short B' l := fun x hx => by
  have := bytesIn_mem hx
  omega
theorem strs_n {w : World} {A : Option Addr} {n c : Nat} {l : List ByteArray} (h : Strs w A n c l) : n ≤ 9223372036854775807 := by have h1 := h.cap; have h2 := h.room; unfold maxLen at h2; omega
theorem enters_same04 (vs : Array Value) (w : World) : (callFunc 15 vs).run Tryz.prog w = .ok (.enter 15 vs) w := by kernel_rfl
theorem enters_rlets (vs : Array Value) (w : World) : (callFunc 17 vs).run Tryz.prog w = .ok (.enter 17 vs) w := by kernel_rfl

/-- What the slots of the last statement hold. -/
def rdF (ok lb : Bool) (ga gb : Nat) (A1 B1 A2 B2 A3 : Option Addr) (n1 c1 m1 d1 n2 c2 m2 d2 n6 c3 : Nat) (ag : Int) (m : ByteArray) (k : Int) (j : Nat) (v : Value) (_ : World) : Prop :=
  match j with
  | 0 => v = .bool true
  | 1 => v = .bool true
  | 2 => v = .bool ok
  | 3 => v = .bool ok
  | 4 => v = .bool true
  | 5 => v = .bool true
  | 6 => v = .bool true
  | 7 => v = .pointer (some ⟨ga, 0, Option.none⟩)
  | 8 => v = .slice A1 n1 c1
  | 9 => v = .pointer (some ⟨gb, 0, Option.none⟩)
  | 10 => v = .slice A2 n2 c2
  | 11 => v = .bool true
  | 12 => v = .bool true
  | 13 => v = .bool true
  | 14 => v = .pointer (some ⟨ga, 1, Option.none⟩)
  | 15 => v = .slice B1 m1 d1
  | 16 => v = .pointer (some ⟨gb, 1, Option.none⟩)
  | 17 => v = .slice B2 m2 d2
  | 18 => v = .bool true
  | 19 => v = .bool true
  | 20 => v = .bool true
  | 21 => v = .pointer (some ⟨ga, 2, Option.none⟩)
  | 22 => v = .int .i64 ag
  | 23 => v = .pointer (some ⟨gb, 2, Option.none⟩)
  | 24 => v = .int .i64 ag
  | 25 => v = .bool true
  | 26 => v = .bool true
  | 27 => v = .bool true
  | 28 => v = .agg #[.slice A1 n1 c1, .slice B1 m1 d1, .int .i64 ag]
  | 29 => v = .string m
  | 30 => v = .slice A3 n6 c3
  | 31 => v = .int .i64 k
  | 32 => v = .bool lb
  | 33 => v = .agg #[.slice A2 n2 c2, .slice B2 m2 d2, .int .i64 ag]
  | 34 => v = .string m
  | 35 => v = .slice A3 n6 c3
  | 36 => v = .int .i64 k
  | 37 => v = .bool lb
  | 38 => v = .bool true
  | 39 => v = .bool true
  | 40 => v = .bool true
  | _ => True
theorem rdF_later {ok lb : Bool} {ga gb : Nat} {A1 B1 A2 B2 A3 : Option Addr} {n1 c1 m1 d1 n2 c2 m2 d2 n6 c3 : Nat} {ag : Int} {m : ByteArray} {k : Int} : Outlives (rdF ok lb ga gb A1 B1 A2 B2 A3 n1 c1 m1 d1 n2 c2 m2 d2 n6 c3 ag m k) := by
  intro j v w w' h _
  unfold rdF at h ⊢
  split at h
  all_goals exact h

set_option maxHeartbeats 16000000 in
set_option maxRecDepth 100000 in
theorem preReads_law (st : Int) (A : Option Addr) (n0 c : Nat) (l0 : List Hd) (bd s m : ByteArray) (A3 : Option Addr) (n3 c3 : Nat) (zs : List ByteArray) (k : Int) (_hk : k ≤ 9223372036854775807) (w : World) (hst : -9223372036854775808 ≤ st ∧ st ≤ 9223372036854775807) (h : Hds w A n0 c l0) (hb0 : bytesIn l0 ≤ 1048576) (_hs : s.size < 4294967281) (_hx : m.size < 4294967281) (hS : Strs w A3 n3 c3 zs) (_hz : ∀ z ∈ zs, z.size ≤ 1048576) (hm : Lim w) :
    Calls Tryz.prog 4 #[.agg #[.int .i64 st, .slice A n0 c, .string bd], .string s, .string m, .slice A3 n3 c3, .int .i64 k] w (Yes w) := by
  have h30 := Lib.hid h.few
  have hbl : bytesIn (l0.take 30) ≤ 1048576 := Nat.le_trans (bytesIn_take _ _) hb0
  have hfew := Lib.hid (fun W (hb : Below w.heap.size w W) => (few14_any A n0 c l0 W (h.later hb)).mono fun e w' q => show e = .returned (.slice A (min n0 30) c) ∧ W = w' from And.intro q.1 q.2.symm)
  have hn30 : min n0 30 ≤ 30 := Nat.min_le_right _ _
  clear h hb0
  generalize l0.take 30 = l at h30 hbl
  generalize min n0 30 = n at h30 hfew hn30
  have hLim := Lib.hid hm
  have hRead := Lib.hid (fun W (hb : Below w.heap.size w W) => read_any A n c l bd s st k W (h30.out.later hb) (by omega) (short_in hbl (by simp only [maxLen]; omega)) (by omega) (hLim.out.later hb))
  have hRef := Lib.hid (fun W (hb : Below w.heap.size w W) => refRead_any A n c l bd s st k W (h30.out.later hb) (short_in hbl (by omega)) (by omega) hst)
  clear hbl hm hst
  generalize readOk st l s k = ok at hRead hRef
  generalize mOf ok l = ms at hRead hRef
  generalize hOf ok l = hs at hRead hRef
  generalize aOf ok l = ag at hRead hRef
  have hc3 : c3 ≤ 9223372036854775807 := by have := hS.room; unfold maxLen at this; exact this
  have hcap := hS.cap
  by_cases h12 : 12 < n3
  · have hS6 := Lib.hid (hS.front (k := 12) (by omega))
    have hA3 : ∃ b3 off3, A3 = some ⟨b3, off3, Option.none⟩ := by obtain ⟨b3, off3, e, _⟩ := hS.cell (by omega); exact ⟨b3, off3, e⟩
    obtain ⟨b3, off3, rfl⟩ := hA3
    clear hS
    generalize zs.take 12 = ns at hS6
    obtain ⟨n6, hn6⟩ : ∃ n6 : Nat, n6 = 12 := ⟨_, rfl⟩
    rw [← hn6] at hS6
    have hn6' := Lib.hid hn6
    clear hn6
    go_enter Tryz.func4, Tryz.ntmps4
    go_wp2_with (first
      | (go_at_call 8; (with_reducible refine (hfew.out _ (below_box w _)).mono ?_); rintro e wf ⟨rfl, hw⟩; subst hw)
      | (go_at_call 13; (with_reducible refine (hRead.out _ (below_box w _)).mono ?_); rintro e w2 ⟨v2, rfl, ⟨A1, n1, c1, B1, m1, d1, rfl, tM1, tH1, sM1, sH1⟩, hb2⟩
         have bx2 := box_three w (.int .i64 st) (.slice A n c) (.string bd) 30
         have hba := Lib.hid (below_then hb2 (below_box w2 (.cells #[.slice A1 n1 c1, .slice B1 m1 d1, .int .i64 (ag : Int)] 33)))
         have ba := Lib.hid (box_three w2 (.slice A1 n1 c1) (.slice B1 m1 d1) (.int .i64 (ag : Int)) 33)
         have TM1 := Lib.hid (tM1.later (below_box w2 (.cells #[.slice A1 n1 c1, .slice B1 m1 d1, .int .i64 (ag : Int)] 33)))
         have TH1 := Lib.hid (tH1.later (below_box w2 (.cells #[.slice A1 n1 c1, .slice B1 m1 d1, .int .i64 (ag : Int)] 33)))
         have SM1 := Lib.hid (sM1.later (below_box w2 (.cells #[.slice A1 n1 c1, .slice B1 m1 d1, .int .i64 (ag : Int)] 33)))
         have SH1 := Lib.hid (sH1.later (below_box w2 (.cells #[.slice A1 n1 c1, .slice B1 m1 d1, .int .i64 (ag : Int)] 33)))
         have Bwa := Lib.hid (below_then (below_box w (.cells #[.int .i64 st, .slice A n c, .string bd] 30)) hba.out)
         have x0 := cell_later hba.out bx2.1
         have x1 := cell_later hba.out bx2.2.1
         have x2 := cell_later hba.out bx2.2.2
         clear tM1 tH1 sM1 sH1 bx2 hb2)
      | (go_at_call 14; (with_reducible refine (hRef.out _ Bwa.out).mono ?_); rintro e w3 ⟨v3, rfl, ⟨A2, n2, c2, B2, m2, d2, rfl, tM2, tH2, sM2, sH2⟩, hb3⟩
         have hbb := Lib.hid (below_then hb3 (below_box w3 (.cells #[.slice A2 n2 c2, .slice B2 m2 d2, .int .i64 (ag : Int)] 36)))
         have bb := Lib.hid (box_three w3 (.slice A2 n2 c2) (.slice B2 m2 d2) (.int .i64 (ag : Int)) 36)
         have TM2 := Lib.hid (tM2.later (below_box w3 (.cells #[.slice A2 n2 c2, .slice B2 m2 d2, .int .i64 (ag : Int)] 36)))
         have TH2 := Lib.hid (tH2.later (below_box w3 (.cells #[.slice A2 n2 c2, .slice B2 m2 d2, .int .i64 (ag : Int)] 36)))
         have SM2 := Lib.hid (sM2.later (below_box w3 (.cells #[.slice A2 n2 c2, .slice B2 m2 d2, .int .i64 (ag : Int)] 36)))
         have SH2 := Lib.hid (sH2.later (below_box w3 (.cells #[.slice A2 n2 c2, .slice B2 m2 d2, .int .i64 (ag : Int)] 36)))
         clear tM2 tH2 sM2 sH2 hb3))
    have B4 := Lib.hid (below_then Bwa.out hbb.out)
    have ca0 := Lib.hid (cell_later hbb.out ba.out.1)
    have ca1 := Lib.hid (cell_later hbb.out ba.out.2.1)
    have ca2 := Lib.hid (cell_later hbb.out ba.out.2.2)
    have cb0 := Lib.hid bb.out.1
    have cb1 := Lib.hid bb.out.2.1
    have cb2 := Lib.hid bb.out.2.2
    have TM1' := Lib.hid (TM1.out.later hbb.out)
    have TH1' := Lib.hid (TH1.out.later hbb.out)
    have SM1' := Lib.hid (SM1.out.later hbb.out)
    have SH1' := Lib.hid (SH1.out.later hbb.out)
    clear x0 x1 x2 hba hbb ba bb TM1 TH1 SM1 SH1 Bwa hRead hRef hfew
    generalize w3.alloc (.cells #[.slice A2 n2 c2, .slice B2 m2 d2, .int .i64 (ag : Int)] 36) = w4 at B4 ca0 ca1 ca2 cb0 cb1 cb2 TM1' TH1' SM1' SH1' TM2 TH2 SM2 SH2 ⊢
    generalize w2.heap.size = ga at ca0 ca1 ca2 ⊢
    generalize w3.heap.size = gb at cb0 cb1 cb2 ⊢
    have S6 := Lib.hid (hS6.out.later B4.out)
    have hLim4 := Lib.hid (hLim.out.later B4.out)
    have hSM := Lib.hid (fun W (hb : Below w4.heap.size w4 W) => show Calls Tryz.prog 15 #[.slice A1 n1 c1, .slice A2 n2 c2] W fun e w' => e = .returned (.bool true) ∧ Below W.heap.size W w' from by
      have h1 := same_any A1 A2 n1 n2 c1 c2 ms ms W (TM1'.out.later hb) (TM2.out.later hb) (strs_n SM1'.out) (strs_n SM2.out)
      rw [decide_eq_true rfl] at h1
      exact h1)
    have hSH := Lib.hid (fun W (hb : Below w4.heap.size w4 W) => show Calls Tryz.prog 15 #[.slice B1 m1 d1, .slice B2 m2 d2] W fun e w' => e = .returned (.bool true) ∧ Below W.heap.size W w' from by
      have h1 := same_any B1 B2 m1 m2 d1 d2 hs hs W (TH1'.out.later hb) (TH2.out.later hb) (strs_n SH1'.out) (strs_n SH2.out)
      rw [decide_eq_true rfl] at h1
      exact h1)
    have hLA := Lib.hid (fun W (hb : Below w4.heap.size w4 W) => lets_any A1 B1 _ n1 c1 m1 d1 _ c3 (ag : Int) _ _ ns m k W (SM1'.out.later hb) (SH1'.out.later hb) (S6.out.later hb))
    have hLB := Lib.hid (fun W (hb : Below w4.heap.size w4 W) => refLets_any A2 B2 _ n2 c2 m2 d2 _ c3 (ag : Int) _ _ ns m k W (SM2.out.later hb) (SH2.out.later hb) (S6.out.later hb))
    generalize lets (ms.map mk) (hs.map mk) m ns k = lb at hLA hLB
    clear TM1' TH1' SM1' SH1' TM2 TH2 SM2 SH2
    have h8 : Hid (Value.slice (some ⟨b3, off3, Option.none⟩) 12 c3 = .slice (some ⟨b3, off3, Option.none⟩) n6 c3) := Lib.hid (by rw [hn6'.out])
    refine wp_region_each (RInv 80 [40, 41, 42, 43, 44, 45, 46, 47, 48, 49, 50, 51, 52, 53, 54, 55, 56, 57, 58, 59, 60, 61, 62, 63, 64, 65, 66, 67, 68, 69, 70, 71, 72, 73, 74, 75, 76, 77, 78, 79, 10] _ (rdF ok lb ga gb A1 B1 A2 B2 (some ⟨b3, off3, Option.none⟩) n1 c1 m1 d1 n2 c2 m2 d2 n6 c3 (ag : Int) m k) w4 NoMore) (by kernel_rfl) (by kernel_rfl) (RInv.start rfl trivial (Below.refl _ _).drew) ?_ ?_
    · intro i hi D a wx hI hcl hnd hpre
      have hi' : i < 41 := hi
      have hcase : i = 0 ∨ i = 1 ∨ i = 2 ∨ i = 3 ∨ i = 4 ∨ i = 5 ∨ i = 6 ∨ i = 7 ∨ i = 8 ∨ i = 9 ∨ i = 10 ∨ i = 11 ∨ i = 12 ∨ i = 13 ∨ i = 14 ∨ i = 15 ∨ i = 16 ∨ i = 17 ∨ i = 18 ∨ i = 19 ∨ i = 20 ∨ i = 21 ∨ i = 22 ∨ i = 23 ∨ i = 24 ∨ i = 25 ∨ i = 26 ∨ i = 27 ∨ i = 28 ∨ i = 29 ∨ i = 30 ∨ i = 31 ∨ i = 32 ∨ i = 33 ∨ i = 34 ∨ i = 35 ∨ i = 36 ∨ i = 37 ∨ i = 38 ∨ i = 39 ∨ i = 40 := by omega
      have hF := hI.fact
      rcases hcase with rfl | rfl | rfl | rfl | rfl | rfl | rfl | rfl | rfl | rfl | rfl | rfl | rfl | rfl | rfl | rfl | rfl | rfl | rfl | rfl | rfl | rfl | rfl | rfl | rfl | rfl | rfl | rfl | rfl | rfl | rfl | rfl | rfl | rfl | rfl | rfl | rfl | rfl | rfl | rfl | rfl
      · exact wpOp_call0 rfl (wanted_free rfl) 6 _ rfl (enters_awake14 _ _) (awake14_any wx (hLim4.out.later hI.below)) (fun e w' h => ⟨_, h.1, hI.add (by decide) rdF_later (by decide) h.2 rfl⟩)
      · exact wpOp_move rfl (wanted_free rfl) _ rfl _ (hF 0 (hpre 0 (by kernel_rfl))) (hI.add (by decide) rdF_later (by decide) (Below.refl _ _) rfl)
      · have g1 := hF 1 (hpre 1 (by kernel_rfl))
        exact wpOp_move rfl (wanted_by (d := 41) rfl _ rfl rfl g1) _ rfl _ (hI.same 13 (by decide)) (hI.add (by decide) rdF_later (by decide) (Below.refl _ _) rfl)
      · have g1 := hF 1 (hpre 1 (by kernel_rfl))
        exact wpOp_move rfl (wanted_by (d := 41) rfl _ rfl rfl g1) _ rfl _ (hI.same 15 (by decide)) (hI.add (by decide) rdF_later (by decide) (Below.refl _ _) rfl)
      · have g1 := hF 1 (hpre 1 (by kernel_rfl))
        exact wpOp_bin rfl (wanted_by (d := 41) rfl _ rfl rfl g1) _ _ _ _ _ rfl _ _ _ (hF 2 (hpre 2 (by kernel_rfl))) (hF 3 (hpre 3 (by kernel_rfl))) (run_eqB _ _ _ wx) (hI.add (by decide) rdF_later (by decide) (Below.refl _ _) rfl)
      · exact wpOp_pick rfl (wanted_free rfl) _ _ _ rfl true (hF 1 (hpre 1 (by kernel_rfl))) _ (hF 4 (hpre 4 (by kernel_rfl))) (hI.add (by decide) rdF_later (by decide) (Below.refl _ _) rfl)
      · exact wpOp_move rfl (wanted_free rfl) _ rfl _ (hF 5 (hpre 5 (by kernel_rfl))) (hI.add (by decide) rdF_later (by decide) (Below.refl _ _) rfl)
      · have g6 := hF 6 (hpre 6 (by kernel_rfl))
        exact wpOp_field rfl (wanted_by (d := 46) rfl _ rfl rfl g6) _ _ _ rfl _ _ (hI.same 12 (by decide)) (run_fA0 wx ga) (hI.add (by decide) rdF_later (by decide) (Below.refl _ _) rfl)
      · have g6 := hF 6 (hpre 6 (by kernel_rfl))
        exact wpOp_load rfl (wanted_by (d := 46) rfl _ rfl rfl g6) _ _ rfl _ _ (hF 7 (hpre 7 (by kernel_rfl))) (run_lS wx ga 0 A1 n1 c1 (cell_later hI.below ca0.out)) (hI.add (by decide) rdF_later (by decide) (Below.refl _ _) rfl)
      · have g6 := hF 6 (hpre 6 (by kernel_rfl))
        exact wpOp_field rfl (wanted_by (d := 46) rfl _ rfl rfl g6) _ _ _ rfl _ _ (hI.same 14 (by decide)) (run_fB0 wx gb) (hI.add (by decide) rdF_later (by decide) (Below.refl _ _) rfl)
      · have g6 := hF 6 (hpre 6 (by kernel_rfl))
        exact wpOp_load rfl (wanted_by (d := 46) rfl _ rfl rfl g6) _ _ rfl _ _ (hF 9 (hpre 9 (by kernel_rfl))) (run_lS wx gb 0 A2 n2 c2 (cell_later hI.below cb0.out)) (hI.add (by decide) rdF_later (by decide) (Below.refl _ _) rfl)
      · have g6 := hF 6 (hpre 6 (by kernel_rfl))
        exact wpOp_call2 rfl (wanted_by (d := 46) rfl _ rfl rfl g6) 15 _ _ _ rfl _ _ (hF 8 (hpre 8 (by kernel_rfl))) (hF 10 (hpre 10 (by kernel_rfl))) (enters_same04 _ _) (hSM.out wx hI.below) (fun e w' h => ⟨_, h.1, hI.add (by decide) rdF_later (by decide) h.2 rfl⟩)
      · exact wpOp_pick rfl (wanted_free rfl) _ _ _ rfl true (hF 6 (hpre 6 (by kernel_rfl))) _ (hF 11 (hpre 11 (by kernel_rfl))) (hI.add (by decide) rdF_later (by decide) (Below.refl _ _) rfl)
      · exact wpOp_move rfl (wanted_free rfl) _ rfl _ (hF 12 (hpre 12 (by kernel_rfl))) (hI.add (by decide) rdF_later (by decide) (Below.refl _ _) rfl)
      · have g13 := hF 13 (hpre 13 (by kernel_rfl))
        exact wpOp_field rfl (wanted_by (d := 53) rfl _ rfl rfl g13) _ _ _ rfl _ _ (hI.same 12 (by decide)) (run_fA1 wx ga) (hI.add (by decide) rdF_later (by decide) (Below.refl _ _) rfl)
      · have g13 := hF 13 (hpre 13 (by kernel_rfl))
        exact wpOp_load rfl (wanted_by (d := 53) rfl _ rfl rfl g13) _ _ rfl _ _ (hF 14 (hpre 14 (by kernel_rfl))) (run_lS wx ga 1 B1 m1 d1 (cell_later hI.below ca1.out)) (hI.add (by decide) rdF_later (by decide) (Below.refl _ _) rfl)
      · have g13 := hF 13 (hpre 13 (by kernel_rfl))
        exact wpOp_field rfl (wanted_by (d := 53) rfl _ rfl rfl g13) _ _ _ rfl _ _ (hI.same 14 (by decide)) (run_fB1 wx gb) (hI.add (by decide) rdF_later (by decide) (Below.refl _ _) rfl)
      · have g13 := hF 13 (hpre 13 (by kernel_rfl))
        exact wpOp_load rfl (wanted_by (d := 53) rfl _ rfl rfl g13) _ _ rfl _ _ (hF 16 (hpre 16 (by kernel_rfl))) (run_lS wx gb 1 B2 m2 d2 (cell_later hI.below cb1.out)) (hI.add (by decide) rdF_later (by decide) (Below.refl _ _) rfl)
      · have g13 := hF 13 (hpre 13 (by kernel_rfl))
        exact wpOp_call2 rfl (wanted_by (d := 53) rfl _ rfl rfl g13) 15 _ _ _ rfl _ _ (hF 15 (hpre 15 (by kernel_rfl))) (hF 17 (hpre 17 (by kernel_rfl))) (enters_same04 _ _) (hSH.out wx hI.below) (fun e w' h => ⟨_, h.1, hI.add (by decide) rdF_later (by decide) h.2 rfl⟩)
      · exact wpOp_pick rfl (wanted_free rfl) _ _ _ rfl true (hF 13 (hpre 13 (by kernel_rfl))) _ (hF 18 (hpre 18 (by kernel_rfl))) (hI.add (by decide) rdF_later (by decide) (Below.refl _ _) rfl)
      · exact wpOp_move rfl (wanted_free rfl) _ rfl _ (hF 19 (hpre 19 (by kernel_rfl))) (hI.add (by decide) rdF_later (by decide) (Below.refl _ _) rfl)
      · have g20 := hF 20 (hpre 20 (by kernel_rfl))
        exact wpOp_field rfl (wanted_by (d := 60) rfl _ rfl rfl g20) _ _ _ rfl _ _ (hI.same 12 (by decide)) (run_fA2 wx ga) (hI.add (by decide) rdF_later (by decide) (Below.refl _ _) rfl)
      · have g20 := hF 20 (hpre 20 (by kernel_rfl))
        exact wpOp_load rfl (wanted_by (d := 60) rfl _ rfl rfl g20) _ _ rfl _ _ (hF 21 (hpre 21 (by kernel_rfl))) (run_lI wx ga 2 ag (cell_later hI.below ca2.out)) (hI.add (by decide) rdF_later (by decide) (Below.refl _ _) rfl)
      · have g20 := hF 20 (hpre 20 (by kernel_rfl))
        exact wpOp_field rfl (wanted_by (d := 60) rfl _ rfl rfl g20) _ _ _ rfl _ _ (hI.same 14 (by decide)) (run_fB2 wx gb) (hI.add (by decide) rdF_later (by decide) (Below.refl _ _) rfl)
      · have g20 := hF 20 (hpre 20 (by kernel_rfl))
        exact wpOp_load rfl (wanted_by (d := 60) rfl _ rfl rfl g20) _ _ rfl _ _ (hF 23 (hpre 23 (by kernel_rfl))) (run_lI wx gb 2 ag (cell_later hI.below cb2.out)) (hI.add (by decide) rdF_later (by decide) (Below.refl _ _) rfl)
      · have g20 := hF 20 (hpre 20 (by kernel_rfl))
        exact wpOp_bin rfl (wanted_by (d := 60) rfl _ rfl rfl g20) _ _ _ _ _ rfl _ _ _ (hF 22 (hpre 22 (by kernel_rfl))) (hF 24 (hpre 24 (by kernel_rfl))) (run_eqI _ _ _ wx) (hI.add (by decide) rdF_later (by decide) (Below.refl _ _) rfl)
      · exact wpOp_pick rfl (wanted_free rfl) _ _ _ rfl true (hF 20 (hpre 20 (by kernel_rfl))) _ (hF 25 (hpre 25 (by kernel_rfl))) (hI.add (by decide) rdF_later (by decide) (Below.refl _ _) rfl)
      · exact wpOp_move rfl (wanted_free rfl) _ rfl _ (hF 26 (hpre 26 (by kernel_rfl))) (hI.add (by decide) rdF_later (by decide) (Below.refl _ _) rfl)
      · have g27 := hF 27 (hpre 27 (by kernel_rfl))
        exact wpOp_load rfl (wanted_by (d := 67) rfl _ rfl rfl g27) _ _ rfl _ _ (hI.same 12 (by decide)) (run_lA wx ga _ _ _ (cell_later hI.below ca0.out) (cell_later hI.below ca1.out) (cell_later hI.below ca2.out)) (hI.add (by decide) rdF_later (by decide) (Below.refl _ _) rfl)
      · have g27 := hF 27 (hpre 27 (by kernel_rfl))
        exact wpOp_move rfl (wanted_by (d := 67) rfl _ rfl rfl g27) _ rfl _ (hI.same 2 (by decide)) (hI.add (by decide) rdF_later (by decide) (Below.refl _ _) rfl)
      · have g27 := hF 27 (hpre 27 (by kernel_rfl))
        exact wpOp_move rfl (wanted_by (d := 67) rfl _ rfl rfl g27) _ rfl _ ((hI.same 11 (by decide)).trans h8.out) (hI.add (by decide) rdF_later (by decide) (Below.refl _ _) rfl)
      · have g27 := hF 27 (hpre 27 (by kernel_rfl))
        exact wpOp_move rfl (wanted_by (d := 67) rfl _ rfl rfl g27) _ rfl _ (hI.same 4 (by decide)) (hI.add (by decide) rdF_later (by decide) (Below.refl _ _) rfl)
      · have g27 := hF 27 (hpre 27 (by kernel_rfl))
        exact wpOp_call4 rfl (wanted_by (d := 67) rfl _ rfl rfl g27) 16 _ _ _ _ _ rfl _ _ _ _ (hF 28 (hpre 28 (by kernel_rfl))) (hF 29 (hpre 29 (by kernel_rfl))) (hF 30 (hpre 30 (by kernel_rfl))) (hF 31 (hpre 31 (by kernel_rfl))) (enters_lets _ _) (hLA.out wx hI.below) (fun e w' h => ⟨_, h.1, hI.add (by decide) rdF_later (by decide) h.2 rfl⟩)
      · have g27 := hF 27 (hpre 27 (by kernel_rfl))
        exact wpOp_load rfl (wanted_by (d := 67) rfl _ rfl rfl g27) _ _ rfl _ _ (hI.same 14 (by decide)) (run_lB wx gb _ _ _ (cell_later hI.below cb0.out) (cell_later hI.below cb1.out) (cell_later hI.below cb2.out)) (hI.add (by decide) rdF_later (by decide) (Below.refl _ _) rfl)
      · have g27 := hF 27 (hpre 27 (by kernel_rfl))
        exact wpOp_move rfl (wanted_by (d := 67) rfl _ rfl rfl g27) _ rfl _ (hI.same 2 (by decide)) (hI.add (by decide) rdF_later (by decide) (Below.refl _ _) rfl)
      · have g27 := hF 27 (hpre 27 (by kernel_rfl))
        exact wpOp_move rfl (wanted_by (d := 67) rfl _ rfl rfl g27) _ rfl _ ((hI.same 11 (by decide)).trans h8.out) (hI.add (by decide) rdF_later (by decide) (Below.refl _ _) rfl)
      · have g27 := hF 27 (hpre 27 (by kernel_rfl))
        exact wpOp_move rfl (wanted_by (d := 67) rfl _ rfl rfl g27) _ rfl _ (hI.same 4 (by decide)) (hI.add (by decide) rdF_later (by decide) (Below.refl _ _) rfl)
      · have g27 := hF 27 (hpre 27 (by kernel_rfl))
        exact wpOp_call4 rfl (wanted_by (d := 67) rfl _ rfl rfl g27) 17 _ _ _ _ _ rfl _ _ _ _ (hF 33 (hpre 33 (by kernel_rfl))) (hF 34 (hpre 34 (by kernel_rfl))) (hF 35 (hpre 35 (by kernel_rfl))) (hF 36 (hpre 36 (by kernel_rfl))) (enters_rlets _ _) (hLB.out wx hI.below) (fun e w' h => ⟨_, h.1, hI.add (by decide) rdF_later (by decide) h.2 rfl⟩)
      · have g27 := hF 27 (hpre 27 (by kernel_rfl))
        exact wpOp_bin rfl (wanted_by (d := 67) rfl _ rfl rfl g27) _ _ _ _ _ rfl _ _ _ (hF 32 (hpre 32 (by kernel_rfl))) (hF 37 (hpre 37 (by kernel_rfl))) (run_eqB _ _ _ wx) (hI.add (by decide) rdF_later (by decide) (Below.refl _ _) rfl)
      · exact wpOp_pick rfl (wanted_free rfl) _ _ _ rfl true (hF 27 (hpre 27 (by kernel_rfl))) _ (hF 38 (hpre 38 (by kernel_rfl))) (hI.add (by decide) rdF_later (by decide) (Below.refl _ _) rfl)
      · exact wpOp_assign rfl (wanted_free rfl) _ rfl _ (hF 39 (hpre 39 (by kernel_rfl))) (hI.add (by decide) rdF_later (by decide) (Below.refl _ _) rfl)
    · intro D a wx hI hall
      have fz : a.eval (.tmp 10) = .bool true := hI.fact 40 (hall 40 (by decide))
      have hd := hI.defs
      have hB := hI.below
      clear hall
      go_wp2
      refine bodyPost_ret (results_tmp rfl a.tmps _ _) hd ⟨?_, below_then B4.out hB⟩
      show Ending.returned (a.eval (.tmp 10)) = _
      rw [fz]
  · have hS6 := Lib.hid hS
    clear hS
    generalize zs = ns at hS6
    go_enter Tryz.func4, Tryz.ntmps4
    go_wp2_with (first
      | (go_at_call 8; (with_reducible refine (hfew.out _ (below_box w _)).mono ?_); rintro e wf ⟨rfl, hw⟩; subst hw)
      | (go_at_call 13; (with_reducible refine (hRead.out _ (below_box w _)).mono ?_); rintro e w2 ⟨v2, rfl, ⟨A1, n1, c1, B1, m1, d1, rfl, tM1, tH1, sM1, sH1⟩, hb2⟩
         have bx2 := box_three w (.int .i64 st) (.slice A n c) (.string bd) 30
         have hba := Lib.hid (below_then hb2 (below_box w2 (.cells #[.slice A1 n1 c1, .slice B1 m1 d1, .int .i64 (ag : Int)] 33)))
         have ba := Lib.hid (box_three w2 (.slice A1 n1 c1) (.slice B1 m1 d1) (.int .i64 (ag : Int)) 33)
         have TM1 := Lib.hid (tM1.later (below_box w2 (.cells #[.slice A1 n1 c1, .slice B1 m1 d1, .int .i64 (ag : Int)] 33)))
         have TH1 := Lib.hid (tH1.later (below_box w2 (.cells #[.slice A1 n1 c1, .slice B1 m1 d1, .int .i64 (ag : Int)] 33)))
         have SM1 := Lib.hid (sM1.later (below_box w2 (.cells #[.slice A1 n1 c1, .slice B1 m1 d1, .int .i64 (ag : Int)] 33)))
         have SH1 := Lib.hid (sH1.later (below_box w2 (.cells #[.slice A1 n1 c1, .slice B1 m1 d1, .int .i64 (ag : Int)] 33)))
         have Bwa := Lib.hid (below_then (below_box w (.cells #[.int .i64 st, .slice A n c, .string bd] 30)) hba.out)
         have x0 := cell_later hba.out bx2.1
         have x1 := cell_later hba.out bx2.2.1
         have x2 := cell_later hba.out bx2.2.2
         clear tM1 tH1 sM1 sH1 bx2 hb2)
      | (go_at_call 14; (with_reducible refine (hRef.out _ Bwa.out).mono ?_); rintro e w3 ⟨v3, rfl, ⟨A2, n2, c2, B2, m2, d2, rfl, tM2, tH2, sM2, sH2⟩, hb3⟩
         have hbb := Lib.hid (below_then hb3 (below_box w3 (.cells #[.slice A2 n2 c2, .slice B2 m2 d2, .int .i64 (ag : Int)] 36)))
         have bb := Lib.hid (box_three w3 (.slice A2 n2 c2) (.slice B2 m2 d2) (.int .i64 (ag : Int)) 36)
         have TM2 := Lib.hid (tM2.later (below_box w3 (.cells #[.slice A2 n2 c2, .slice B2 m2 d2, .int .i64 (ag : Int)] 36)))
         have TH2 := Lib.hid (tH2.later (below_box w3 (.cells #[.slice A2 n2 c2, .slice B2 m2 d2, .int .i64 (ag : Int)] 36)))
         have SM2 := Lib.hid (sM2.later (below_box w3 (.cells #[.slice A2 n2 c2, .slice B2 m2 d2, .int .i64 (ag : Int)] 36)))
         have SH2 := Lib.hid (sH2.later (below_box w3 (.cells #[.slice A2 n2 c2, .slice B2 m2 d2, .int .i64 (ag : Int)] 36)))
         clear tM2 tH2 sM2 sH2 hb3))
    have B4 := Lib.hid (below_then Bwa.out hbb.out)
    have ca0 := Lib.hid (cell_later hbb.out ba.out.1)
    have ca1 := Lib.hid (cell_later hbb.out ba.out.2.1)
    have ca2 := Lib.hid (cell_later hbb.out ba.out.2.2)
    have cb0 := Lib.hid bb.out.1
    have cb1 := Lib.hid bb.out.2.1
    have cb2 := Lib.hid bb.out.2.2
    have TM1' := Lib.hid (TM1.out.later hbb.out)
    have TH1' := Lib.hid (TH1.out.later hbb.out)
    have SM1' := Lib.hid (SM1.out.later hbb.out)
    have SH1' := Lib.hid (SH1.out.later hbb.out)
    clear x0 x1 x2 hba hbb ba bb TM1 TH1 SM1 SH1 Bwa hRead hRef hfew
    generalize w3.alloc (.cells #[.slice A2 n2 c2, .slice B2 m2 d2, .int .i64 (ag : Int)] 36) = w4 at B4 ca0 ca1 ca2 cb0 cb1 cb2 TM1' TH1' SM1' SH1' TM2 TH2 SM2 SH2 ⊢
    generalize w2.heap.size = ga at ca0 ca1 ca2 ⊢
    generalize w3.heap.size = gb at cb0 cb1 cb2 ⊢
    have S6 := Lib.hid (hS6.out.later B4.out)
    have hLim4 := Lib.hid (hLim.out.later B4.out)
    have hSM := Lib.hid (fun W (hb : Below w4.heap.size w4 W) => show Calls Tryz.prog 15 #[.slice A1 n1 c1, .slice A2 n2 c2] W fun e w' => e = .returned (.bool true) ∧ Below W.heap.size W w' from by
      have h1 := same_any A1 A2 n1 n2 c1 c2 ms ms W (TM1'.out.later hb) (TM2.out.later hb) (strs_n SM1'.out) (strs_n SM2.out)
      rw [decide_eq_true rfl] at h1
      exact h1)
    have hSH := Lib.hid (fun W (hb : Below w4.heap.size w4 W) => show Calls Tryz.prog 15 #[.slice B1 m1 d1, .slice B2 m2 d2] W fun e w' => e = .returned (.bool true) ∧ Below W.heap.size W w' from by
      have h1 := same_any B1 B2 m1 m2 d1 d2 hs hs W (TH1'.out.later hb) (TH2.out.later hb) (strs_n SH1'.out) (strs_n SH2.out)
      rw [decide_eq_true rfl] at h1
      exact h1)
    have hLA := Lib.hid (fun W (hb : Below w4.heap.size w4 W) => lets_any A1 B1 _ n1 c1 m1 d1 _ c3 (ag : Int) _ _ ns m k W (SM1'.out.later hb) (SH1'.out.later hb) (S6.out.later hb))
    have hLB := Lib.hid (fun W (hb : Below w4.heap.size w4 W) => refLets_any A2 B2 _ n2 c2 m2 d2 _ c3 (ag : Int) _ _ ns m k W (SM2.out.later hb) (SH2.out.later hb) (S6.out.later hb))
    generalize lets (ms.map mk) (hs.map mk) m ns k = lb at hLA hLB
    clear TM1' TH1' SM1' SH1' TM2 TH2 SM2 SH2
    have h8 : Hid (Value.slice A3 n3 c3 = .slice A3 n3 c3) := Lib.hid rfl
    refine wp_region_each (RInv 80 [40, 41, 42, 43, 44, 45, 46, 47, 48, 49, 50, 51, 52, 53, 54, 55, 56, 57, 58, 59, 60, 61, 62, 63, 64, 65, 66, 67, 68, 69, 70, 71, 72, 73, 74, 75, 76, 77, 78, 79, 10] _ (rdF ok lb ga gb A1 B1 A2 B2 A3 n1 c1 m1 d1 n2 c2 m2 d2 n3 c3 (ag : Int) m k) w4 NoMore) (by kernel_rfl) (by kernel_rfl) (RInv.start rfl trivial (Below.refl _ _).drew) ?_ ?_
    · intro i hi D a wx hI hcl hnd hpre
      have hi' : i < 41 := hi
      have hcase : i = 0 ∨ i = 1 ∨ i = 2 ∨ i = 3 ∨ i = 4 ∨ i = 5 ∨ i = 6 ∨ i = 7 ∨ i = 8 ∨ i = 9 ∨ i = 10 ∨ i = 11 ∨ i = 12 ∨ i = 13 ∨ i = 14 ∨ i = 15 ∨ i = 16 ∨ i = 17 ∨ i = 18 ∨ i = 19 ∨ i = 20 ∨ i = 21 ∨ i = 22 ∨ i = 23 ∨ i = 24 ∨ i = 25 ∨ i = 26 ∨ i = 27 ∨ i = 28 ∨ i = 29 ∨ i = 30 ∨ i = 31 ∨ i = 32 ∨ i = 33 ∨ i = 34 ∨ i = 35 ∨ i = 36 ∨ i = 37 ∨ i = 38 ∨ i = 39 ∨ i = 40 := by omega
      have hF := hI.fact
      rcases hcase with rfl | rfl | rfl | rfl | rfl | rfl | rfl | rfl | rfl | rfl | rfl | rfl | rfl | rfl | rfl | rfl | rfl | rfl | rfl | rfl | rfl | rfl | rfl | rfl | rfl | rfl | rfl | rfl | rfl | rfl | rfl | rfl | rfl | rfl | rfl | rfl | rfl | rfl | rfl | rfl | rfl
      · exact wpOp_call0 rfl (wanted_free rfl) 6 _ rfl (enters_awake14 _ _) (awake14_any wx (hLim4.out.later hI.below)) (fun e w' h => ⟨_, h.1, hI.add (by decide) rdF_later (by decide) h.2 rfl⟩)
      · exact wpOp_move rfl (wanted_free rfl) _ rfl _ (hF 0 (hpre 0 (by kernel_rfl))) (hI.add (by decide) rdF_later (by decide) (Below.refl _ _) rfl)
      · have g1 := hF 1 (hpre 1 (by kernel_rfl))
        exact wpOp_move rfl (wanted_by (d := 41) rfl _ rfl rfl g1) _ rfl _ (hI.same 13 (by decide)) (hI.add (by decide) rdF_later (by decide) (Below.refl _ _) rfl)
      · have g1 := hF 1 (hpre 1 (by kernel_rfl))
        exact wpOp_move rfl (wanted_by (d := 41) rfl _ rfl rfl g1) _ rfl _ (hI.same 15 (by decide)) (hI.add (by decide) rdF_later (by decide) (Below.refl _ _) rfl)
      · have g1 := hF 1 (hpre 1 (by kernel_rfl))
        exact wpOp_bin rfl (wanted_by (d := 41) rfl _ rfl rfl g1) _ _ _ _ _ rfl _ _ _ (hF 2 (hpre 2 (by kernel_rfl))) (hF 3 (hpre 3 (by kernel_rfl))) (run_eqB _ _ _ wx) (hI.add (by decide) rdF_later (by decide) (Below.refl _ _) rfl)
      · exact wpOp_pick rfl (wanted_free rfl) _ _ _ rfl true (hF 1 (hpre 1 (by kernel_rfl))) _ (hF 4 (hpre 4 (by kernel_rfl))) (hI.add (by decide) rdF_later (by decide) (Below.refl _ _) rfl)
      · exact wpOp_move rfl (wanted_free rfl) _ rfl _ (hF 5 (hpre 5 (by kernel_rfl))) (hI.add (by decide) rdF_later (by decide) (Below.refl _ _) rfl)
      · have g6 := hF 6 (hpre 6 (by kernel_rfl))
        exact wpOp_field rfl (wanted_by (d := 46) rfl _ rfl rfl g6) _ _ _ rfl _ _ (hI.same 12 (by decide)) (run_fA0 wx ga) (hI.add (by decide) rdF_later (by decide) (Below.refl _ _) rfl)
      · have g6 := hF 6 (hpre 6 (by kernel_rfl))
        exact wpOp_load rfl (wanted_by (d := 46) rfl _ rfl rfl g6) _ _ rfl _ _ (hF 7 (hpre 7 (by kernel_rfl))) (run_lS wx ga 0 A1 n1 c1 (cell_later hI.below ca0.out)) (hI.add (by decide) rdF_later (by decide) (Below.refl _ _) rfl)
      · have g6 := hF 6 (hpre 6 (by kernel_rfl))
        exact wpOp_field rfl (wanted_by (d := 46) rfl _ rfl rfl g6) _ _ _ rfl _ _ (hI.same 14 (by decide)) (run_fB0 wx gb) (hI.add (by decide) rdF_later (by decide) (Below.refl _ _) rfl)
      · have g6 := hF 6 (hpre 6 (by kernel_rfl))
        exact wpOp_load rfl (wanted_by (d := 46) rfl _ rfl rfl g6) _ _ rfl _ _ (hF 9 (hpre 9 (by kernel_rfl))) (run_lS wx gb 0 A2 n2 c2 (cell_later hI.below cb0.out)) (hI.add (by decide) rdF_later (by decide) (Below.refl _ _) rfl)
      · have g6 := hF 6 (hpre 6 (by kernel_rfl))
        exact wpOp_call2 rfl (wanted_by (d := 46) rfl _ rfl rfl g6) 15 _ _ _ rfl _ _ (hF 8 (hpre 8 (by kernel_rfl))) (hF 10 (hpre 10 (by kernel_rfl))) (enters_same04 _ _) (hSM.out wx hI.below) (fun e w' h => ⟨_, h.1, hI.add (by decide) rdF_later (by decide) h.2 rfl⟩)
      · exact wpOp_pick rfl (wanted_free rfl) _ _ _ rfl true (hF 6 (hpre 6 (by kernel_rfl))) _ (hF 11 (hpre 11 (by kernel_rfl))) (hI.add (by decide) rdF_later (by decide) (Below.refl _ _) rfl)
      · exact wpOp_move rfl (wanted_free rfl) _ rfl _ (hF 12 (hpre 12 (by kernel_rfl))) (hI.add (by decide) rdF_later (by decide) (Below.refl _ _) rfl)
      · have g13 := hF 13 (hpre 13 (by kernel_rfl))
        exact wpOp_field rfl (wanted_by (d := 53) rfl _ rfl rfl g13) _ _ _ rfl _ _ (hI.same 12 (by decide)) (run_fA1 wx ga) (hI.add (by decide) rdF_later (by decide) (Below.refl _ _) rfl)
      · have g13 := hF 13 (hpre 13 (by kernel_rfl))
        exact wpOp_load rfl (wanted_by (d := 53) rfl _ rfl rfl g13) _ _ rfl _ _ (hF 14 (hpre 14 (by kernel_rfl))) (run_lS wx ga 1 B1 m1 d1 (cell_later hI.below ca1.out)) (hI.add (by decide) rdF_later (by decide) (Below.refl _ _) rfl)
      · have g13 := hF 13 (hpre 13 (by kernel_rfl))
        exact wpOp_field rfl (wanted_by (d := 53) rfl _ rfl rfl g13) _ _ _ rfl _ _ (hI.same 14 (by decide)) (run_fB1 wx gb) (hI.add (by decide) rdF_later (by decide) (Below.refl _ _) rfl)
      · have g13 := hF 13 (hpre 13 (by kernel_rfl))
        exact wpOp_load rfl (wanted_by (d := 53) rfl _ rfl rfl g13) _ _ rfl _ _ (hF 16 (hpre 16 (by kernel_rfl))) (run_lS wx gb 1 B2 m2 d2 (cell_later hI.below cb1.out)) (hI.add (by decide) rdF_later (by decide) (Below.refl _ _) rfl)
      · have g13 := hF 13 (hpre 13 (by kernel_rfl))
        exact wpOp_call2 rfl (wanted_by (d := 53) rfl _ rfl rfl g13) 15 _ _ _ rfl _ _ (hF 15 (hpre 15 (by kernel_rfl))) (hF 17 (hpre 17 (by kernel_rfl))) (enters_same04 _ _) (hSH.out wx hI.below) (fun e w' h => ⟨_, h.1, hI.add (by decide) rdF_later (by decide) h.2 rfl⟩)
      · exact wpOp_pick rfl (wanted_free rfl) _ _ _ rfl true (hF 13 (hpre 13 (by kernel_rfl))) _ (hF 18 (hpre 18 (by kernel_rfl))) (hI.add (by decide) rdF_later (by decide) (Below.refl _ _) rfl)
      · exact wpOp_move rfl (wanted_free rfl) _ rfl _ (hF 19 (hpre 19 (by kernel_rfl))) (hI.add (by decide) rdF_later (by decide) (Below.refl _ _) rfl)
      · have g20 := hF 20 (hpre 20 (by kernel_rfl))
        exact wpOp_field rfl (wanted_by (d := 60) rfl _ rfl rfl g20) _ _ _ rfl _ _ (hI.same 12 (by decide)) (run_fA2 wx ga) (hI.add (by decide) rdF_later (by decide) (Below.refl _ _) rfl)
      · have g20 := hF 20 (hpre 20 (by kernel_rfl))
        exact wpOp_load rfl (wanted_by (d := 60) rfl _ rfl rfl g20) _ _ rfl _ _ (hF 21 (hpre 21 (by kernel_rfl))) (run_lI wx ga 2 ag (cell_later hI.below ca2.out)) (hI.add (by decide) rdF_later (by decide) (Below.refl _ _) rfl)
      · have g20 := hF 20 (hpre 20 (by kernel_rfl))
        exact wpOp_field rfl (wanted_by (d := 60) rfl _ rfl rfl g20) _ _ _ rfl _ _ (hI.same 14 (by decide)) (run_fB2 wx gb) (hI.add (by decide) rdF_later (by decide) (Below.refl _ _) rfl)
      · have g20 := hF 20 (hpre 20 (by kernel_rfl))
        exact wpOp_load rfl (wanted_by (d := 60) rfl _ rfl rfl g20) _ _ rfl _ _ (hF 23 (hpre 23 (by kernel_rfl))) (run_lI wx gb 2 ag (cell_later hI.below cb2.out)) (hI.add (by decide) rdF_later (by decide) (Below.refl _ _) rfl)
      · have g20 := hF 20 (hpre 20 (by kernel_rfl))
        exact wpOp_bin rfl (wanted_by (d := 60) rfl _ rfl rfl g20) _ _ _ _ _ rfl _ _ _ (hF 22 (hpre 22 (by kernel_rfl))) (hF 24 (hpre 24 (by kernel_rfl))) (run_eqI _ _ _ wx) (hI.add (by decide) rdF_later (by decide) (Below.refl _ _) rfl)
      · exact wpOp_pick rfl (wanted_free rfl) _ _ _ rfl true (hF 20 (hpre 20 (by kernel_rfl))) _ (hF 25 (hpre 25 (by kernel_rfl))) (hI.add (by decide) rdF_later (by decide) (Below.refl _ _) rfl)
      · exact wpOp_move rfl (wanted_free rfl) _ rfl _ (hF 26 (hpre 26 (by kernel_rfl))) (hI.add (by decide) rdF_later (by decide) (Below.refl _ _) rfl)
      · have g27 := hF 27 (hpre 27 (by kernel_rfl))
        exact wpOp_load rfl (wanted_by (d := 67) rfl _ rfl rfl g27) _ _ rfl _ _ (hI.same 12 (by decide)) (run_lA wx ga _ _ _ (cell_later hI.below ca0.out) (cell_later hI.below ca1.out) (cell_later hI.below ca2.out)) (hI.add (by decide) rdF_later (by decide) (Below.refl _ _) rfl)
      · have g27 := hF 27 (hpre 27 (by kernel_rfl))
        exact wpOp_move rfl (wanted_by (d := 67) rfl _ rfl rfl g27) _ rfl _ (hI.same 2 (by decide)) (hI.add (by decide) rdF_later (by decide) (Below.refl _ _) rfl)
      · have g27 := hF 27 (hpre 27 (by kernel_rfl))
        exact wpOp_move rfl (wanted_by (d := 67) rfl _ rfl rfl g27) _ rfl _ ((hI.same 11 (by decide)).trans h8.out) (hI.add (by decide) rdF_later (by decide) (Below.refl _ _) rfl)
      · have g27 := hF 27 (hpre 27 (by kernel_rfl))
        exact wpOp_move rfl (wanted_by (d := 67) rfl _ rfl rfl g27) _ rfl _ (hI.same 4 (by decide)) (hI.add (by decide) rdF_later (by decide) (Below.refl _ _) rfl)
      · have g27 := hF 27 (hpre 27 (by kernel_rfl))
        exact wpOp_call4 rfl (wanted_by (d := 67) rfl _ rfl rfl g27) 16 _ _ _ _ _ rfl _ _ _ _ (hF 28 (hpre 28 (by kernel_rfl))) (hF 29 (hpre 29 (by kernel_rfl))) (hF 30 (hpre 30 (by kernel_rfl))) (hF 31 (hpre 31 (by kernel_rfl))) (enters_lets _ _) (hLA.out wx hI.below) (fun e w' h => ⟨_, h.1, hI.add (by decide) rdF_later (by decide) h.2 rfl⟩)
      · have g27 := hF 27 (hpre 27 (by kernel_rfl))
        exact wpOp_load rfl (wanted_by (d := 67) rfl _ rfl rfl g27) _ _ rfl _ _ (hI.same 14 (by decide)) (run_lB wx gb _ _ _ (cell_later hI.below cb0.out) (cell_later hI.below cb1.out) (cell_later hI.below cb2.out)) (hI.add (by decide) rdF_later (by decide) (Below.refl _ _) rfl)
      · have g27 := hF 27 (hpre 27 (by kernel_rfl))
        exact wpOp_move rfl (wanted_by (d := 67) rfl _ rfl rfl g27) _ rfl _ (hI.same 2 (by decide)) (hI.add (by decide) rdF_later (by decide) (Below.refl _ _) rfl)
      · have g27 := hF 27 (hpre 27 (by kernel_rfl))
        exact wpOp_move rfl (wanted_by (d := 67) rfl _ rfl rfl g27) _ rfl _ ((hI.same 11 (by decide)).trans h8.out) (hI.add (by decide) rdF_later (by decide) (Below.refl _ _) rfl)
      · have g27 := hF 27 (hpre 27 (by kernel_rfl))
        exact wpOp_move rfl (wanted_by (d := 67) rfl _ rfl rfl g27) _ rfl _ (hI.same 4 (by decide)) (hI.add (by decide) rdF_later (by decide) (Below.refl _ _) rfl)
      · have g27 := hF 27 (hpre 27 (by kernel_rfl))
        exact wpOp_call4 rfl (wanted_by (d := 67) rfl _ rfl rfl g27) 17 _ _ _ _ _ rfl _ _ _ _ (hF 33 (hpre 33 (by kernel_rfl))) (hF 34 (hpre 34 (by kernel_rfl))) (hF 35 (hpre 35 (by kernel_rfl))) (hF 36 (hpre 36 (by kernel_rfl))) (enters_rlets _ _) (hLB.out wx hI.below) (fun e w' h => ⟨_, h.1, hI.add (by decide) rdF_later (by decide) h.2 rfl⟩)
      · have g27 := hF 27 (hpre 27 (by kernel_rfl))
        exact wpOp_bin rfl (wanted_by (d := 67) rfl _ rfl rfl g27) _ _ _ _ _ rfl _ _ _ (hF 32 (hpre 32 (by kernel_rfl))) (hF 37 (hpre 37 (by kernel_rfl))) (run_eqB _ _ _ wx) (hI.add (by decide) rdF_later (by decide) (Below.refl _ _) rfl)
      · exact wpOp_pick rfl (wanted_free rfl) _ _ _ rfl true (hF 27 (hpre 27 (by kernel_rfl))) _ (hF 38 (hpre 38 (by kernel_rfl))) (hI.add (by decide) rdF_later (by decide) (Below.refl _ _) rfl)
      · exact wpOp_assign rfl (wanted_free rfl) _ rfl _ (hF 39 (hpre 39 (by kernel_rfl))) (hI.add (by decide) rdF_later (by decide) (Below.refl _ _) rfl)
    · intro D a wx hI hall
      have fz : a.eval (.tmp 10) = .bool true := hI.fact 40 (hall 40 (by decide))
      have hd := hI.defs
      have hB := hI.below
      clear hall
      go_wp2
      refine bodyPost_ret (results_tmp rfl a.tmps _ _) hd ⟨?_, below_then B4.out hB⟩
      show Ending.returned (a.eval (.tmp 10)) = _
      rw [fz]
end Go.Proofs.YtalnjlodldhfbaaGreatDoor
