/-
  The walk of the statement PreMore: for any response, origin, method, list of headers and mode of credentials it returns true, and nothing that was there is changed. Condition: the names' and values' bytes of the response, together with the number of its headers, are at most 1048576, and so are those of the list; the library's variable that strings.Split may read holds an int.
-/
import Derived.Test.YtalnjlodldhfbaaGreatDoorPreAwake
import Derived.Test.YtalnjlodldhfbaaGreatDoorLow
import Derived.Test.YtalnjlodldhfbaaGreatDoorPreOps
namespace Go.Proofs.YtalnjlodldhfbaaGreatDoor
open Go.RowKit Go.Lib Go.Shelf

theorem short_in {l : List Hd} {B B' : Nat} (h : bytesIn l ≤ B) (hB : B ≤ B') : Short B' l := fun x hx => by
  have := bytesIn_mem hx
  omega
theorem aOf_le (ok : Bool) (l : List Hd) : aOf ok l ≤ 86400 := by
  unfold aOf
  split
  · exact age_le l
  · omega

/-- What the slots of the statement with the three tests hold. -/
def pmA (A1 B1 An : Option Addr) (n1 c1 m1 d1 nn cn : Nat) (ag : Int) (m : ByteArray) (k : Int) (j : Nat) (v : Value) (_ : World) : Prop :=
  match j with
  | 0 => v = .agg #[.slice A1 n1 c1, .slice B1 m1 d1, .int .i64 ag]
  | 1 => v = .string m
  | 2 => v = .slice An nn cn
  | 3 => v = .bool true
  | 4 => v = .bool true
  | 5 => v = .agg #[.slice A1 n1 c1, .slice B1 m1 d1, .int .i64 ag]
  | 6 => v = .string m
  | 7 => v = .slice An nn cn
  | 8 => v = .bool true
  | 9 => v = .bool false
  | 10 => v = .bool false
  | 11 => v = .bool false
  | 12 => v = .agg #[.slice A1 n1 c1, .slice B1 m1 d1, .int .i64 ag]
  | 13 => v = .string m
  | 14 => v = .slice An nn cn
  | 15 => v = .int .i64 k
  | 16 => v = .bool true
  | 17 => v = .bool true
  | 18 => v = .agg #[.slice A1 n1 c1, .slice B1 m1 d1, .int .i64 ag]
  | 19 => v = .string m
  | 20 => v = .int .i64 k
  | 21 => v = .bool true
  | 22 => v = .bool false
  | 23 => v = .bool false
  | 24 => v = .slice An nn cn
  | 25 => v = .int .i64 (nn : Int)
  | 26 => v = .bool true
  | 27 => v = .bool true
  | 28 => v = .agg #[.slice A1 n1 c1, .slice B1 m1 d1, .int .i64 ag]
  | 29 => v = .string m
  | 30 => v = .slice An nn cn
  | 31 => v = .slice (if cn = 1 then An else An.map (·.add 1)) (nn - 1) (cn - 1)
  | 32 => v = .int .i64 k
  | 33 => v = .bool true
  | 34 => v = .bool false
  | 35 => v = .bool false
  | 36 => v = .bool false
  | 37 => v = .bool false
  | 38 => v = .bool false
  | _ => True
theorem pmA_later {A1 B1 An : Option Addr} {n1 c1 m1 d1 nn cn : Nat} {ag : Int} {m : ByteArray} {k : Int} : Outlives (pmA A1 B1 An n1 c1 m1 d1 nn cn ag m k) := by
  intro j v w w' h _
  unfold pmA at h ⊢
  split at h
  all_goals exact h
/-- What the slots of the statement with the three tests hold. -/
def pmB (A1 B1 An : Option Addr) (n1 c1 m1 d1 nn cn : Nat) (ag : Int) (m : ByteArray) (k : Int) (j : Nat) (v : Value) (_ : World) : Prop :=
  match j with
  | 0 => v = .agg #[.slice A1 n1 c1, .slice B1 m1 d1, .int .i64 ag]
  | 1 => v = .string m
  | 2 => v = .slice An nn cn
  | 3 => v = .bool true
  | 4 => v = .bool true
  | 5 => v = .agg #[.slice A1 n1 c1, .slice B1 m1 d1, .int .i64 ag]
  | 6 => v = .string m
  | 7 => v = .slice An nn cn
  | 8 => v = .bool true
  | 9 => v = .bool false
  | 10 => v = .bool false
  | 11 => v = .bool false
  | 12 => v = .agg #[.slice A1 n1 c1, .slice B1 m1 d1, .int .i64 ag]
  | 13 => v = .string m
  | 14 => v = .slice An nn cn
  | 15 => v = .int .i64 k
  | 16 => v = .bool true
  | 17 => v = .bool true
  | 18 => v = .agg #[.slice A1 n1 c1, .slice B1 m1 d1, .int .i64 ag]
  | 19 => v = .string m
  | 20 => v = .int .i64 k
  | 21 => v = .bool true
  | 22 => v = .bool false
  | 23 => v = .bool false
  | 24 => v = .slice An nn cn
  | 25 => v = .int .i64 (nn : Int)
  | 26 => v = .bool false
  | 27 => v = .bool false
  | 28 => v = undef
  | 29 => v = undef
  | 30 => v = undef
  | 31 => v = undef
  | 32 => v = undef
  | 33 => v = undef
  | 34 => v = undef
  | 35 => v = .bool false
  | 36 => v = .bool false
  | 37 => v = .bool false
  | 38 => v = .bool false
  | _ => True
theorem pmB_later {A1 B1 An : Option Addr} {n1 c1 m1 d1 nn cn : Nat} {ag : Int} {m : ByteArray} {k : Int} : Outlives (pmB A1 B1 An n1 c1 m1 d1 nn cn ag m k) := by
  intro j v w w' h _
  unfold pmB at h ⊢
  split at h
  all_goals exact h
/-- What the slots of the statement with the three tests hold. -/
def pmC (A1 B1 An : Option Addr) (n1 c1 m1 d1 nn cn : Nat) (ag : Int) (m : ByteArray) (k : Int) (j : Nat) (v : Value) (_ : World) : Prop :=
  match j with
  | 0 => v = .agg #[.slice A1 n1 c1, .slice B1 m1 d1, .int .i64 ag]
  | 1 => v = .string m
  | 2 => v = .slice An nn cn
  | 3 => v = .bool true
  | 4 => v = .bool true
  | 5 => v = .agg #[.slice A1 n1 c1, .slice B1 m1 d1, .int .i64 ag]
  | 6 => v = .string m
  | 7 => v = .slice An nn cn
  | 8 => v = .bool true
  | 9 => v = .bool false
  | 10 => v = .bool false
  | 11 => v = .bool false
  | 12 => v = .agg #[.slice A1 n1 c1, .slice B1 m1 d1, .int .i64 ag]
  | 13 => v = .string m
  | 14 => v = .slice An nn cn
  | 15 => v = .int .i64 k
  | 16 => v = .bool false
  | 17 => v = .bool false
  | 18 => v = undef
  | 19 => v = undef
  | 20 => v = undef
  | 21 => v = undef
  | 22 => v = undef
  | 23 => v = undef
  | 24 => v = undef
  | 25 => v = undef
  | 26 => v = undef
  | 27 => v = undef
  | 28 => v = undef
  | 29 => v = undef
  | 30 => v = undef
  | 31 => v = undef
  | 32 => v = undef
  | 33 => v = undef
  | 34 => v = undef
  | 35 => v = undef
  | 36 => v = undef
  | 37 => v = .bool false
  | 38 => v = .bool false
  | _ => True
theorem pmC_later {A1 B1 An : Option Addr} {n1 c1 m1 d1 nn cn : Nat} {ag : Int} {m : ByteArray} {k : Int} : Outlives (pmC A1 B1 An n1 c1 m1 d1 nn cn ag m k) := by
  intro j v w w' h _
  unfold pmC at h ⊢
  split at h
  all_goals exact h
/-- What the slots of the statement with the three tests hold. -/
def pmD (A1 B1 An : Option Addr) (n1 c1 m1 d1 nn cn : Nat) (ag : Int) (m : ByteArray) (k : Int) (j : Nat) (v : Value) (_ : World) : Prop :=
  match j with
  | 0 => v = .agg #[.slice A1 n1 c1, .slice B1 m1 d1, .int .i64 ag]
  | 1 => v = .string m
  | 2 => v = .slice An nn cn
  | 3 => v = .bool false
  | 4 => v = .bool false
  | 5 => v = undef
  | 6 => v = undef
  | 7 => v = undef
  | 8 => v = undef
  | 9 => v = undef
  | 10 => v = .bool false
  | 11 => v = .bool false
  | 12 => v = .agg #[.slice A1 n1 c1, .slice B1 m1 d1, .int .i64 ag]
  | 13 => v = .string m
  | 14 => v = .slice An nn cn
  | 15 => v = .int .i64 k
  | 16 => v = .bool true
  | 17 => v = .bool true
  | 18 => v = .agg #[.slice A1 n1 c1, .slice B1 m1 d1, .int .i64 ag]
  | 19 => v = .string m
  | 20 => v = .int .i64 k
  | 21 => v = .bool true
  | 22 => v = .bool false
  | 23 => v = .bool false
  | 24 => v = .slice An nn cn
  | 25 => v = .int .i64 (nn : Int)
  | 26 => v = .bool true
  | 27 => v = .bool true
  | 28 => v = .agg #[.slice A1 n1 c1, .slice B1 m1 d1, .int .i64 ag]
  | 29 => v = .string m
  | 30 => v = .slice An nn cn
  | 31 => v = .slice (if cn = 1 then An else An.map (·.add 1)) (nn - 1) (cn - 1)
  | 32 => v = .int .i64 k
  | 33 => v = .bool true
  | 34 => v = .bool false
  | 35 => v = .bool false
  | 36 => v = .bool false
  | 37 => v = .bool false
  | 38 => v = .bool false
  | _ => True
theorem pmD_later {A1 B1 An : Option Addr} {n1 c1 m1 d1 nn cn : Nat} {ag : Int} {m : ByteArray} {k : Int} : Outlives (pmD A1 B1 An n1 c1 m1 d1 nn cn ag m k) := by
  intro j v w w' h _
  unfold pmD at h ⊢
  split at h
  all_goals exact h
/-- What the slots of the statement with the three tests hold. -/
def pmE (A1 B1 An : Option Addr) (n1 c1 m1 d1 nn cn : Nat) (ag : Int) (m : ByteArray) (k : Int) (j : Nat) (v : Value) (_ : World) : Prop :=
  match j with
  | 0 => v = .agg #[.slice A1 n1 c1, .slice B1 m1 d1, .int .i64 ag]
  | 1 => v = .string m
  | 2 => v = .slice An nn cn
  | 3 => v = .bool false
  | 4 => v = .bool false
  | 5 => v = undef
  | 6 => v = undef
  | 7 => v = undef
  | 8 => v = undef
  | 9 => v = undef
  | 10 => v = .bool false
  | 11 => v = .bool false
  | 12 => v = .agg #[.slice A1 n1 c1, .slice B1 m1 d1, .int .i64 ag]
  | 13 => v = .string m
  | 14 => v = .slice An nn cn
  | 15 => v = .int .i64 k
  | 16 => v = .bool true
  | 17 => v = .bool true
  | 18 => v = .agg #[.slice A1 n1 c1, .slice B1 m1 d1, .int .i64 ag]
  | 19 => v = .string m
  | 20 => v = .int .i64 k
  | 21 => v = .bool true
  | 22 => v = .bool false
  | 23 => v = .bool false
  | 24 => v = .slice An nn cn
  | 25 => v = .int .i64 (nn : Int)
  | 26 => v = .bool false
  | 27 => v = .bool false
  | 28 => v = undef
  | 29 => v = undef
  | 30 => v = undef
  | 31 => v = undef
  | 32 => v = undef
  | 33 => v = undef
  | 34 => v = undef
  | 35 => v = .bool false
  | 36 => v = .bool false
  | 37 => v = .bool false
  | 38 => v = .bool false
  | _ => True
theorem pmE_later {A1 B1 An : Option Addr} {n1 c1 m1 d1 nn cn : Nat} {ag : Int} {m : ByteArray} {k : Int} : Outlives (pmE A1 B1 An n1 c1 m1 d1 nn cn ag m k) := by
  intro j v w w' h _
  unfold pmE at h ⊢
  split at h
  all_goals exact h
/-- What the slots of the statement with the three tests hold. -/
def pmF (A1 B1 An : Option Addr) (n1 c1 m1 d1 nn cn : Nat) (ag : Int) (m : ByteArray) (k : Int) (j : Nat) (v : Value) (_ : World) : Prop :=
  match j with
  | 0 => v = .agg #[.slice A1 n1 c1, .slice B1 m1 d1, .int .i64 ag]
  | 1 => v = .string m
  | 2 => v = .slice An nn cn
  | 3 => v = .bool false
  | 4 => v = .bool false
  | 5 => v = undef
  | 6 => v = undef
  | 7 => v = undef
  | 8 => v = undef
  | 9 => v = undef
  | 10 => v = .bool false
  | 11 => v = .bool false
  | 12 => v = .agg #[.slice A1 n1 c1, .slice B1 m1 d1, .int .i64 ag]
  | 13 => v = .string m
  | 14 => v = .slice An nn cn
  | 15 => v = .int .i64 k
  | 16 => v = .bool false
  | 17 => v = .bool false
  | 18 => v = undef
  | 19 => v = undef
  | 20 => v = undef
  | 21 => v = undef
  | 22 => v = undef
  | 23 => v = undef
  | 24 => v = undef
  | 25 => v = undef
  | 26 => v = undef
  | 27 => v = undef
  | 28 => v = undef
  | 29 => v = undef
  | 30 => v = undef
  | 31 => v = undef
  | 32 => v = undef
  | 33 => v = undef
  | 34 => v = undef
  | 35 => v = undef
  | 36 => v = undef
  | 37 => v = .bool false
  | 38 => v = .bool false
  | _ => True
theorem pmF_later {A1 B1 An : Option Addr} {n1 c1 m1 d1 nn cn : Nat} {ag : Int} {m : ByteArray} {k : Int} : Outlives (pmF A1 B1 An n1 c1 m1 d1 nn cn ag m k) := by
  intro j v w w' h _
  unfold pmF at h ⊢
  split at h
  all_goals exact h

set_option maxHeartbeats 32000000 in
set_option maxRecDepth 100000 in
theorem preMore_law (st : Int) (A : Option Addr) (n0 c : Nat) (l0 : List Hd) (bd s m : ByteArray) (A3 : Option Addr) (n3 c3 : Nat) (l30 : List Hd) (k : Int) (_hk : k ≤ 9223372036854775807) (w : World) (_hst : -9223372036854775808 ≤ st ∧ st ≤ 9223372036854775807) (h : Hds w A n0 c l0) (hb0 : bytesIn l0 ≤ 1048576) (_hs : s.size < 4294967281) (_hx : m.size < 4294967281) (h3 : Hds w A3 n3 c3 l30) (hb3 : bytesIn l30 ≤ 1048576) (hm : Lim w) :
    Calls Tryz.prog 5 #[.agg #[.int .i64 st, .slice A n0 c, .string bd], .string s, .string m, .slice A3 n3 c3, .int .i64 k] w (Yes w) := by
  have h30 := Lib.hid h.few
  have hbl : bytesIn (l0.take 30) ≤ 1048576 := Nat.le_trans (bytesIn_take _ _) hb0
  have hfew := Lib.hid (fun W (hb : Below w.heap.size w W) => (few14_any A n0 c l0 W (h.later hb)).mono fun e w' q => show e = .returned (.slice A (min n0 30) c) ∧ W = w' from And.intro q.1 q.2.symm)
  have hn30 : min n0 30 ≤ 30 := Nat.min_le_right _ _
  have h330 := Lib.hid h3.few
  have hbl3 : bytesIn (l30.take 30) ≤ 1048576 := Nat.le_trans (bytesIn_take _ _) hb3
  have hfew3 := Lib.hid (fun W (hb : Below w.heap.size w W) => (few14_any A3 n3 c3 l30 W (h3.later hb)).mono fun e w' q => show e = .returned (.slice A3 (min n3 30) c3) ∧ W = w' from And.intro q.1 q.2.symm)
  have hn330 : min n3 30 ≤ 30 := Nat.min_le_right _ _
  clear h hb0 h3 hb3
  generalize l0.take 30 = l at h30 hbl
  generalize min n0 30 = n at h30 hfew hn30
  generalize l30.take 30 = l3 at h330 hbl3
  generalize min n3 30 = n4 at h330 hfew3 hn330
  have hLim := Lib.hid hm
  have hRead := Lib.hid (fun W (hb : Below w.heap.size w W) => read_any A n c l bd s st k W (h30.out.later hb) (by omega) (short_in hbl (by simp only [maxLen]; omega)) (by omega) (hLim.out.later hb))
  have hUn := Lib.hid (fun W (hb : Below w.heap.size w W) => refUns_any A3 n4 c3 l3 W (h330.out.later hb) (by omega) (short_in hbl3 (by omega)))
  have hNd := Lib.hid (fun W (hb : Below w.heap.size w W) => needs_any A3 n4 c3 l3 m W (h330.out.later hb) (by omega) (short_in hbl3 (by simp only [maxLen]; omega)))
  have hag : aOf (readOk st l s k) l ≤ 86400 := aOf_le _ _
  clear hbl hbl3 hm
  generalize readOk st l s k = ok at hRead hag
  cases ok with
  | false =>
    have e1 : mOf false l = [] := rfl
    have e2 : hOf false l = [] := rfl
    have e3 : aOf false l = 0 := rfl
    rw [e1, e2, e3] at hRead
    clear e1 e2 e3 hag
    obtain ⟨ag, hag0⟩ : ∃ ag : Nat, ag = 0 := ⟨_, rfl⟩
    rw [← hag0] at hRead
    have hag0' := Lib.hid hag0
    clear hag0
    go_enter Tryz.func5, Tryz.ntmps5
    go_wp2_with (first
      | (go_at_call 8; (with_reducible refine (hfew.out _ (below_box w _)).mono ?_); rintro e wf ⟨rfl, hw⟩; subst hw)
      | (go_at_call 13; (with_reducible refine (hRead.out _ (below_box w _)).mono ?_); rintro e w2 ⟨v2, rfl, ⟨A1, n1, c1, B1, m1, d1, rfl, tM1, tH1, sM1, sH1⟩, hb2⟩
         have hba := Lib.hid (below_then hb2 (below_box w2 (.cells #[.slice A1 n1 c1, .slice B1 m1 d1, .int .i64 (ag : Int)] 33)))
         have ba := Lib.hid (box_three w2 (.slice A1 n1 c1) (.slice B1 m1 d1) (.int .i64 (ag : Int)) 33)
         have SM1 := Lib.hid (sM1.later (below_box w2 (.cells #[.slice A1 n1 c1, .slice B1 m1 d1, .int .i64 (ag : Int)] 33)))
         have SH1 := Lib.hid (sH1.later (below_box w2 (.cells #[.slice A1 n1 c1, .slice B1 m1 d1, .int .i64 (ag : Int)] 33)))
         have Bwa := Lib.hid (below_then (below_box w (.cells #[.int .i64 st, .slice A n c, .string bd] 30)) hba.out)
         have hn1 : n1 = 0 := tM1.len.symm; have hm1 : m1 = 0 := tH1.len.symm; subst hn1; subst hm1; clear tM1 tH1 sM1 sH1 hb2 SM1 SH1; have hAw := Lib.hid (awake14_any _ (hLim.out.later Bwa.out)))
      | (go_at_call 6; (with_reducible refine hAw.out.mono ?_); rintro e w5 ⟨rfl, hb5⟩; have B5 := Lib.hid (below_then Bwa.out hb5); have k0 := cell_later hb5 ba.out.1; have k1 := cell_later hb5 ba.out.2.1; have k2 := cell_later hb5 ba.out.2.2; rw [hag0'.out] at k2))
    go_ret
    exact ⟨ret_bool (by simp), B5.out⟩
  | true =>
    generalize mOf true l = ms at hRead
    generalize hOf true l = hs at hRead
    generalize aOf true l = ag at hRead hag
    have hyes : Hid (needs m l3 = false → lets (ms.map mk) (hs.map mk) m ((uns l3).map mk) k = true) := Lib.hid fun h => by
      unfold needs at h
      rw [Bool.or_eq_false_iff] at h
      have h1 : isIn m simple = true := by simpa using h.1
      have h2 : uns l3 = [] := by simpa using h.2
      rw [h2]
      exact lets_plain h1
    go_enter Tryz.func5, Tryz.ntmps5
    go_wp2_with (first
      | (go_at_call 8; (with_reducible refine (hfew.out _ (below_box w _)).mono ?_); rintro e wf ⟨rfl, hw⟩; subst hw)
      | (go_at_call 8; (with_reducible refine (hfew3.out _ Bwa.out).mono ?_); rintro e wf ⟨rfl, hw⟩; subst hw)
      | (go_at_call 13; (with_reducible refine (hRead.out _ (below_box w _)).mono ?_); rintro e w2 ⟨v2, rfl, ⟨A1, n1, c1, B1, m1, d1, rfl, tM1, tH1, sM1, sH1⟩, hb2⟩
         have hba := Lib.hid (below_then hb2 (below_box w2 (.cells #[.slice A1 n1 c1, .slice B1 m1 d1, .int .i64 (ag : Int)] 33)))
         have ba := Lib.hid (box_three w2 (.slice A1 n1 c1) (.slice B1 m1 d1) (.int .i64 (ag : Int)) 33)
         have SM1 := Lib.hid (sM1.later (below_box w2 (.cells #[.slice A1 n1 c1, .slice B1 m1 d1, .int .i64 (ag : Int)] 33)))
         have SH1 := Lib.hid (sH1.later (below_box w2 (.cells #[.slice A1 n1 c1, .slice B1 m1 d1, .int .i64 (ag : Int)] 33)))
         have Bwa := Lib.hid (below_then (below_box w (.cells #[.int .i64 st, .slice A n c, .string bd] 30)) hba.out)
         clear tM1 tH1 sM1 sH1 hb2)
      | (go_at_call 18; (with_reducible refine (hUn.out _ Bwa.out).mono ?_); rintro e w4 ⟨v4, rfl, o4, hb4⟩; obtain ⟨An, nn, cn, rfl, _, sN⟩ := o4.both; have SN := Lib.hid sN; have B4 := Lib.hid (below_then Bwa.out hb4); have ca0 := Lib.hid (cell_later hb4 ba.out.1); have ca1 := Lib.hid (cell_later hb4 ba.out.2.1); have ca2 := Lib.hid (cell_later hb4 ba.out.2.2); have SM := Lib.hid (SM1.out.later hb4); have SH := Lib.hid (SH1.out.later hb4); clear o4 sN hb4))
    clear ba hba SM1 SH1 Bwa hRead hUn hfew
    generalize w2.heap.size = ga at ca0 ca1 ca2 ⊢
    have hL := Lib.hid (fun (C : Option Addr) (e f : Nat) (zs : List ByteArray) (j : Int) W (hb : Below w4.heap.size w4 W) (hz : Strs W C e f zs) => lets_any A1 B1 C n1 c1 m1 d1 e f (ag : Int) (ms.map mk) (hs.map mk) zs m j W (SM.out.later hb) (SH.out.later hb) hz)
    have hL3 := Lib.hid (fun W (hb : Below w4.heap.size w4 W) => hL.out An nn cn _ 3 W hb (SN.out.later hb))
    have hL1 := Lib.hid (fun W (hb : Below w4.heap.size w4 W) => hL.out An nn cn _ 1 W hb (SN.out.later hb))
    have hLk := Lib.hid (fun W (hb : Below w4.heap.size w4 W) => hL.out An nn cn _ k W hb (SN.out.later hb))
    have hL0 := Lib.hid (fun W (hb : Below w4.heap.size w4 W) => hL.out Option.none 0 0 [] k W hb (strs_none W))
    have h31 := Lib.hid (fun h => lets_less (ms := ms.map mk) (hs := hs.map mk) (x := m) (ns := (uns l3).map mk) h 1)
    have hk0 := Lib.hid (fun h => lets_fewer (ms := ms.map mk) (hs := hs.map mk) (x := m) (ns := (uns l3).map mk) (ks := []) (k := k) h (fun z hz => by cases hz))
    have hkd := Lib.hid (fun h => lets_fewer (ms := ms.map mk) (hs := hs.map mk) (x := m) (ns := (uns l3).map mk) (ks := ((uns l3).map mk).drop 1) (k := k) h (fun z hz => List.mem_of_mem_drop hz))
    have hncn := SN.out.cap
    cases e3 : lets (ms.map mk) (hs.map mk) m ((uns l3).map mk) 3 with
    | true =>
      rw [e3] at hL3
      rw [h31.out e3] at hL1
      clear e3 h31
      cases ek : lets (ms.map mk) (hs.map mk) m ((uns l3).map mk) k with
      | true =>
        rw [ek] at hLk hyes
        rw [hk0.out ek] at hL0
        by_cases hnn : 0 < nn
        · have hLd := Lib.hid (fun W (hb : Below w4.heap.size w4 W) => hL.out _ _ _ _ k W hb ((SN.out.later hb).backAny (k := 1) (by omega)))
          rw [hkd.out ek] at hLd
          clear ek hkd hk0 hL
          refine wp_region_each (RInv 107 [44, 45, 46, 47, 48, 49, 50, 51, 52, 53, 54, 55, 56, 57, 58, 59, 60, 61, 62, 63, 64, 65, 66, 67, 68, 69, 70, 71, 72, 73, 74, 75, 76, 77, 78, 79, 80, 81, 82] _ (pmA A1 B1 An n1 c1 m1 d1 nn cn (ag : Int) m k) w4 NoMore) (by kernel_rfl) (by kernel_rfl) (RInv.start rfl trivial (Below.refl _ _).drew) ?_ ?_
          · intro i hi D a wx hI hcl hnd hpre
            have hi' : i < 39 := hi
            have hcase : i = 0 ∨ i = 1 ∨ i = 2 ∨ i = 3 ∨ i = 4 ∨ i = 5 ∨ i = 6 ∨ i = 7 ∨ i = 8 ∨ i = 9 ∨ i = 10 ∨ i = 11 ∨ i = 12 ∨ i = 13 ∨ i = 14 ∨ i = 15 ∨ i = 16 ∨ i = 17 ∨ i = 18 ∨ i = 19 ∨ i = 20 ∨ i = 21 ∨ i = 22 ∨ i = 23 ∨ i = 24 ∨ i = 25 ∨ i = 26 ∨ i = 27 ∨ i = 28 ∨ i = 29 ∨ i = 30 ∨ i = 31 ∨ i = 32 ∨ i = 33 ∨ i = 34 ∨ i = 35 ∨ i = 36 ∨ i = 37 ∨ i = 38 := by omega
            have hF := hI.fact
            rcases hcase with rfl | rfl | rfl | rfl | rfl | rfl | rfl | rfl | rfl | rfl | rfl | rfl | rfl | rfl | rfl | rfl | rfl | rfl | rfl | rfl | rfl | rfl | rfl | rfl | rfl | rfl | rfl | rfl | rfl | rfl | rfl | rfl | rfl | rfl | rfl | rfl | rfl | rfl | rfl
            · exact wpOp_load rfl (wanted_free rfl) _ _ rfl _ _ (hI.same 11 (by decide)) (run_lA wx ga _ _ _ (cell_later hI.below ca0.out) (cell_later hI.below ca1.out) (cell_later hI.below ca2.out)) (hI.add (by decide) pmA_later (by decide) (Below.refl _ _) rfl)
            · exact wpOp_move rfl (wanted_free rfl) _ rfl _ (hI.same 2 (by decide)) (hI.add (by decide) pmA_later (by decide) (Below.refl _ _) rfl)
            · exact wpOp_move rfl (wanted_free rfl) _ rfl _ (hI.same 13 (by decide)) (hI.add (by decide) pmA_later (by decide) (Below.refl _ _) rfl)
            · exact wpOp_call4 rfl (wanted_free rfl) 16 _ _ _ _ _ rfl _ _ _ _ (hF 0 (hpre 0 (by kernel_rfl))) (hF 1 (hpre 1 (by kernel_rfl))) (hF 2 (hpre 2 (by kernel_rfl))) rfl (enters_lets _ _) (hL3.out wx hI.below) (fun e w' h => ⟨_, h.1, hI.add (by decide) pmA_later (by decide) h.2 rfl⟩)
            · exact wpOp_move rfl (wanted_free rfl) _ rfl _ (hF 3 (hpre 3 (by kernel_rfl))) (hI.add (by decide) pmA_later (by decide) (Below.refl _ _) rfl)
            · have g4 := hF 4 (hpre 4 (by kernel_rfl))
              exact wpOp_load rfl (wanted_by (d := 48) rfl _ rfl rfl g4) _ _ rfl _ _ (hI.same 11 (by decide)) (run_lA wx ga _ _ _ (cell_later hI.below ca0.out) (cell_later hI.below ca1.out) (cell_later hI.below ca2.out)) (hI.add (by decide) pmA_later (by decide) (Below.refl _ _) rfl)
            · have g4 := hF 4 (hpre 4 (by kernel_rfl))
              exact wpOp_move rfl (wanted_by (d := 48) rfl _ rfl rfl g4) _ rfl _ (hI.same 2 (by decide)) (hI.add (by decide) pmA_later (by decide) (Below.refl _ _) rfl)
            · have g4 := hF 4 (hpre 4 (by kernel_rfl))
              exact wpOp_move rfl (wanted_by (d := 48) rfl _ rfl rfl g4) _ rfl _ (hI.same 13 (by decide)) (hI.add (by decide) pmA_later (by decide) (Below.refl _ _) rfl)
            · have g4 := hF 4 (hpre 4 (by kernel_rfl))
              exact wpOp_call4 rfl (wanted_by (d := 48) rfl _ rfl rfl g4) 16 _ _ _ _ _ rfl _ _ _ _ (hF 5 (hpre 5 (by kernel_rfl))) (hF 6 (hpre 6 (by kernel_rfl))) (hF 7 (hpre 7 (by kernel_rfl))) rfl (enters_lets _ _) (hL1.out wx hI.below) (fun e w' h => ⟨_, h.1, hI.add (by decide) pmA_later (by decide) h.2 rfl⟩)
            · have g4 := hF 4 (hpre 4 (by kernel_rfl))
              exact wpOp_unary rfl (wanted_by (d := 48) rfl _ rfl rfl g4) _ _ _ rfl _ _ (hF 8 (hpre 8 (by kernel_rfl))) (run_not _ wx) (hI.add (by decide) pmA_later (by decide) (Below.refl _ _) rfl)
            · exact wpOp_pick rfl (wanted_free rfl) _ _ _ rfl true (hF 4 (hpre 4 (by kernel_rfl))) _ (hF 9 (hpre 9 (by kernel_rfl))) (hI.add (by decide) pmA_later (by decide) (Below.refl _ _) rfl)
            · exact wpOp_move rfl (wanted_free rfl) _ rfl _ (hF 10 (hpre 10 (by kernel_rfl))) (hI.add (by decide) pmA_later (by decide) (Below.refl _ _) rfl)
            · have g11 := hF 11 (hpre 11 (by kernel_rfl))
              exact wpOp_load rfl (wanted_by (d := 55) rfl _ rfl rfl g11) _ _ rfl _ _ (hI.same 11 (by decide)) (run_lA wx ga _ _ _ (cell_later hI.below ca0.out) (cell_later hI.below ca1.out) (cell_later hI.below ca2.out)) (hI.add (by decide) pmA_later (by decide) (Below.refl _ _) rfl)
            · have g11 := hF 11 (hpre 11 (by kernel_rfl))
              exact wpOp_move rfl (wanted_by (d := 55) rfl _ rfl rfl g11) _ rfl _ (hI.same 2 (by decide)) (hI.add (by decide) pmA_later (by decide) (Below.refl _ _) rfl)
            · have g11 := hF 11 (hpre 11 (by kernel_rfl))
              exact wpOp_move rfl (wanted_by (d := 55) rfl _ rfl rfl g11) _ rfl _ (hI.same 13 (by decide)) (hI.add (by decide) pmA_later (by decide) (Below.refl _ _) rfl)
            · have g11 := hF 11 (hpre 11 (by kernel_rfl))
              exact wpOp_move rfl (wanted_by (d := 55) rfl _ rfl rfl g11) _ rfl _ (hI.same 4 (by decide)) (hI.add (by decide) pmA_later (by decide) (Below.refl _ _) rfl)
            · have g11 := hF 11 (hpre 11 (by kernel_rfl))
              exact wpOp_call4 rfl (wanted_by (d := 55) rfl _ rfl rfl g11) 16 _ _ _ _ _ rfl _ _ _ _ (hF 12 (hpre 12 (by kernel_rfl))) (hF 13 (hpre 13 (by kernel_rfl))) (hF 14 (hpre 14 (by kernel_rfl))) (hF 15 (hpre 15 (by kernel_rfl))) (enters_lets _ _) (hLk.out wx hI.below) (fun e w' h => ⟨_, h.1, hI.add (by decide) pmA_later (by decide) h.2 rfl⟩)
            · have g11 := hF 11 (hpre 11 (by kernel_rfl))
              exact wpOp_move rfl (wanted_by (d := 55) rfl _ rfl rfl g11) _ rfl _ (hF 16 (hpre 16 (by kernel_rfl))) (hI.add (by decide) pmA_later (by decide) (Below.refl _ _) rfl)
            · have g17 := hF 17 (hpre 17 (by kernel_rfl))
              exact wpOp_load rfl (wanted_by (d := 61) rfl _ rfl rfl g17) _ _ rfl _ _ (hI.same 11 (by decide)) (run_lA wx ga _ _ _ (cell_later hI.below ca0.out) (cell_later hI.below ca1.out) (cell_later hI.below ca2.out)) (hI.add (by decide) pmA_later (by decide) (Below.refl _ _) rfl)
            · have g17 := hF 17 (hpre 17 (by kernel_rfl))
              exact wpOp_move rfl (wanted_by (d := 61) rfl _ rfl rfl g17) _ rfl _ (hI.same 2 (by decide)) (hI.add (by decide) pmA_later (by decide) (Below.refl _ _) rfl)
            · have g17 := hF 17 (hpre 17 (by kernel_rfl))
              exact wpOp_move rfl (wanted_by (d := 61) rfl _ rfl rfl g17) _ rfl _ (hI.same 4 (by decide)) (hI.add (by decide) pmA_later (by decide) (Below.refl _ _) rfl)
            · have g17 := hF 17 (hpre 17 (by kernel_rfl))
              exact wpOp_call4 rfl (wanted_by (d := 61) rfl _ rfl rfl g17) 16 _ _ _ _ _ rfl _ _ _ _ (hF 18 (hpre 18 (by kernel_rfl))) (hF 19 (hpre 19 (by kernel_rfl))) rfl (hF 20 (hpre 20 (by kernel_rfl))) (enters_lets _ _) (hL0.out wx hI.below) (fun e w' h => ⟨_, h.1, hI.add (by decide) pmA_later (by decide) h.2 rfl⟩)
            · have g17 := hF 17 (hpre 17 (by kernel_rfl))
              exact wpOp_unary rfl (wanted_by (d := 61) rfl _ rfl rfl g17) _ _ _ rfl _ _ (hF 21 (hpre 21 (by kernel_rfl))) (run_not _ wx) (hI.add (by decide) pmA_later (by decide) (Below.refl _ _) rfl)
            · have g17 := hF 17 (hpre 17 (by kernel_rfl))
              exact wpOp_move rfl (wanted_by (d := 61) rfl _ rfl rfl g17) _ rfl _ (hF 22 (hpre 22 (by kernel_rfl))) (hI.add (by decide) pmA_later (by decide) (Below.refl _ _) rfl)
            · have g23 := hF 23 (hpre 23 (by kernel_rfl))
              exact wpOp_move rfl (wanted_by (d := 67) rfl _ rfl rfl g23) _ rfl _ (hI.same 13 (by decide)) (hI.add (by decide) pmA_later (by decide) (Below.refl _ _) rfl)
            · have g23 := hF 23 (hpre 23 (by kernel_rfl))
              exact wpOp_len rfl (wanted_by (d := 67) rfl _ rfl rfl g23) _ _ rfl _ Tryz.underlying31 _ _ _ (hF 24 (hpre 24 (by kernel_rfl))) (hI.add (by decide) pmA_later (by decide) (Below.refl _ _) rfl)
            · have g23 := hF 23 (hpre 23 (by kernel_rfl))
              exact wpOp_bin rfl (wanted_by (d := 67) rfl _ rfl rfl g23) _ _ _ _ _ rfl _ _ _ (hF 25 (hpre 25 (by kernel_rfl))) rfl (run_gtN _ _ nn hnn wx) (hI.add (by decide) pmA_later (by decide) (Below.refl _ _) rfl)
            · have g23 := hF 23 (hpre 23 (by kernel_rfl))
              exact wpOp_move rfl (wanted_by (d := 67) rfl _ rfl rfl g23) _ rfl _ (hF 26 (hpre 26 (by kernel_rfl))) (hI.add (by decide) pmA_later (by decide) (Below.refl _ _) rfl)
            · have g27 := hF 27 (hpre 27 (by kernel_rfl))
              exact wpOp_load rfl (wanted_by (d := 71) rfl _ rfl rfl g27) _ _ rfl _ _ (hI.same 11 (by decide)) (run_lA wx ga _ _ _ (cell_later hI.below ca0.out) (cell_later hI.below ca1.out) (cell_later hI.below ca2.out)) (hI.add (by decide) pmA_later (by decide) (Below.refl _ _) rfl)
            · have g27 := hF 27 (hpre 27 (by kernel_rfl))
              exact wpOp_move rfl (wanted_by (d := 71) rfl _ rfl rfl g27) _ rfl _ (hI.same 2 (by decide)) (hI.add (by decide) pmA_later (by decide) (Below.refl _ _) rfl)
            · have g27 := hF 27 (hpre 27 (by kernel_rfl))
              exact wpOp_move rfl (wanted_by (d := 71) rfl _ rfl rfl g27) _ rfl _ (hI.same 13 (by decide)) (hI.add (by decide) pmA_later (by decide) (Below.refl _ _) rfl)
            · have g27 := hF 27 (hpre 27 (by kernel_rfl))
              exact wpOp_slice rfl (wanted_by (d := 71) rfl _ rfl rfl g27) _ _ _ _ _ rfl _ _ (some (.int .i64 1)) Option.none Option.none (hF 30 (hpre 30 (by kernel_rfl))) rfl rfl rfl (run_backS wx An nn cn 1 hnn hncn) (hI.add (by decide) pmA_later (by decide) (Below.refl _ _) rfl)
            · have g27 := hF 27 (hpre 27 (by kernel_rfl))
              exact wpOp_move rfl (wanted_by (d := 71) rfl _ rfl rfl g27) _ rfl _ (hI.same 4 (by decide)) (hI.add (by decide) pmA_later (by decide) (Below.refl _ _) rfl)
            · have g27 := hF 27 (hpre 27 (by kernel_rfl))
              exact wpOp_call4 rfl (wanted_by (d := 71) rfl _ rfl rfl g27) 16 _ _ _ _ _ rfl _ _ _ _ (hF 28 (hpre 28 (by kernel_rfl))) (hF 29 (hpre 29 (by kernel_rfl))) (hF 31 (hpre 31 (by kernel_rfl))) (hF 32 (hpre 32 (by kernel_rfl))) (enters_lets _ _) (hLd.out wx hI.below) (fun e w' h => ⟨_, h.1, hI.add (by decide) pmA_later (by decide) h.2 rfl⟩)
            · have g27 := hF 27 (hpre 27 (by kernel_rfl))
              exact wpOp_unary rfl (wanted_by (d := 71) rfl _ rfl rfl g27) _ _ _ rfl _ _ (hF 33 (hpre 33 (by kernel_rfl))) (run_not _ wx) (hI.add (by decide) pmA_later (by decide) (Below.refl _ _) rfl)
            · have g23 := hF 23 (hpre 23 (by kernel_rfl))
              exact wpOp_pick rfl (wanted_by (d := 67) rfl _ rfl rfl g23) _ _ _ rfl true (hF 27 (hpre 27 (by kernel_rfl))) _ (hF 34 (hpre 34 (by kernel_rfl))) (hI.add (by decide) pmA_later (by decide) (Below.refl _ _) rfl)
            · have g17 := hF 17 (hpre 17 (by kernel_rfl))
              exact wpOp_pick rfl (wanted_by (d := 61) rfl _ rfl rfl g17) _ _ _ rfl false (hF 23 (hpre 23 (by kernel_rfl))) _ (hF 35 (hpre 35 (by kernel_rfl))) (hI.add (by decide) pmA_later (by decide) (Below.refl _ _) rfl)
            · have g11 := hF 11 (hpre 11 (by kernel_rfl))
              exact wpOp_pick rfl (wanted_by (d := 55) rfl _ rfl rfl g11) _ _ _ rfl true (hF 17 (hpre 17 (by kernel_rfl))) _ (hF 36 (hpre 36 (by kernel_rfl))) (hI.add (by decide) pmA_later (by decide) (Below.refl _ _) rfl)
            · exact wpOp_pick rfl (wanted_free rfl) _ _ _ rfl false (hF 11 (hpre 11 (by kernel_rfl))) _ (hF 37 (hpre 37 (by kernel_rfl))) (hI.add (by decide) pmA_later (by decide) (Below.refl _ _) rfl)
          · intro D a wx hI hall
            have hB := Lib.hid hI.below
            obtain ⟨fs, rfl, hfs⟩ := hI.done (by decide) rfl (fun i hi => hall i hi)
            have h82 : fs 82 = .bool false := hfs 38 (by decide)
            clear hI hall hfs
            simp only [putAll, List.map_cons, List.map_nil, Act.put, List.setIfInBounds_toArray, List.set_cons_zero, List.set_cons_succ]
            rw [h82]
            clear h82
            generalize fs 44 = y44
            generalize fs 45 = y45
            generalize fs 46 = y46
            generalize fs 47 = y47
            generalize fs 48 = y48
            generalize fs 49 = y49
            generalize fs 50 = y50
            generalize fs 51 = y51
            generalize fs 52 = y52
            generalize fs 53 = y53
            generalize fs 54 = y54
            generalize fs 55 = y55
            generalize fs 56 = y56
            generalize fs 57 = y57
            generalize fs 58 = y58
            generalize fs 59 = y59
            generalize fs 60 = y60
            generalize fs 61 = y61
            generalize fs 62 = y62
            generalize fs 63 = y63
            generalize fs 64 = y64
            generalize fs 65 = y65
            generalize fs 66 = y66
            generalize fs 67 = y67
            generalize fs 68 = y68
            generalize fs 69 = y69
            generalize fs 70 = y70
            generalize fs 71 = y71
            generalize fs 72 = y72
            generalize fs 73 = y73
            generalize fs 74 = y74
            generalize fs 75 = y75
            generalize fs 76 = y76
            generalize fs 77 = y77
            generalize fs 78 = y78
            generalize fs 79 = y79
            generalize fs 80 = y80
            generalize fs 81 = y81
            try clear hnn
            have Bx := Lib.hid (below_then B4.out hB.out)
            have cx0 := cell_later hB.out ca0.out
            have cx1 := cell_later hB.out ca1.out
            have cx2 := cell_later hB.out ca2.out
            have hAw := Lib.hid (awake14_any wx (hLim.out.later Bx.out))
            cases hnb : needs m l3 with
            | true =>
              have hN := Lib.hid hNd.out
              rw [hnb] at hN
              clear hnb
              go_wp2_with (first
                | (go_at_call 6; (with_reducible refine hAw.out.mono ?_); rintro e w5 ⟨rfl, hb5⟩; have B5 := Lib.hid (below_then Bx.out hb5); have k0 := cell_later hb5 cx0; have k1 := cell_later hb5 cx1; have k2 := cell_later hb5 cx2)
                | (go_at_call 8; (with_reducible refine (hfew3.out _ B5.out).mono ?_); rintro e wf ⟨rfl, hw⟩; subst hw)
                | (go_at_call 7; (with_reducible refine (hN.out _ B5.out).mono ?_); rintro e w6 ⟨rfl, hb6⟩; have B6 := Lib.hid (below_then B5.out hb6); have j2 := cell_later hb6 k2))
              go_ret
              exact ⟨ret_bool (by simp; omega), B6.out⟩
            | false =>
              have hN := Lib.hid hNd.out
              rw [hnb] at hN
              have hLf := Lib.hid (fun W (hb : Below wx.heap.size wx W) => hLk.out W (below_then hB.out hb))
              rw [hyes.out hnb] at hLf
              clear hnb
              go_wp2_with (first
                | (go_at_call 6; (with_reducible refine hAw.out.mono ?_); rintro e w5 ⟨rfl, hb5⟩; have B5 := Lib.hid (below_then Bx.out hb5); have k0 := cell_later hb5 cx0; have k1 := cell_later hb5 cx1; have k2 := cell_later hb5 cx2)
                | (go_at_call 8; (with_reducible refine (hfew3.out _ B5.out).mono ?_); rintro e wf ⟨rfl, hw⟩; subst hw)
                | (go_at_call 7; (with_reducible refine (hN.out _ B5.out).mono ?_); rintro e w6 ⟨rfl, hb6⟩; have hb56 := Lib.hid (below_then hb5 hb6); have B6 := Lib.hid (below_then B5.out hb6); have j0 := cell_later hb6 k0; have j1 := cell_later hb6 k1; have j2 := cell_later hb6 k2)
                | (go_at_call 16; (with_reducible refine (hLf.out _ hb56.out).mono ?_); rintro e w7 ⟨rfl, hb7⟩; have B7 := Lib.hid (below_then B6.out hb7); have i2 := cell_later hb7 j2))
              go_ret
              exact ⟨ret_bool (by simp; omega), B7.out⟩
        · replace hnn : nn = 0 := by omega
          clear ek hkd hk0 hL
          refine wp_region_each (RInv 107 [44, 45, 46, 47, 48, 49, 50, 51, 52, 53, 54, 55, 56, 57, 58, 59, 60, 61, 62, 63, 64, 65, 66, 67, 68, 69, 70, 71, 72, 73, 74, 75, 76, 77, 78, 79, 80, 81, 82] _ (pmB A1 B1 An n1 c1 m1 d1 nn cn (ag : Int) m k) w4 NoMore) (by kernel_rfl) (by kernel_rfl) (RInv.start rfl trivial (Below.refl _ _).drew) ?_ ?_
          · intro i hi D a wx hI hcl hnd hpre
            have hi' : i < 39 := hi
            have hcase : i = 0 ∨ i = 1 ∨ i = 2 ∨ i = 3 ∨ i = 4 ∨ i = 5 ∨ i = 6 ∨ i = 7 ∨ i = 8 ∨ i = 9 ∨ i = 10 ∨ i = 11 ∨ i = 12 ∨ i = 13 ∨ i = 14 ∨ i = 15 ∨ i = 16 ∨ i = 17 ∨ i = 18 ∨ i = 19 ∨ i = 20 ∨ i = 21 ∨ i = 22 ∨ i = 23 ∨ i = 24 ∨ i = 25 ∨ i = 26 ∨ i = 27 ∨ i = 28 ∨ i = 29 ∨ i = 30 ∨ i = 31 ∨ i = 32 ∨ i = 33 ∨ i = 34 ∨ i = 35 ∨ i = 36 ∨ i = 37 ∨ i = 38 := by omega
            have hF := hI.fact
            rcases hcase with rfl | rfl | rfl | rfl | rfl | rfl | rfl | rfl | rfl | rfl | rfl | rfl | rfl | rfl | rfl | rfl | rfl | rfl | rfl | rfl | rfl | rfl | rfl | rfl | rfl | rfl | rfl | rfl | rfl | rfl | rfl | rfl | rfl | rfl | rfl | rfl | rfl | rfl | rfl
            · exact wpOp_load rfl (wanted_free rfl) _ _ rfl _ _ (hI.same 11 (by decide)) (run_lA wx ga _ _ _ (cell_later hI.below ca0.out) (cell_later hI.below ca1.out) (cell_later hI.below ca2.out)) (hI.add (by decide) pmB_later (by decide) (Below.refl _ _) rfl)
            · exact wpOp_move rfl (wanted_free rfl) _ rfl _ (hI.same 2 (by decide)) (hI.add (by decide) pmB_later (by decide) (Below.refl _ _) rfl)
            · exact wpOp_move rfl (wanted_free rfl) _ rfl _ (hI.same 13 (by decide)) (hI.add (by decide) pmB_later (by decide) (Below.refl _ _) rfl)
            · exact wpOp_call4 rfl (wanted_free rfl) 16 _ _ _ _ _ rfl _ _ _ _ (hF 0 (hpre 0 (by kernel_rfl))) (hF 1 (hpre 1 (by kernel_rfl))) (hF 2 (hpre 2 (by kernel_rfl))) rfl (enters_lets _ _) (hL3.out wx hI.below) (fun e w' h => ⟨_, h.1, hI.add (by decide) pmB_later (by decide) h.2 rfl⟩)
            · exact wpOp_move rfl (wanted_free rfl) _ rfl _ (hF 3 (hpre 3 (by kernel_rfl))) (hI.add (by decide) pmB_later (by decide) (Below.refl _ _) rfl)
            · have g4 := hF 4 (hpre 4 (by kernel_rfl))
              exact wpOp_load rfl (wanted_by (d := 48) rfl _ rfl rfl g4) _ _ rfl _ _ (hI.same 11 (by decide)) (run_lA wx ga _ _ _ (cell_later hI.below ca0.out) (cell_later hI.below ca1.out) (cell_later hI.below ca2.out)) (hI.add (by decide) pmB_later (by decide) (Below.refl _ _) rfl)
            · have g4 := hF 4 (hpre 4 (by kernel_rfl))
              exact wpOp_move rfl (wanted_by (d := 48) rfl _ rfl rfl g4) _ rfl _ (hI.same 2 (by decide)) (hI.add (by decide) pmB_later (by decide) (Below.refl _ _) rfl)
            · have g4 := hF 4 (hpre 4 (by kernel_rfl))
              exact wpOp_move rfl (wanted_by (d := 48) rfl _ rfl rfl g4) _ rfl _ (hI.same 13 (by decide)) (hI.add (by decide) pmB_later (by decide) (Below.refl _ _) rfl)
            · have g4 := hF 4 (hpre 4 (by kernel_rfl))
              exact wpOp_call4 rfl (wanted_by (d := 48) rfl _ rfl rfl g4) 16 _ _ _ _ _ rfl _ _ _ _ (hF 5 (hpre 5 (by kernel_rfl))) (hF 6 (hpre 6 (by kernel_rfl))) (hF 7 (hpre 7 (by kernel_rfl))) rfl (enters_lets _ _) (hL1.out wx hI.below) (fun e w' h => ⟨_, h.1, hI.add (by decide) pmB_later (by decide) h.2 rfl⟩)
            · have g4 := hF 4 (hpre 4 (by kernel_rfl))
              exact wpOp_unary rfl (wanted_by (d := 48) rfl _ rfl rfl g4) _ _ _ rfl _ _ (hF 8 (hpre 8 (by kernel_rfl))) (run_not _ wx) (hI.add (by decide) pmB_later (by decide) (Below.refl _ _) rfl)
            · exact wpOp_pick rfl (wanted_free rfl) _ _ _ rfl true (hF 4 (hpre 4 (by kernel_rfl))) _ (hF 9 (hpre 9 (by kernel_rfl))) (hI.add (by decide) pmB_later (by decide) (Below.refl _ _) rfl)
            · exact wpOp_move rfl (wanted_free rfl) _ rfl _ (hF 10 (hpre 10 (by kernel_rfl))) (hI.add (by decide) pmB_later (by decide) (Below.refl _ _) rfl)
            · have g11 := hF 11 (hpre 11 (by kernel_rfl))
              exact wpOp_load rfl (wanted_by (d := 55) rfl _ rfl rfl g11) _ _ rfl _ _ (hI.same 11 (by decide)) (run_lA wx ga _ _ _ (cell_later hI.below ca0.out) (cell_later hI.below ca1.out) (cell_later hI.below ca2.out)) (hI.add (by decide) pmB_later (by decide) (Below.refl _ _) rfl)
            · have g11 := hF 11 (hpre 11 (by kernel_rfl))
              exact wpOp_move rfl (wanted_by (d := 55) rfl _ rfl rfl g11) _ rfl _ (hI.same 2 (by decide)) (hI.add (by decide) pmB_later (by decide) (Below.refl _ _) rfl)
            · have g11 := hF 11 (hpre 11 (by kernel_rfl))
              exact wpOp_move rfl (wanted_by (d := 55) rfl _ rfl rfl g11) _ rfl _ (hI.same 13 (by decide)) (hI.add (by decide) pmB_later (by decide) (Below.refl _ _) rfl)
            · have g11 := hF 11 (hpre 11 (by kernel_rfl))
              exact wpOp_move rfl (wanted_by (d := 55) rfl _ rfl rfl g11) _ rfl _ (hI.same 4 (by decide)) (hI.add (by decide) pmB_later (by decide) (Below.refl _ _) rfl)
            · have g11 := hF 11 (hpre 11 (by kernel_rfl))
              exact wpOp_call4 rfl (wanted_by (d := 55) rfl _ rfl rfl g11) 16 _ _ _ _ _ rfl _ _ _ _ (hF 12 (hpre 12 (by kernel_rfl))) (hF 13 (hpre 13 (by kernel_rfl))) (hF 14 (hpre 14 (by kernel_rfl))) (hF 15 (hpre 15 (by kernel_rfl))) (enters_lets _ _) (hLk.out wx hI.below) (fun e w' h => ⟨_, h.1, hI.add (by decide) pmB_later (by decide) h.2 rfl⟩)
            · have g11 := hF 11 (hpre 11 (by kernel_rfl))
              exact wpOp_move rfl (wanted_by (d := 55) rfl _ rfl rfl g11) _ rfl _ (hF 16 (hpre 16 (by kernel_rfl))) (hI.add (by decide) pmB_later (by decide) (Below.refl _ _) rfl)
            · have g17 := hF 17 (hpre 17 (by kernel_rfl))
              exact wpOp_load rfl (wanted_by (d := 61) rfl _ rfl rfl g17) _ _ rfl _ _ (hI.same 11 (by decide)) (run_lA wx ga _ _ _ (cell_later hI.below ca0.out) (cell_later hI.below ca1.out) (cell_later hI.below ca2.out)) (hI.add (by decide) pmB_later (by decide) (Below.refl _ _) rfl)
            · have g17 := hF 17 (hpre 17 (by kernel_rfl))
              exact wpOp_move rfl (wanted_by (d := 61) rfl _ rfl rfl g17) _ rfl _ (hI.same 2 (by decide)) (hI.add (by decide) pmB_later (by decide) (Below.refl _ _) rfl)
            · have g17 := hF 17 (hpre 17 (by kernel_rfl))
              exact wpOp_move rfl (wanted_by (d := 61) rfl _ rfl rfl g17) _ rfl _ (hI.same 4 (by decide)) (hI.add (by decide) pmB_later (by decide) (Below.refl _ _) rfl)
            · have g17 := hF 17 (hpre 17 (by kernel_rfl))
              exact wpOp_call4 rfl (wanted_by (d := 61) rfl _ rfl rfl g17) 16 _ _ _ _ _ rfl _ _ _ _ (hF 18 (hpre 18 (by kernel_rfl))) (hF 19 (hpre 19 (by kernel_rfl))) rfl (hF 20 (hpre 20 (by kernel_rfl))) (enters_lets _ _) (hL0.out wx hI.below) (fun e w' h => ⟨_, h.1, hI.add (by decide) pmB_later (by decide) h.2 rfl⟩)
            · have g17 := hF 17 (hpre 17 (by kernel_rfl))
              exact wpOp_unary rfl (wanted_by (d := 61) rfl _ rfl rfl g17) _ _ _ rfl _ _ (hF 21 (hpre 21 (by kernel_rfl))) (run_not _ wx) (hI.add (by decide) pmB_later (by decide) (Below.refl _ _) rfl)
            · have g17 := hF 17 (hpre 17 (by kernel_rfl))
              exact wpOp_move rfl (wanted_by (d := 61) rfl _ rfl rfl g17) _ rfl _ (hF 22 (hpre 22 (by kernel_rfl))) (hI.add (by decide) pmB_later (by decide) (Below.refl _ _) rfl)
            · have g23 := hF 23 (hpre 23 (by kernel_rfl))
              exact wpOp_move rfl (wanted_by (d := 67) rfl _ rfl rfl g23) _ rfl _ (hI.same 13 (by decide)) (hI.add (by decide) pmB_later (by decide) (Below.refl _ _) rfl)
            · have g23 := hF 23 (hpre 23 (by kernel_rfl))
              exact wpOp_len rfl (wanted_by (d := 67) rfl _ rfl rfl g23) _ _ rfl _ Tryz.underlying31 _ _ _ (hF 24 (hpre 24 (by kernel_rfl))) (hI.add (by decide) pmB_later (by decide) (Below.refl _ _) rfl)
            · have g23 := hF 23 (hpre 23 (by kernel_rfl))
              exact wpOp_bin rfl (wanted_by (d := 67) rfl _ rfl rfl g23) _ _ _ _ _ rfl _ _ _ (hF 25 (hpre 25 (by kernel_rfl))) rfl (run_gtZ _ _ nn hnn wx) (hI.add (by decide) pmB_later (by decide) (Below.refl _ _) rfl)
            · have g23 := hF 23 (hpre 23 (by kernel_rfl))
              exact wpOp_move rfl (wanted_by (d := 67) rfl _ rfl rfl g23) _ rfl _ (hF 26 (hpre 26 (by kernel_rfl))) (hI.add (by decide) pmB_later (by decide) (Below.refl _ _) rfl)
            · have g27 := hF 27 (hpre 27 (by kernel_rfl))
              exact wpOp_idle rfl (wanted_off (d := 71) rfl _ rfl rfl g27 (by simp)) (hI.add (by decide) pmB_later (by decide) (Below.refl _ _) rfl)
            · have g27 := hF 27 (hpre 27 (by kernel_rfl))
              exact wpOp_idle rfl (wanted_off (d := 71) rfl _ rfl rfl g27 (by simp)) (hI.add (by decide) pmB_later (by decide) (Below.refl _ _) rfl)
            · have g27 := hF 27 (hpre 27 (by kernel_rfl))
              exact wpOp_idle rfl (wanted_off (d := 71) rfl _ rfl rfl g27 (by simp)) (hI.add (by decide) pmB_later (by decide) (Below.refl _ _) rfl)
            · have g27 := hF 27 (hpre 27 (by kernel_rfl))
              exact wpOp_idle rfl (wanted_off (d := 71) rfl _ rfl rfl g27 (by simp)) (hI.add (by decide) pmB_later (by decide) (Below.refl _ _) rfl)
            · have g27 := hF 27 (hpre 27 (by kernel_rfl))
              exact wpOp_idle rfl (wanted_off (d := 71) rfl _ rfl rfl g27 (by simp)) (hI.add (by decide) pmB_later (by decide) (Below.refl _ _) rfl)
            · have g27 := hF 27 (hpre 27 (by kernel_rfl))
              exact wpOp_idle rfl (wanted_off (d := 71) rfl _ rfl rfl g27 (by simp)) (hI.add (by decide) pmB_later (by decide) (Below.refl _ _) rfl)
            · have g27 := hF 27 (hpre 27 (by kernel_rfl))
              exact wpOp_idle rfl (wanted_off (d := 71) rfl _ rfl rfl g27 (by simp)) (hI.add (by decide) pmB_later (by decide) (Below.refl _ _) rfl)
            · have g23 := hF 23 (hpre 23 (by kernel_rfl))
              exact wpOp_pick rfl (wanted_by (d := 67) rfl _ rfl rfl g23) _ _ _ rfl false (hF 27 (hpre 27 (by kernel_rfl))) _ rfl (hI.add (by decide) pmB_later (by decide) (Below.refl _ _) rfl)
            · have g17 := hF 17 (hpre 17 (by kernel_rfl))
              exact wpOp_pick rfl (wanted_by (d := 61) rfl _ rfl rfl g17) _ _ _ rfl false (hF 23 (hpre 23 (by kernel_rfl))) _ (hF 35 (hpre 35 (by kernel_rfl))) (hI.add (by decide) pmB_later (by decide) (Below.refl _ _) rfl)
            · have g11 := hF 11 (hpre 11 (by kernel_rfl))
              exact wpOp_pick rfl (wanted_by (d := 55) rfl _ rfl rfl g11) _ _ _ rfl true (hF 17 (hpre 17 (by kernel_rfl))) _ (hF 36 (hpre 36 (by kernel_rfl))) (hI.add (by decide) pmB_later (by decide) (Below.refl _ _) rfl)
            · exact wpOp_pick rfl (wanted_free rfl) _ _ _ rfl false (hF 11 (hpre 11 (by kernel_rfl))) _ (hF 37 (hpre 37 (by kernel_rfl))) (hI.add (by decide) pmB_later (by decide) (Below.refl _ _) rfl)
          · intro D a wx hI hall
            have hB := Lib.hid hI.below
            obtain ⟨fs, rfl, hfs⟩ := hI.done (by decide) rfl (fun i hi => hall i hi)
            have h82 : fs 82 = .bool false := hfs 38 (by decide)
            clear hI hall hfs
            simp only [putAll, List.map_cons, List.map_nil, Act.put, List.setIfInBounds_toArray, List.set_cons_zero, List.set_cons_succ]
            rw [h82]
            clear h82
            generalize fs 44 = y44
            generalize fs 45 = y45
            generalize fs 46 = y46
            generalize fs 47 = y47
            generalize fs 48 = y48
            generalize fs 49 = y49
            generalize fs 50 = y50
            generalize fs 51 = y51
            generalize fs 52 = y52
            generalize fs 53 = y53
            generalize fs 54 = y54
            generalize fs 55 = y55
            generalize fs 56 = y56
            generalize fs 57 = y57
            generalize fs 58 = y58
            generalize fs 59 = y59
            generalize fs 60 = y60
            generalize fs 61 = y61
            generalize fs 62 = y62
            generalize fs 63 = y63
            generalize fs 64 = y64
            generalize fs 65 = y65
            generalize fs 66 = y66
            generalize fs 67 = y67
            generalize fs 68 = y68
            generalize fs 69 = y69
            generalize fs 70 = y70
            generalize fs 71 = y71
            generalize fs 72 = y72
            generalize fs 73 = y73
            generalize fs 74 = y74
            generalize fs 75 = y75
            generalize fs 76 = y76
            generalize fs 77 = y77
            generalize fs 78 = y78
            generalize fs 79 = y79
            generalize fs 80 = y80
            generalize fs 81 = y81
            try clear hnn
            have Bx := Lib.hid (below_then B4.out hB.out)
            have cx0 := cell_later hB.out ca0.out
            have cx1 := cell_later hB.out ca1.out
            have cx2 := cell_later hB.out ca2.out
            have hAw := Lib.hid (awake14_any wx (hLim.out.later Bx.out))
            cases hnb : needs m l3 with
            | true =>
              have hN := Lib.hid hNd.out
              rw [hnb] at hN
              clear hnb
              go_wp2_with (first
                | (go_at_call 6; (with_reducible refine hAw.out.mono ?_); rintro e w5 ⟨rfl, hb5⟩; have B5 := Lib.hid (below_then Bx.out hb5); have k0 := cell_later hb5 cx0; have k1 := cell_later hb5 cx1; have k2 := cell_later hb5 cx2)
                | (go_at_call 8; (with_reducible refine (hfew3.out _ B5.out).mono ?_); rintro e wf ⟨rfl, hw⟩; subst hw)
                | (go_at_call 7; (with_reducible refine (hN.out _ B5.out).mono ?_); rintro e w6 ⟨rfl, hb6⟩; have B6 := Lib.hid (below_then B5.out hb6); have j2 := cell_later hb6 k2))
              go_ret
              exact ⟨ret_bool (by simp; omega), B6.out⟩
            | false =>
              have hN := Lib.hid hNd.out
              rw [hnb] at hN
              have hLf := Lib.hid (fun W (hb : Below wx.heap.size wx W) => hLk.out W (below_then hB.out hb))
              rw [hyes.out hnb] at hLf
              clear hnb
              go_wp2_with (first
                | (go_at_call 6; (with_reducible refine hAw.out.mono ?_); rintro e w5 ⟨rfl, hb5⟩; have B5 := Lib.hid (below_then Bx.out hb5); have k0 := cell_later hb5 cx0; have k1 := cell_later hb5 cx1; have k2 := cell_later hb5 cx2)
                | (go_at_call 8; (with_reducible refine (hfew3.out _ B5.out).mono ?_); rintro e wf ⟨rfl, hw⟩; subst hw)
                | (go_at_call 7; (with_reducible refine (hN.out _ B5.out).mono ?_); rintro e w6 ⟨rfl, hb6⟩; have hb56 := Lib.hid (below_then hb5 hb6); have B6 := Lib.hid (below_then B5.out hb6); have j0 := cell_later hb6 k0; have j1 := cell_later hb6 k1; have j2 := cell_later hb6 k2)
                | (go_at_call 16; (with_reducible refine (hLf.out _ hb56.out).mono ?_); rintro e w7 ⟨rfl, hb7⟩; have B7 := Lib.hid (below_then B6.out hb7); have i2 := cell_later hb7 j2))
              go_ret
              exact ⟨ret_bool (by simp; omega), B7.out⟩
      | false =>
        rw [ek] at hLk hyes
        clear ek hkd hk0 hL
        refine wp_region_each (RInv 107 [44, 45, 46, 47, 48, 49, 50, 51, 52, 53, 54, 55, 56, 57, 58, 59, 60, 61, 62, 63, 64, 65, 66, 67, 68, 69, 70, 71, 72, 73, 74, 75, 76, 77, 78, 79, 80, 81, 82] _ (pmC A1 B1 An n1 c1 m1 d1 nn cn (ag : Int) m k) w4 NoMore) (by kernel_rfl) (by kernel_rfl) (RInv.start rfl trivial (Below.refl _ _).drew) ?_ ?_
        · intro i hi D a wx hI hcl hnd hpre
          have hi' : i < 39 := hi
          have hcase : i = 0 ∨ i = 1 ∨ i = 2 ∨ i = 3 ∨ i = 4 ∨ i = 5 ∨ i = 6 ∨ i = 7 ∨ i = 8 ∨ i = 9 ∨ i = 10 ∨ i = 11 ∨ i = 12 ∨ i = 13 ∨ i = 14 ∨ i = 15 ∨ i = 16 ∨ i = 17 ∨ i = 18 ∨ i = 19 ∨ i = 20 ∨ i = 21 ∨ i = 22 ∨ i = 23 ∨ i = 24 ∨ i = 25 ∨ i = 26 ∨ i = 27 ∨ i = 28 ∨ i = 29 ∨ i = 30 ∨ i = 31 ∨ i = 32 ∨ i = 33 ∨ i = 34 ∨ i = 35 ∨ i = 36 ∨ i = 37 ∨ i = 38 := by omega
          have hF := hI.fact
          rcases hcase with rfl | rfl | rfl | rfl | rfl | rfl | rfl | rfl | rfl | rfl | rfl | rfl | rfl | rfl | rfl | rfl | rfl | rfl | rfl | rfl | rfl | rfl | rfl | rfl | rfl | rfl | rfl | rfl | rfl | rfl | rfl | rfl | rfl | rfl | rfl | rfl | rfl | rfl | rfl
          · exact wpOp_load rfl (wanted_free rfl) _ _ rfl _ _ (hI.same 11 (by decide)) (run_lA wx ga _ _ _ (cell_later hI.below ca0.out) (cell_later hI.below ca1.out) (cell_later hI.below ca2.out)) (hI.add (by decide) pmC_later (by decide) (Below.refl _ _) rfl)
          · exact wpOp_move rfl (wanted_free rfl) _ rfl _ (hI.same 2 (by decide)) (hI.add (by decide) pmC_later (by decide) (Below.refl _ _) rfl)
          · exact wpOp_move rfl (wanted_free rfl) _ rfl _ (hI.same 13 (by decide)) (hI.add (by decide) pmC_later (by decide) (Below.refl _ _) rfl)
          · exact wpOp_call4 rfl (wanted_free rfl) 16 _ _ _ _ _ rfl _ _ _ _ (hF 0 (hpre 0 (by kernel_rfl))) (hF 1 (hpre 1 (by kernel_rfl))) (hF 2 (hpre 2 (by kernel_rfl))) rfl (enters_lets _ _) (hL3.out wx hI.below) (fun e w' h => ⟨_, h.1, hI.add (by decide) pmC_later (by decide) h.2 rfl⟩)
          · exact wpOp_move rfl (wanted_free rfl) _ rfl _ (hF 3 (hpre 3 (by kernel_rfl))) (hI.add (by decide) pmC_later (by decide) (Below.refl _ _) rfl)
          · have g4 := hF 4 (hpre 4 (by kernel_rfl))
            exact wpOp_load rfl (wanted_by (d := 48) rfl _ rfl rfl g4) _ _ rfl _ _ (hI.same 11 (by decide)) (run_lA wx ga _ _ _ (cell_later hI.below ca0.out) (cell_later hI.below ca1.out) (cell_later hI.below ca2.out)) (hI.add (by decide) pmC_later (by decide) (Below.refl _ _) rfl)
          · have g4 := hF 4 (hpre 4 (by kernel_rfl))
            exact wpOp_move rfl (wanted_by (d := 48) rfl _ rfl rfl g4) _ rfl _ (hI.same 2 (by decide)) (hI.add (by decide) pmC_later (by decide) (Below.refl _ _) rfl)
          · have g4 := hF 4 (hpre 4 (by kernel_rfl))
            exact wpOp_move rfl (wanted_by (d := 48) rfl _ rfl rfl g4) _ rfl _ (hI.same 13 (by decide)) (hI.add (by decide) pmC_later (by decide) (Below.refl _ _) rfl)
          · have g4 := hF 4 (hpre 4 (by kernel_rfl))
            exact wpOp_call4 rfl (wanted_by (d := 48) rfl _ rfl rfl g4) 16 _ _ _ _ _ rfl _ _ _ _ (hF 5 (hpre 5 (by kernel_rfl))) (hF 6 (hpre 6 (by kernel_rfl))) (hF 7 (hpre 7 (by kernel_rfl))) rfl (enters_lets _ _) (hL1.out wx hI.below) (fun e w' h => ⟨_, h.1, hI.add (by decide) pmC_later (by decide) h.2 rfl⟩)
          · have g4 := hF 4 (hpre 4 (by kernel_rfl))
            exact wpOp_unary rfl (wanted_by (d := 48) rfl _ rfl rfl g4) _ _ _ rfl _ _ (hF 8 (hpre 8 (by kernel_rfl))) (run_not _ wx) (hI.add (by decide) pmC_later (by decide) (Below.refl _ _) rfl)
          · exact wpOp_pick rfl (wanted_free rfl) _ _ _ rfl true (hF 4 (hpre 4 (by kernel_rfl))) _ (hF 9 (hpre 9 (by kernel_rfl))) (hI.add (by decide) pmC_later (by decide) (Below.refl _ _) rfl)
          · exact wpOp_move rfl (wanted_free rfl) _ rfl _ (hF 10 (hpre 10 (by kernel_rfl))) (hI.add (by decide) pmC_later (by decide) (Below.refl _ _) rfl)
          · have g11 := hF 11 (hpre 11 (by kernel_rfl))
            exact wpOp_load rfl (wanted_by (d := 55) rfl _ rfl rfl g11) _ _ rfl _ _ (hI.same 11 (by decide)) (run_lA wx ga _ _ _ (cell_later hI.below ca0.out) (cell_later hI.below ca1.out) (cell_later hI.below ca2.out)) (hI.add (by decide) pmC_later (by decide) (Below.refl _ _) rfl)
          · have g11 := hF 11 (hpre 11 (by kernel_rfl))
            exact wpOp_move rfl (wanted_by (d := 55) rfl _ rfl rfl g11) _ rfl _ (hI.same 2 (by decide)) (hI.add (by decide) pmC_later (by decide) (Below.refl _ _) rfl)
          · have g11 := hF 11 (hpre 11 (by kernel_rfl))
            exact wpOp_move rfl (wanted_by (d := 55) rfl _ rfl rfl g11) _ rfl _ (hI.same 13 (by decide)) (hI.add (by decide) pmC_later (by decide) (Below.refl _ _) rfl)
          · have g11 := hF 11 (hpre 11 (by kernel_rfl))
            exact wpOp_move rfl (wanted_by (d := 55) rfl _ rfl rfl g11) _ rfl _ (hI.same 4 (by decide)) (hI.add (by decide) pmC_later (by decide) (Below.refl _ _) rfl)
          · have g11 := hF 11 (hpre 11 (by kernel_rfl))
            exact wpOp_call4 rfl (wanted_by (d := 55) rfl _ rfl rfl g11) 16 _ _ _ _ _ rfl _ _ _ _ (hF 12 (hpre 12 (by kernel_rfl))) (hF 13 (hpre 13 (by kernel_rfl))) (hF 14 (hpre 14 (by kernel_rfl))) (hF 15 (hpre 15 (by kernel_rfl))) (enters_lets _ _) (hLk.out wx hI.below) (fun e w' h => ⟨_, h.1, hI.add (by decide) pmC_later (by decide) h.2 rfl⟩)
          · have g11 := hF 11 (hpre 11 (by kernel_rfl))
            exact wpOp_move rfl (wanted_by (d := 55) rfl _ rfl rfl g11) _ rfl _ (hF 16 (hpre 16 (by kernel_rfl))) (hI.add (by decide) pmC_later (by decide) (Below.refl _ _) rfl)
          · have g17 := hF 17 (hpre 17 (by kernel_rfl))
            exact wpOp_idle rfl (wanted_off (d := 61) rfl _ rfl rfl g17 (by simp)) (hI.add (by decide) pmC_later (by decide) (Below.refl _ _) rfl)
          · have g17 := hF 17 (hpre 17 (by kernel_rfl))
            exact wpOp_idle rfl (wanted_off (d := 61) rfl _ rfl rfl g17 (by simp)) (hI.add (by decide) pmC_later (by decide) (Below.refl _ _) rfl)
          · have g17 := hF 17 (hpre 17 (by kernel_rfl))
            exact wpOp_idle rfl (wanted_off (d := 61) rfl _ rfl rfl g17 (by simp)) (hI.add (by decide) pmC_later (by decide) (Below.refl _ _) rfl)
          · have g17 := hF 17 (hpre 17 (by kernel_rfl))
            exact wpOp_idle rfl (wanted_off (d := 61) rfl _ rfl rfl g17 (by simp)) (hI.add (by decide) pmC_later (by decide) (Below.refl _ _) rfl)
          · have g17 := hF 17 (hpre 17 (by kernel_rfl))
            exact wpOp_idle rfl (wanted_off (d := 61) rfl _ rfl rfl g17 (by simp)) (hI.add (by decide) pmC_later (by decide) (Below.refl _ _) rfl)
          · have g17 := hF 17 (hpre 17 (by kernel_rfl))
            exact wpOp_idle rfl (wanted_off (d := 61) rfl _ rfl rfl g17 (by simp)) (hI.add (by decide) pmC_later (by decide) (Below.refl _ _) rfl)
          · have g23 := hF 23 (hpre 23 (by kernel_rfl))
            exact wpOp_idle rfl (wanted_off (d := 67) rfl _ rfl rfl g23 (by simp [undef])) (hI.add (by decide) pmC_later (by decide) (Below.refl _ _) rfl)
          · have g23 := hF 23 (hpre 23 (by kernel_rfl))
            exact wpOp_idle rfl (wanted_off (d := 67) rfl _ rfl rfl g23 (by simp [undef])) (hI.add (by decide) pmC_later (by decide) (Below.refl _ _) rfl)
          · have g23 := hF 23 (hpre 23 (by kernel_rfl))
            exact wpOp_idle rfl (wanted_off (d := 67) rfl _ rfl rfl g23 (by simp [undef])) (hI.add (by decide) pmC_later (by decide) (Below.refl _ _) rfl)
          · have g23 := hF 23 (hpre 23 (by kernel_rfl))
            exact wpOp_idle rfl (wanted_off (d := 67) rfl _ rfl rfl g23 (by simp [undef])) (hI.add (by decide) pmC_later (by decide) (Below.refl _ _) rfl)
          · have g27 := hF 27 (hpre 27 (by kernel_rfl))
            exact wpOp_idle rfl (wanted_off (d := 71) rfl _ rfl rfl g27 (by simp [undef])) (hI.add (by decide) pmC_later (by decide) (Below.refl _ _) rfl)
          · have g27 := hF 27 (hpre 27 (by kernel_rfl))
            exact wpOp_idle rfl (wanted_off (d := 71) rfl _ rfl rfl g27 (by simp [undef])) (hI.add (by decide) pmC_later (by decide) (Below.refl _ _) rfl)
          · have g27 := hF 27 (hpre 27 (by kernel_rfl))
            exact wpOp_idle rfl (wanted_off (d := 71) rfl _ rfl rfl g27 (by simp [undef])) (hI.add (by decide) pmC_later (by decide) (Below.refl _ _) rfl)
          · have g27 := hF 27 (hpre 27 (by kernel_rfl))
            exact wpOp_idle rfl (wanted_off (d := 71) rfl _ rfl rfl g27 (by simp [undef])) (hI.add (by decide) pmC_later (by decide) (Below.refl _ _) rfl)
          · have g27 := hF 27 (hpre 27 (by kernel_rfl))
            exact wpOp_idle rfl (wanted_off (d := 71) rfl _ rfl rfl g27 (by simp [undef])) (hI.add (by decide) pmC_later (by decide) (Below.refl _ _) rfl)
          · have g27 := hF 27 (hpre 27 (by kernel_rfl))
            exact wpOp_idle rfl (wanted_off (d := 71) rfl _ rfl rfl g27 (by simp [undef])) (hI.add (by decide) pmC_later (by decide) (Below.refl _ _) rfl)
          · have g27 := hF 27 (hpre 27 (by kernel_rfl))
            exact wpOp_idle rfl (wanted_off (d := 71) rfl _ rfl rfl g27 (by simp [undef])) (hI.add (by decide) pmC_later (by decide) (Below.refl _ _) rfl)
          · have g23 := hF 23 (hpre 23 (by kernel_rfl))
            exact wpOp_idle rfl (wanted_off (d := 67) rfl _ rfl rfl g23 (by simp [undef])) (hI.add (by decide) pmC_later (by decide) (Below.refl _ _) rfl)
          · have g17 := hF 17 (hpre 17 (by kernel_rfl))
            exact wpOp_idle rfl (wanted_off (d := 61) rfl _ rfl rfl g17 (by simp)) (hI.add (by decide) pmC_later (by decide) (Below.refl _ _) rfl)
          · have g11 := hF 11 (hpre 11 (by kernel_rfl))
            exact wpOp_pick rfl (wanted_by (d := 55) rfl _ rfl rfl g11) _ _ _ rfl false (hF 17 (hpre 17 (by kernel_rfl))) _ rfl (hI.add (by decide) pmC_later (by decide) (Below.refl _ _) rfl)
          · exact wpOp_pick rfl (wanted_free rfl) _ _ _ rfl false (hF 11 (hpre 11 (by kernel_rfl))) _ (hF 37 (hpre 37 (by kernel_rfl))) (hI.add (by decide) pmC_later (by decide) (Below.refl _ _) rfl)
        · intro D a wx hI hall
          have hB := Lib.hid hI.below
          obtain ⟨fs, rfl, hfs⟩ := hI.done (by decide) rfl (fun i hi => hall i hi)
          have h82 : fs 82 = .bool false := hfs 38 (by decide)
          clear hI hall hfs
          simp only [putAll, List.map_cons, List.map_nil, Act.put, List.setIfInBounds_toArray, List.set_cons_zero, List.set_cons_succ]
          rw [h82]
          clear h82
          generalize fs 44 = y44
          generalize fs 45 = y45
          generalize fs 46 = y46
          generalize fs 47 = y47
          generalize fs 48 = y48
          generalize fs 49 = y49
          generalize fs 50 = y50
          generalize fs 51 = y51
          generalize fs 52 = y52
          generalize fs 53 = y53
          generalize fs 54 = y54
          generalize fs 55 = y55
          generalize fs 56 = y56
          generalize fs 57 = y57
          generalize fs 58 = y58
          generalize fs 59 = y59
          generalize fs 60 = y60
          generalize fs 61 = y61
          generalize fs 62 = y62
          generalize fs 63 = y63
          generalize fs 64 = y64
          generalize fs 65 = y65
          generalize fs 66 = y66
          generalize fs 67 = y67
          generalize fs 68 = y68
          generalize fs 69 = y69
          generalize fs 70 = y70
          generalize fs 71 = y71
          generalize fs 72 = y72
          generalize fs 73 = y73
          generalize fs 74 = y74
          generalize fs 75 = y75
          generalize fs 76 = y76
          generalize fs 77 = y77
          generalize fs 78 = y78
          generalize fs 79 = y79
          generalize fs 80 = y80
          generalize fs 81 = y81
          try clear hnn
          have Bx := Lib.hid (below_then B4.out hB.out)
          have cx0 := cell_later hB.out ca0.out
          have cx1 := cell_later hB.out ca1.out
          have cx2 := cell_later hB.out ca2.out
          have hAw := Lib.hid (awake14_any wx (hLim.out.later Bx.out))
          cases hnb : needs m l3 with
          | true =>
            have hN := Lib.hid hNd.out
            rw [hnb] at hN
            clear hnb
            go_wp2_with (first
              | (go_at_call 6; (with_reducible refine hAw.out.mono ?_); rintro e w5 ⟨rfl, hb5⟩; have B5 := Lib.hid (below_then Bx.out hb5); have k0 := cell_later hb5 cx0; have k1 := cell_later hb5 cx1; have k2 := cell_later hb5 cx2)
              | (go_at_call 8; (with_reducible refine (hfew3.out _ B5.out).mono ?_); rintro e wf ⟨rfl, hw⟩; subst hw)
              | (go_at_call 7; (with_reducible refine (hN.out _ B5.out).mono ?_); rintro e w6 ⟨rfl, hb6⟩; have B6 := Lib.hid (below_then B5.out hb6); have j2 := cell_later hb6 k2))
            go_ret
            exact ⟨ret_bool (by simp; omega), B6.out⟩
          | false =>
            have hN := Lib.hid hNd.out
            rw [hnb] at hN
            have hLf := Lib.hid (fun W (hb : Below wx.heap.size wx W) => hLk.out W (below_then hB.out hb))
            rw [hyes.out hnb] at hLf
            clear hnb
            go_wp2_with (first
              | (go_at_call 6; (with_reducible refine hAw.out.mono ?_); rintro e w5 ⟨rfl, hb5⟩; have B5 := Lib.hid (below_then Bx.out hb5); have k0 := cell_later hb5 cx0; have k1 := cell_later hb5 cx1; have k2 := cell_later hb5 cx2)
              | (go_at_call 8; (with_reducible refine (hfew3.out _ B5.out).mono ?_); rintro e wf ⟨rfl, hw⟩; subst hw)
              | (go_at_call 7; (with_reducible refine (hN.out _ B5.out).mono ?_); rintro e w6 ⟨rfl, hb6⟩; have hb56 := Lib.hid (below_then hb5 hb6); have B6 := Lib.hid (below_then B5.out hb6); have j0 := cell_later hb6 k0; have j1 := cell_later hb6 k1; have j2 := cell_later hb6 k2)
              | (go_at_call 16; (with_reducible refine (hLf.out _ hb56.out).mono ?_); rintro e w7 ⟨rfl, hb7⟩; have B7 := Lib.hid (below_then B6.out hb7); have i2 := cell_later hb7 j2))
            go_ret
            exact ⟨ret_bool (by simp; omega), B7.out⟩
    | false =>
      rw [e3] at hL3
      clear e3 h31
      cases ek : lets (ms.map mk) (hs.map mk) m ((uns l3).map mk) k with
      | true =>
        rw [ek] at hLk hyes
        rw [hk0.out ek] at hL0
        by_cases hnn : 0 < nn
        · have hLd := Lib.hid (fun W (hb : Below w4.heap.size w4 W) => hL.out _ _ _ _ k W hb ((SN.out.later hb).backAny (k := 1) (by omega)))
          rw [hkd.out ek] at hLd
          clear ek hkd hk0 hL
          refine wp_region_each (RInv 107 [44, 45, 46, 47, 48, 49, 50, 51, 52, 53, 54, 55, 56, 57, 58, 59, 60, 61, 62, 63, 64, 65, 66, 67, 68, 69, 70, 71, 72, 73, 74, 75, 76, 77, 78, 79, 80, 81, 82] _ (pmD A1 B1 An n1 c1 m1 d1 nn cn (ag : Int) m k) w4 NoMore) (by kernel_rfl) (by kernel_rfl) (RInv.start rfl trivial (Below.refl _ _).drew) ?_ ?_
          · intro i hi D a wx hI hcl hnd hpre
            have hi' : i < 39 := hi
            have hcase : i = 0 ∨ i = 1 ∨ i = 2 ∨ i = 3 ∨ i = 4 ∨ i = 5 ∨ i = 6 ∨ i = 7 ∨ i = 8 ∨ i = 9 ∨ i = 10 ∨ i = 11 ∨ i = 12 ∨ i = 13 ∨ i = 14 ∨ i = 15 ∨ i = 16 ∨ i = 17 ∨ i = 18 ∨ i = 19 ∨ i = 20 ∨ i = 21 ∨ i = 22 ∨ i = 23 ∨ i = 24 ∨ i = 25 ∨ i = 26 ∨ i = 27 ∨ i = 28 ∨ i = 29 ∨ i = 30 ∨ i = 31 ∨ i = 32 ∨ i = 33 ∨ i = 34 ∨ i = 35 ∨ i = 36 ∨ i = 37 ∨ i = 38 := by omega
            have hF := hI.fact
            rcases hcase with rfl | rfl | rfl | rfl | rfl | rfl | rfl | rfl | rfl | rfl | rfl | rfl | rfl | rfl | rfl | rfl | rfl | rfl | rfl | rfl | rfl | rfl | rfl | rfl | rfl | rfl | rfl | rfl | rfl | rfl | rfl | rfl | rfl | rfl | rfl | rfl | rfl | rfl | rfl
            · exact wpOp_load rfl (wanted_free rfl) _ _ rfl _ _ (hI.same 11 (by decide)) (run_lA wx ga _ _ _ (cell_later hI.below ca0.out) (cell_later hI.below ca1.out) (cell_later hI.below ca2.out)) (hI.add (by decide) pmD_later (by decide) (Below.refl _ _) rfl)
            · exact wpOp_move rfl (wanted_free rfl) _ rfl _ (hI.same 2 (by decide)) (hI.add (by decide) pmD_later (by decide) (Below.refl _ _) rfl)
            · exact wpOp_move rfl (wanted_free rfl) _ rfl _ (hI.same 13 (by decide)) (hI.add (by decide) pmD_later (by decide) (Below.refl _ _) rfl)
            · exact wpOp_call4 rfl (wanted_free rfl) 16 _ _ _ _ _ rfl _ _ _ _ (hF 0 (hpre 0 (by kernel_rfl))) (hF 1 (hpre 1 (by kernel_rfl))) (hF 2 (hpre 2 (by kernel_rfl))) rfl (enters_lets _ _) (hL3.out wx hI.below) (fun e w' h => ⟨_, h.1, hI.add (by decide) pmD_later (by decide) h.2 rfl⟩)
            · exact wpOp_move rfl (wanted_free rfl) _ rfl _ (hF 3 (hpre 3 (by kernel_rfl))) (hI.add (by decide) pmD_later (by decide) (Below.refl _ _) rfl)
            · have g4 := hF 4 (hpre 4 (by kernel_rfl))
              exact wpOp_idle rfl (wanted_off (d := 48) rfl _ rfl rfl g4 (by simp)) (hI.add (by decide) pmD_later (by decide) (Below.refl _ _) rfl)
            · have g4 := hF 4 (hpre 4 (by kernel_rfl))
              exact wpOp_idle rfl (wanted_off (d := 48) rfl _ rfl rfl g4 (by simp)) (hI.add (by decide) pmD_later (by decide) (Below.refl _ _) rfl)
            · have g4 := hF 4 (hpre 4 (by kernel_rfl))
              exact wpOp_idle rfl (wanted_off (d := 48) rfl _ rfl rfl g4 (by simp)) (hI.add (by decide) pmD_later (by decide) (Below.refl _ _) rfl)
            · have g4 := hF 4 (hpre 4 (by kernel_rfl))
              exact wpOp_idle rfl (wanted_off (d := 48) rfl _ rfl rfl g4 (by simp)) (hI.add (by decide) pmD_later (by decide) (Below.refl _ _) rfl)
            · have g4 := hF 4 (hpre 4 (by kernel_rfl))
              exact wpOp_idle rfl (wanted_off (d := 48) rfl _ rfl rfl g4 (by simp)) (hI.add (by decide) pmD_later (by decide) (Below.refl _ _) rfl)
            · exact wpOp_pick rfl (wanted_free rfl) _ _ _ rfl false (hF 4 (hpre 4 (by kernel_rfl))) _ rfl (hI.add (by decide) pmD_later (by decide) (Below.refl _ _) rfl)
            · exact wpOp_move rfl (wanted_free rfl) _ rfl _ (hF 10 (hpre 10 (by kernel_rfl))) (hI.add (by decide) pmD_later (by decide) (Below.refl _ _) rfl)
            · have g11 := hF 11 (hpre 11 (by kernel_rfl))
              exact wpOp_load rfl (wanted_by (d := 55) rfl _ rfl rfl g11) _ _ rfl _ _ (hI.same 11 (by decide)) (run_lA wx ga _ _ _ (cell_later hI.below ca0.out) (cell_later hI.below ca1.out) (cell_later hI.below ca2.out)) (hI.add (by decide) pmD_later (by decide) (Below.refl _ _) rfl)
            · have g11 := hF 11 (hpre 11 (by kernel_rfl))
              exact wpOp_move rfl (wanted_by (d := 55) rfl _ rfl rfl g11) _ rfl _ (hI.same 2 (by decide)) (hI.add (by decide) pmD_later (by decide) (Below.refl _ _) rfl)
            · have g11 := hF 11 (hpre 11 (by kernel_rfl))
              exact wpOp_move rfl (wanted_by (d := 55) rfl _ rfl rfl g11) _ rfl _ (hI.same 13 (by decide)) (hI.add (by decide) pmD_later (by decide) (Below.refl _ _) rfl)
            · have g11 := hF 11 (hpre 11 (by kernel_rfl))
              exact wpOp_move rfl (wanted_by (d := 55) rfl _ rfl rfl g11) _ rfl _ (hI.same 4 (by decide)) (hI.add (by decide) pmD_later (by decide) (Below.refl _ _) rfl)
            · have g11 := hF 11 (hpre 11 (by kernel_rfl))
              exact wpOp_call4 rfl (wanted_by (d := 55) rfl _ rfl rfl g11) 16 _ _ _ _ _ rfl _ _ _ _ (hF 12 (hpre 12 (by kernel_rfl))) (hF 13 (hpre 13 (by kernel_rfl))) (hF 14 (hpre 14 (by kernel_rfl))) (hF 15 (hpre 15 (by kernel_rfl))) (enters_lets _ _) (hLk.out wx hI.below) (fun e w' h => ⟨_, h.1, hI.add (by decide) pmD_later (by decide) h.2 rfl⟩)
            · have g11 := hF 11 (hpre 11 (by kernel_rfl))
              exact wpOp_move rfl (wanted_by (d := 55) rfl _ rfl rfl g11) _ rfl _ (hF 16 (hpre 16 (by kernel_rfl))) (hI.add (by decide) pmD_later (by decide) (Below.refl _ _) rfl)
            · have g17 := hF 17 (hpre 17 (by kernel_rfl))
              exact wpOp_load rfl (wanted_by (d := 61) rfl _ rfl rfl g17) _ _ rfl _ _ (hI.same 11 (by decide)) (run_lA wx ga _ _ _ (cell_later hI.below ca0.out) (cell_later hI.below ca1.out) (cell_later hI.below ca2.out)) (hI.add (by decide) pmD_later (by decide) (Below.refl _ _) rfl)
            · have g17 := hF 17 (hpre 17 (by kernel_rfl))
              exact wpOp_move rfl (wanted_by (d := 61) rfl _ rfl rfl g17) _ rfl _ (hI.same 2 (by decide)) (hI.add (by decide) pmD_later (by decide) (Below.refl _ _) rfl)
            · have g17 := hF 17 (hpre 17 (by kernel_rfl))
              exact wpOp_move rfl (wanted_by (d := 61) rfl _ rfl rfl g17) _ rfl _ (hI.same 4 (by decide)) (hI.add (by decide) pmD_later (by decide) (Below.refl _ _) rfl)
            · have g17 := hF 17 (hpre 17 (by kernel_rfl))
              exact wpOp_call4 rfl (wanted_by (d := 61) rfl _ rfl rfl g17) 16 _ _ _ _ _ rfl _ _ _ _ (hF 18 (hpre 18 (by kernel_rfl))) (hF 19 (hpre 19 (by kernel_rfl))) rfl (hF 20 (hpre 20 (by kernel_rfl))) (enters_lets _ _) (hL0.out wx hI.below) (fun e w' h => ⟨_, h.1, hI.add (by decide) pmD_later (by decide) h.2 rfl⟩)
            · have g17 := hF 17 (hpre 17 (by kernel_rfl))
              exact wpOp_unary rfl (wanted_by (d := 61) rfl _ rfl rfl g17) _ _ _ rfl _ _ (hF 21 (hpre 21 (by kernel_rfl))) (run_not _ wx) (hI.add (by decide) pmD_later (by decide) (Below.refl _ _) rfl)
            · have g17 := hF 17 (hpre 17 (by kernel_rfl))
              exact wpOp_move rfl (wanted_by (d := 61) rfl _ rfl rfl g17) _ rfl _ (hF 22 (hpre 22 (by kernel_rfl))) (hI.add (by decide) pmD_later (by decide) (Below.refl _ _) rfl)
            · have g23 := hF 23 (hpre 23 (by kernel_rfl))
              exact wpOp_move rfl (wanted_by (d := 67) rfl _ rfl rfl g23) _ rfl _ (hI.same 13 (by decide)) (hI.add (by decide) pmD_later (by decide) (Below.refl _ _) rfl)
            · have g23 := hF 23 (hpre 23 (by kernel_rfl))
              exact wpOp_len rfl (wanted_by (d := 67) rfl _ rfl rfl g23) _ _ rfl _ Tryz.underlying31 _ _ _ (hF 24 (hpre 24 (by kernel_rfl))) (hI.add (by decide) pmD_later (by decide) (Below.refl _ _) rfl)
            · have g23 := hF 23 (hpre 23 (by kernel_rfl))
              exact wpOp_bin rfl (wanted_by (d := 67) rfl _ rfl rfl g23) _ _ _ _ _ rfl _ _ _ (hF 25 (hpre 25 (by kernel_rfl))) rfl (run_gtN _ _ nn hnn wx) (hI.add (by decide) pmD_later (by decide) (Below.refl _ _) rfl)
            · have g23 := hF 23 (hpre 23 (by kernel_rfl))
              exact wpOp_move rfl (wanted_by (d := 67) rfl _ rfl rfl g23) _ rfl _ (hF 26 (hpre 26 (by kernel_rfl))) (hI.add (by decide) pmD_later (by decide) (Below.refl _ _) rfl)
            · have g27 := hF 27 (hpre 27 (by kernel_rfl))
              exact wpOp_load rfl (wanted_by (d := 71) rfl _ rfl rfl g27) _ _ rfl _ _ (hI.same 11 (by decide)) (run_lA wx ga _ _ _ (cell_later hI.below ca0.out) (cell_later hI.below ca1.out) (cell_later hI.below ca2.out)) (hI.add (by decide) pmD_later (by decide) (Below.refl _ _) rfl)
            · have g27 := hF 27 (hpre 27 (by kernel_rfl))
              exact wpOp_move rfl (wanted_by (d := 71) rfl _ rfl rfl g27) _ rfl _ (hI.same 2 (by decide)) (hI.add (by decide) pmD_later (by decide) (Below.refl _ _) rfl)
            · have g27 := hF 27 (hpre 27 (by kernel_rfl))
              exact wpOp_move rfl (wanted_by (d := 71) rfl _ rfl rfl g27) _ rfl _ (hI.same 13 (by decide)) (hI.add (by decide) pmD_later (by decide) (Below.refl _ _) rfl)
            · have g27 := hF 27 (hpre 27 (by kernel_rfl))
              exact wpOp_slice rfl (wanted_by (d := 71) rfl _ rfl rfl g27) _ _ _ _ _ rfl _ _ (some (.int .i64 1)) Option.none Option.none (hF 30 (hpre 30 (by kernel_rfl))) rfl rfl rfl (run_backS wx An nn cn 1 hnn hncn) (hI.add (by decide) pmD_later (by decide) (Below.refl _ _) rfl)
            · have g27 := hF 27 (hpre 27 (by kernel_rfl))
              exact wpOp_move rfl (wanted_by (d := 71) rfl _ rfl rfl g27) _ rfl _ (hI.same 4 (by decide)) (hI.add (by decide) pmD_later (by decide) (Below.refl _ _) rfl)
            · have g27 := hF 27 (hpre 27 (by kernel_rfl))
              exact wpOp_call4 rfl (wanted_by (d := 71) rfl _ rfl rfl g27) 16 _ _ _ _ _ rfl _ _ _ _ (hF 28 (hpre 28 (by kernel_rfl))) (hF 29 (hpre 29 (by kernel_rfl))) (hF 31 (hpre 31 (by kernel_rfl))) (hF 32 (hpre 32 (by kernel_rfl))) (enters_lets _ _) (hLd.out wx hI.below) (fun e w' h => ⟨_, h.1, hI.add (by decide) pmD_later (by decide) h.2 rfl⟩)
            · have g27 := hF 27 (hpre 27 (by kernel_rfl))
              exact wpOp_unary rfl (wanted_by (d := 71) rfl _ rfl rfl g27) _ _ _ rfl _ _ (hF 33 (hpre 33 (by kernel_rfl))) (run_not _ wx) (hI.add (by decide) pmD_later (by decide) (Below.refl _ _) rfl)
            · have g23 := hF 23 (hpre 23 (by kernel_rfl))
              exact wpOp_pick rfl (wanted_by (d := 67) rfl _ rfl rfl g23) _ _ _ rfl true (hF 27 (hpre 27 (by kernel_rfl))) _ (hF 34 (hpre 34 (by kernel_rfl))) (hI.add (by decide) pmD_later (by decide) (Below.refl _ _) rfl)
            · have g17 := hF 17 (hpre 17 (by kernel_rfl))
              exact wpOp_pick rfl (wanted_by (d := 61) rfl _ rfl rfl g17) _ _ _ rfl false (hF 23 (hpre 23 (by kernel_rfl))) _ (hF 35 (hpre 35 (by kernel_rfl))) (hI.add (by decide) pmD_later (by decide) (Below.refl _ _) rfl)
            · have g11 := hF 11 (hpre 11 (by kernel_rfl))
              exact wpOp_pick rfl (wanted_by (d := 55) rfl _ rfl rfl g11) _ _ _ rfl true (hF 17 (hpre 17 (by kernel_rfl))) _ (hF 36 (hpre 36 (by kernel_rfl))) (hI.add (by decide) pmD_later (by decide) (Below.refl _ _) rfl)
            · exact wpOp_pick rfl (wanted_free rfl) _ _ _ rfl false (hF 11 (hpre 11 (by kernel_rfl))) _ (hF 37 (hpre 37 (by kernel_rfl))) (hI.add (by decide) pmD_later (by decide) (Below.refl _ _) rfl)
          · intro D a wx hI hall
            have hB := Lib.hid hI.below
            obtain ⟨fs, rfl, hfs⟩ := hI.done (by decide) rfl (fun i hi => hall i hi)
            have h82 : fs 82 = .bool false := hfs 38 (by decide)
            clear hI hall hfs
            simp only [putAll, List.map_cons, List.map_nil, Act.put, List.setIfInBounds_toArray, List.set_cons_zero, List.set_cons_succ]
            rw [h82]
            clear h82
            generalize fs 44 = y44
            generalize fs 45 = y45
            generalize fs 46 = y46
            generalize fs 47 = y47
            generalize fs 48 = y48
            generalize fs 49 = y49
            generalize fs 50 = y50
            generalize fs 51 = y51
            generalize fs 52 = y52
            generalize fs 53 = y53
            generalize fs 54 = y54
            generalize fs 55 = y55
            generalize fs 56 = y56
            generalize fs 57 = y57
            generalize fs 58 = y58
            generalize fs 59 = y59
            generalize fs 60 = y60
            generalize fs 61 = y61
            generalize fs 62 = y62
            generalize fs 63 = y63
            generalize fs 64 = y64
            generalize fs 65 = y65
            generalize fs 66 = y66
            generalize fs 67 = y67
            generalize fs 68 = y68
            generalize fs 69 = y69
            generalize fs 70 = y70
            generalize fs 71 = y71
            generalize fs 72 = y72
            generalize fs 73 = y73
            generalize fs 74 = y74
            generalize fs 75 = y75
            generalize fs 76 = y76
            generalize fs 77 = y77
            generalize fs 78 = y78
            generalize fs 79 = y79
            generalize fs 80 = y80
            generalize fs 81 = y81
            try clear hnn
            have Bx := Lib.hid (below_then B4.out hB.out)
            have cx0 := cell_later hB.out ca0.out
            have cx1 := cell_later hB.out ca1.out
            have cx2 := cell_later hB.out ca2.out
            have hAw := Lib.hid (awake14_any wx (hLim.out.later Bx.out))
            cases hnb : needs m l3 with
            | true =>
              have hN := Lib.hid hNd.out
              rw [hnb] at hN
              clear hnb
              go_wp2_with (first
                | (go_at_call 6; (with_reducible refine hAw.out.mono ?_); rintro e w5 ⟨rfl, hb5⟩; have B5 := Lib.hid (below_then Bx.out hb5); have k0 := cell_later hb5 cx0; have k1 := cell_later hb5 cx1; have k2 := cell_later hb5 cx2)
                | (go_at_call 8; (with_reducible refine (hfew3.out _ B5.out).mono ?_); rintro e wf ⟨rfl, hw⟩; subst hw)
                | (go_at_call 7; (with_reducible refine (hN.out _ B5.out).mono ?_); rintro e w6 ⟨rfl, hb6⟩; have B6 := Lib.hid (below_then B5.out hb6); have j2 := cell_later hb6 k2))
              go_ret
              exact ⟨ret_bool (by simp; omega), B6.out⟩
            | false =>
              have hN := Lib.hid hNd.out
              rw [hnb] at hN
              have hLf := Lib.hid (fun W (hb : Below wx.heap.size wx W) => hLk.out W (below_then hB.out hb))
              rw [hyes.out hnb] at hLf
              clear hnb
              go_wp2_with (first
                | (go_at_call 6; (with_reducible refine hAw.out.mono ?_); rintro e w5 ⟨rfl, hb5⟩; have B5 := Lib.hid (below_then Bx.out hb5); have k0 := cell_later hb5 cx0; have k1 := cell_later hb5 cx1; have k2 := cell_later hb5 cx2)
                | (go_at_call 8; (with_reducible refine (hfew3.out _ B5.out).mono ?_); rintro e wf ⟨rfl, hw⟩; subst hw)
                | (go_at_call 7; (with_reducible refine (hN.out _ B5.out).mono ?_); rintro e w6 ⟨rfl, hb6⟩; have hb56 := Lib.hid (below_then hb5 hb6); have B6 := Lib.hid (below_then B5.out hb6); have j0 := cell_later hb6 k0; have j1 := cell_later hb6 k1; have j2 := cell_later hb6 k2)
                | (go_at_call 16; (with_reducible refine (hLf.out _ hb56.out).mono ?_); rintro e w7 ⟨rfl, hb7⟩; have B7 := Lib.hid (below_then B6.out hb7); have i2 := cell_later hb7 j2))
              go_ret
              exact ⟨ret_bool (by simp; omega), B7.out⟩
        · replace hnn : nn = 0 := by omega
          clear ek hkd hk0 hL
          refine wp_region_each (RInv 107 [44, 45, 46, 47, 48, 49, 50, 51, 52, 53, 54, 55, 56, 57, 58, 59, 60, 61, 62, 63, 64, 65, 66, 67, 68, 69, 70, 71, 72, 73, 74, 75, 76, 77, 78, 79, 80, 81, 82] _ (pmE A1 B1 An n1 c1 m1 d1 nn cn (ag : Int) m k) w4 NoMore) (by kernel_rfl) (by kernel_rfl) (RInv.start rfl trivial (Below.refl _ _).drew) ?_ ?_
          · intro i hi D a wx hI hcl hnd hpre
            have hi' : i < 39 := hi
            have hcase : i = 0 ∨ i = 1 ∨ i = 2 ∨ i = 3 ∨ i = 4 ∨ i = 5 ∨ i = 6 ∨ i = 7 ∨ i = 8 ∨ i = 9 ∨ i = 10 ∨ i = 11 ∨ i = 12 ∨ i = 13 ∨ i = 14 ∨ i = 15 ∨ i = 16 ∨ i = 17 ∨ i = 18 ∨ i = 19 ∨ i = 20 ∨ i = 21 ∨ i = 22 ∨ i = 23 ∨ i = 24 ∨ i = 25 ∨ i = 26 ∨ i = 27 ∨ i = 28 ∨ i = 29 ∨ i = 30 ∨ i = 31 ∨ i = 32 ∨ i = 33 ∨ i = 34 ∨ i = 35 ∨ i = 36 ∨ i = 37 ∨ i = 38 := by omega
            have hF := hI.fact
            rcases hcase with rfl | rfl | rfl | rfl | rfl | rfl | rfl | rfl | rfl | rfl | rfl | rfl | rfl | rfl | rfl | rfl | rfl | rfl | rfl | rfl | rfl | rfl | rfl | rfl | rfl | rfl | rfl | rfl | rfl | rfl | rfl | rfl | rfl | rfl | rfl | rfl | rfl | rfl | rfl
            · exact wpOp_load rfl (wanted_free rfl) _ _ rfl _ _ (hI.same 11 (by decide)) (run_lA wx ga _ _ _ (cell_later hI.below ca0.out) (cell_later hI.below ca1.out) (cell_later hI.below ca2.out)) (hI.add (by decide) pmE_later (by decide) (Below.refl _ _) rfl)
            · exact wpOp_move rfl (wanted_free rfl) _ rfl _ (hI.same 2 (by decide)) (hI.add (by decide) pmE_later (by decide) (Below.refl _ _) rfl)
            · exact wpOp_move rfl (wanted_free rfl) _ rfl _ (hI.same 13 (by decide)) (hI.add (by decide) pmE_later (by decide) (Below.refl _ _) rfl)
            · exact wpOp_call4 rfl (wanted_free rfl) 16 _ _ _ _ _ rfl _ _ _ _ (hF 0 (hpre 0 (by kernel_rfl))) (hF 1 (hpre 1 (by kernel_rfl))) (hF 2 (hpre 2 (by kernel_rfl))) rfl (enters_lets _ _) (hL3.out wx hI.below) (fun e w' h => ⟨_, h.1, hI.add (by decide) pmE_later (by decide) h.2 rfl⟩)
            · exact wpOp_move rfl (wanted_free rfl) _ rfl _ (hF 3 (hpre 3 (by kernel_rfl))) (hI.add (by decide) pmE_later (by decide) (Below.refl _ _) rfl)
            · have g4 := hF 4 (hpre 4 (by kernel_rfl))
              exact wpOp_idle rfl (wanted_off (d := 48) rfl _ rfl rfl g4 (by simp)) (hI.add (by decide) pmE_later (by decide) (Below.refl _ _) rfl)
            · have g4 := hF 4 (hpre 4 (by kernel_rfl))
              exact wpOp_idle rfl (wanted_off (d := 48) rfl _ rfl rfl g4 (by simp)) (hI.add (by decide) pmE_later (by decide) (Below.refl _ _) rfl)
            · have g4 := hF 4 (hpre 4 (by kernel_rfl))
              exact wpOp_idle rfl (wanted_off (d := 48) rfl _ rfl rfl g4 (by simp)) (hI.add (by decide) pmE_later (by decide) (Below.refl _ _) rfl)
            · have g4 := hF 4 (hpre 4 (by kernel_rfl))
              exact wpOp_idle rfl (wanted_off (d := 48) rfl _ rfl rfl g4 (by simp)) (hI.add (by decide) pmE_later (by decide) (Below.refl _ _) rfl)
            · have g4 := hF 4 (hpre 4 (by kernel_rfl))
              exact wpOp_idle rfl (wanted_off (d := 48) rfl _ rfl rfl g4 (by simp)) (hI.add (by decide) pmE_later (by decide) (Below.refl _ _) rfl)
            · exact wpOp_pick rfl (wanted_free rfl) _ _ _ rfl false (hF 4 (hpre 4 (by kernel_rfl))) _ rfl (hI.add (by decide) pmE_later (by decide) (Below.refl _ _) rfl)
            · exact wpOp_move rfl (wanted_free rfl) _ rfl _ (hF 10 (hpre 10 (by kernel_rfl))) (hI.add (by decide) pmE_later (by decide) (Below.refl _ _) rfl)
            · have g11 := hF 11 (hpre 11 (by kernel_rfl))
              exact wpOp_load rfl (wanted_by (d := 55) rfl _ rfl rfl g11) _ _ rfl _ _ (hI.same 11 (by decide)) (run_lA wx ga _ _ _ (cell_later hI.below ca0.out) (cell_later hI.below ca1.out) (cell_later hI.below ca2.out)) (hI.add (by decide) pmE_later (by decide) (Below.refl _ _) rfl)
            · have g11 := hF 11 (hpre 11 (by kernel_rfl))
              exact wpOp_move rfl (wanted_by (d := 55) rfl _ rfl rfl g11) _ rfl _ (hI.same 2 (by decide)) (hI.add (by decide) pmE_later (by decide) (Below.refl _ _) rfl)
            · have g11 := hF 11 (hpre 11 (by kernel_rfl))
              exact wpOp_move rfl (wanted_by (d := 55) rfl _ rfl rfl g11) _ rfl _ (hI.same 13 (by decide)) (hI.add (by decide) pmE_later (by decide) (Below.refl _ _) rfl)
            · have g11 := hF 11 (hpre 11 (by kernel_rfl))
              exact wpOp_move rfl (wanted_by (d := 55) rfl _ rfl rfl g11) _ rfl _ (hI.same 4 (by decide)) (hI.add (by decide) pmE_later (by decide) (Below.refl _ _) rfl)
            · have g11 := hF 11 (hpre 11 (by kernel_rfl))
              exact wpOp_call4 rfl (wanted_by (d := 55) rfl _ rfl rfl g11) 16 _ _ _ _ _ rfl _ _ _ _ (hF 12 (hpre 12 (by kernel_rfl))) (hF 13 (hpre 13 (by kernel_rfl))) (hF 14 (hpre 14 (by kernel_rfl))) (hF 15 (hpre 15 (by kernel_rfl))) (enters_lets _ _) (hLk.out wx hI.below) (fun e w' h => ⟨_, h.1, hI.add (by decide) pmE_later (by decide) h.2 rfl⟩)
            · have g11 := hF 11 (hpre 11 (by kernel_rfl))
              exact wpOp_move rfl (wanted_by (d := 55) rfl _ rfl rfl g11) _ rfl _ (hF 16 (hpre 16 (by kernel_rfl))) (hI.add (by decide) pmE_later (by decide) (Below.refl _ _) rfl)
            · have g17 := hF 17 (hpre 17 (by kernel_rfl))
              exact wpOp_load rfl (wanted_by (d := 61) rfl _ rfl rfl g17) _ _ rfl _ _ (hI.same 11 (by decide)) (run_lA wx ga _ _ _ (cell_later hI.below ca0.out) (cell_later hI.below ca1.out) (cell_later hI.below ca2.out)) (hI.add (by decide) pmE_later (by decide) (Below.refl _ _) rfl)
            · have g17 := hF 17 (hpre 17 (by kernel_rfl))
              exact wpOp_move rfl (wanted_by (d := 61) rfl _ rfl rfl g17) _ rfl _ (hI.same 2 (by decide)) (hI.add (by decide) pmE_later (by decide) (Below.refl _ _) rfl)
            · have g17 := hF 17 (hpre 17 (by kernel_rfl))
              exact wpOp_move rfl (wanted_by (d := 61) rfl _ rfl rfl g17) _ rfl _ (hI.same 4 (by decide)) (hI.add (by decide) pmE_later (by decide) (Below.refl _ _) rfl)
            · have g17 := hF 17 (hpre 17 (by kernel_rfl))
              exact wpOp_call4 rfl (wanted_by (d := 61) rfl _ rfl rfl g17) 16 _ _ _ _ _ rfl _ _ _ _ (hF 18 (hpre 18 (by kernel_rfl))) (hF 19 (hpre 19 (by kernel_rfl))) rfl (hF 20 (hpre 20 (by kernel_rfl))) (enters_lets _ _) (hL0.out wx hI.below) (fun e w' h => ⟨_, h.1, hI.add (by decide) pmE_later (by decide) h.2 rfl⟩)
            · have g17 := hF 17 (hpre 17 (by kernel_rfl))
              exact wpOp_unary rfl (wanted_by (d := 61) rfl _ rfl rfl g17) _ _ _ rfl _ _ (hF 21 (hpre 21 (by kernel_rfl))) (run_not _ wx) (hI.add (by decide) pmE_later (by decide) (Below.refl _ _) rfl)
            · have g17 := hF 17 (hpre 17 (by kernel_rfl))
              exact wpOp_move rfl (wanted_by (d := 61) rfl _ rfl rfl g17) _ rfl _ (hF 22 (hpre 22 (by kernel_rfl))) (hI.add (by decide) pmE_later (by decide) (Below.refl _ _) rfl)
            · have g23 := hF 23 (hpre 23 (by kernel_rfl))
              exact wpOp_move rfl (wanted_by (d := 67) rfl _ rfl rfl g23) _ rfl _ (hI.same 13 (by decide)) (hI.add (by decide) pmE_later (by decide) (Below.refl _ _) rfl)
            · have g23 := hF 23 (hpre 23 (by kernel_rfl))
              exact wpOp_len rfl (wanted_by (d := 67) rfl _ rfl rfl g23) _ _ rfl _ Tryz.underlying31 _ _ _ (hF 24 (hpre 24 (by kernel_rfl))) (hI.add (by decide) pmE_later (by decide) (Below.refl _ _) rfl)
            · have g23 := hF 23 (hpre 23 (by kernel_rfl))
              exact wpOp_bin rfl (wanted_by (d := 67) rfl _ rfl rfl g23) _ _ _ _ _ rfl _ _ _ (hF 25 (hpre 25 (by kernel_rfl))) rfl (run_gtZ _ _ nn hnn wx) (hI.add (by decide) pmE_later (by decide) (Below.refl _ _) rfl)
            · have g23 := hF 23 (hpre 23 (by kernel_rfl))
              exact wpOp_move rfl (wanted_by (d := 67) rfl _ rfl rfl g23) _ rfl _ (hF 26 (hpre 26 (by kernel_rfl))) (hI.add (by decide) pmE_later (by decide) (Below.refl _ _) rfl)
            · have g27 := hF 27 (hpre 27 (by kernel_rfl))
              exact wpOp_idle rfl (wanted_off (d := 71) rfl _ rfl rfl g27 (by simp)) (hI.add (by decide) pmE_later (by decide) (Below.refl _ _) rfl)
            · have g27 := hF 27 (hpre 27 (by kernel_rfl))
              exact wpOp_idle rfl (wanted_off (d := 71) rfl _ rfl rfl g27 (by simp)) (hI.add (by decide) pmE_later (by decide) (Below.refl _ _) rfl)
            · have g27 := hF 27 (hpre 27 (by kernel_rfl))
              exact wpOp_idle rfl (wanted_off (d := 71) rfl _ rfl rfl g27 (by simp)) (hI.add (by decide) pmE_later (by decide) (Below.refl _ _) rfl)
            · have g27 := hF 27 (hpre 27 (by kernel_rfl))
              exact wpOp_idle rfl (wanted_off (d := 71) rfl _ rfl rfl g27 (by simp)) (hI.add (by decide) pmE_later (by decide) (Below.refl _ _) rfl)
            · have g27 := hF 27 (hpre 27 (by kernel_rfl))
              exact wpOp_idle rfl (wanted_off (d := 71) rfl _ rfl rfl g27 (by simp)) (hI.add (by decide) pmE_later (by decide) (Below.refl _ _) rfl)
            · have g27 := hF 27 (hpre 27 (by kernel_rfl))
              exact wpOp_idle rfl (wanted_off (d := 71) rfl _ rfl rfl g27 (by simp)) (hI.add (by decide) pmE_later (by decide) (Below.refl _ _) rfl)
            · have g27 := hF 27 (hpre 27 (by kernel_rfl))
              exact wpOp_idle rfl (wanted_off (d := 71) rfl _ rfl rfl g27 (by simp)) (hI.add (by decide) pmE_later (by decide) (Below.refl _ _) rfl)
            · have g23 := hF 23 (hpre 23 (by kernel_rfl))
              exact wpOp_pick rfl (wanted_by (d := 67) rfl _ rfl rfl g23) _ _ _ rfl false (hF 27 (hpre 27 (by kernel_rfl))) _ rfl (hI.add (by decide) pmE_later (by decide) (Below.refl _ _) rfl)
            · have g17 := hF 17 (hpre 17 (by kernel_rfl))
              exact wpOp_pick rfl (wanted_by (d := 61) rfl _ rfl rfl g17) _ _ _ rfl false (hF 23 (hpre 23 (by kernel_rfl))) _ (hF 35 (hpre 35 (by kernel_rfl))) (hI.add (by decide) pmE_later (by decide) (Below.refl _ _) rfl)
            · have g11 := hF 11 (hpre 11 (by kernel_rfl))
              exact wpOp_pick rfl (wanted_by (d := 55) rfl _ rfl rfl g11) _ _ _ rfl true (hF 17 (hpre 17 (by kernel_rfl))) _ (hF 36 (hpre 36 (by kernel_rfl))) (hI.add (by decide) pmE_later (by decide) (Below.refl _ _) rfl)
            · exact wpOp_pick rfl (wanted_free rfl) _ _ _ rfl false (hF 11 (hpre 11 (by kernel_rfl))) _ (hF 37 (hpre 37 (by kernel_rfl))) (hI.add (by decide) pmE_later (by decide) (Below.refl _ _) rfl)
          · intro D a wx hI hall
            have hB := Lib.hid hI.below
            obtain ⟨fs, rfl, hfs⟩ := hI.done (by decide) rfl (fun i hi => hall i hi)
            have h82 : fs 82 = .bool false := hfs 38 (by decide)
            clear hI hall hfs
            simp only [putAll, List.map_cons, List.map_nil, Act.put, List.setIfInBounds_toArray, List.set_cons_zero, List.set_cons_succ]
            rw [h82]
            clear h82
            generalize fs 44 = y44
            generalize fs 45 = y45
            generalize fs 46 = y46
            generalize fs 47 = y47
            generalize fs 48 = y48
            generalize fs 49 = y49
            generalize fs 50 = y50
            generalize fs 51 = y51
            generalize fs 52 = y52
            generalize fs 53 = y53
            generalize fs 54 = y54
            generalize fs 55 = y55
            generalize fs 56 = y56
            generalize fs 57 = y57
            generalize fs 58 = y58
            generalize fs 59 = y59
            generalize fs 60 = y60
            generalize fs 61 = y61
            generalize fs 62 = y62
            generalize fs 63 = y63
            generalize fs 64 = y64
            generalize fs 65 = y65
            generalize fs 66 = y66
            generalize fs 67 = y67
            generalize fs 68 = y68
            generalize fs 69 = y69
            generalize fs 70 = y70
            generalize fs 71 = y71
            generalize fs 72 = y72
            generalize fs 73 = y73
            generalize fs 74 = y74
            generalize fs 75 = y75
            generalize fs 76 = y76
            generalize fs 77 = y77
            generalize fs 78 = y78
            generalize fs 79 = y79
            generalize fs 80 = y80
            generalize fs 81 = y81
            try clear hnn
            have Bx := Lib.hid (below_then B4.out hB.out)
            have cx0 := cell_later hB.out ca0.out
            have cx1 := cell_later hB.out ca1.out
            have cx2 := cell_later hB.out ca2.out
            have hAw := Lib.hid (awake14_any wx (hLim.out.later Bx.out))
            cases hnb : needs m l3 with
            | true =>
              have hN := Lib.hid hNd.out
              rw [hnb] at hN
              clear hnb
              go_wp2_with (first
                | (go_at_call 6; (with_reducible refine hAw.out.mono ?_); rintro e w5 ⟨rfl, hb5⟩; have B5 := Lib.hid (below_then Bx.out hb5); have k0 := cell_later hb5 cx0; have k1 := cell_later hb5 cx1; have k2 := cell_later hb5 cx2)
                | (go_at_call 8; (with_reducible refine (hfew3.out _ B5.out).mono ?_); rintro e wf ⟨rfl, hw⟩; subst hw)
                | (go_at_call 7; (with_reducible refine (hN.out _ B5.out).mono ?_); rintro e w6 ⟨rfl, hb6⟩; have B6 := Lib.hid (below_then B5.out hb6); have j2 := cell_later hb6 k2))
              go_ret
              exact ⟨ret_bool (by simp; omega), B6.out⟩
            | false =>
              have hN := Lib.hid hNd.out
              rw [hnb] at hN
              have hLf := Lib.hid (fun W (hb : Below wx.heap.size wx W) => hLk.out W (below_then hB.out hb))
              rw [hyes.out hnb] at hLf
              clear hnb
              go_wp2_with (first
                | (go_at_call 6; (with_reducible refine hAw.out.mono ?_); rintro e w5 ⟨rfl, hb5⟩; have B5 := Lib.hid (below_then Bx.out hb5); have k0 := cell_later hb5 cx0; have k1 := cell_later hb5 cx1; have k2 := cell_later hb5 cx2)
                | (go_at_call 8; (with_reducible refine (hfew3.out _ B5.out).mono ?_); rintro e wf ⟨rfl, hw⟩; subst hw)
                | (go_at_call 7; (with_reducible refine (hN.out _ B5.out).mono ?_); rintro e w6 ⟨rfl, hb6⟩; have hb56 := Lib.hid (below_then hb5 hb6); have B6 := Lib.hid (below_then B5.out hb6); have j0 := cell_later hb6 k0; have j1 := cell_later hb6 k1; have j2 := cell_later hb6 k2)
                | (go_at_call 16; (with_reducible refine (hLf.out _ hb56.out).mono ?_); rintro e w7 ⟨rfl, hb7⟩; have B7 := Lib.hid (below_then B6.out hb7); have i2 := cell_later hb7 j2))
              go_ret
              exact ⟨ret_bool (by simp; omega), B7.out⟩
      | false =>
        rw [ek] at hLk hyes
        clear ek hkd hk0 hL
        refine wp_region_each (RInv 107 [44, 45, 46, 47, 48, 49, 50, 51, 52, 53, 54, 55, 56, 57, 58, 59, 60, 61, 62, 63, 64, 65, 66, 67, 68, 69, 70, 71, 72, 73, 74, 75, 76, 77, 78, 79, 80, 81, 82] _ (pmF A1 B1 An n1 c1 m1 d1 nn cn (ag : Int) m k) w4 NoMore) (by kernel_rfl) (by kernel_rfl) (RInv.start rfl trivial (Below.refl _ _).drew) ?_ ?_
        · intro i hi D a wx hI hcl hnd hpre
          have hi' : i < 39 := hi
          have hcase : i = 0 ∨ i = 1 ∨ i = 2 ∨ i = 3 ∨ i = 4 ∨ i = 5 ∨ i = 6 ∨ i = 7 ∨ i = 8 ∨ i = 9 ∨ i = 10 ∨ i = 11 ∨ i = 12 ∨ i = 13 ∨ i = 14 ∨ i = 15 ∨ i = 16 ∨ i = 17 ∨ i = 18 ∨ i = 19 ∨ i = 20 ∨ i = 21 ∨ i = 22 ∨ i = 23 ∨ i = 24 ∨ i = 25 ∨ i = 26 ∨ i = 27 ∨ i = 28 ∨ i = 29 ∨ i = 30 ∨ i = 31 ∨ i = 32 ∨ i = 33 ∨ i = 34 ∨ i = 35 ∨ i = 36 ∨ i = 37 ∨ i = 38 := by omega
          have hF := hI.fact
          rcases hcase with rfl | rfl | rfl | rfl | rfl | rfl | rfl | rfl | rfl | rfl | rfl | rfl | rfl | rfl | rfl | rfl | rfl | rfl | rfl | rfl | rfl | rfl | rfl | rfl | rfl | rfl | rfl | rfl | rfl | rfl | rfl | rfl | rfl | rfl | rfl | rfl | rfl | rfl | rfl
          · exact wpOp_load rfl (wanted_free rfl) _ _ rfl _ _ (hI.same 11 (by decide)) (run_lA wx ga _ _ _ (cell_later hI.below ca0.out) (cell_later hI.below ca1.out) (cell_later hI.below ca2.out)) (hI.add (by decide) pmF_later (by decide) (Below.refl _ _) rfl)
          · exact wpOp_move rfl (wanted_free rfl) _ rfl _ (hI.same 2 (by decide)) (hI.add (by decide) pmF_later (by decide) (Below.refl _ _) rfl)
          · exact wpOp_move rfl (wanted_free rfl) _ rfl _ (hI.same 13 (by decide)) (hI.add (by decide) pmF_later (by decide) (Below.refl _ _) rfl)
          · exact wpOp_call4 rfl (wanted_free rfl) 16 _ _ _ _ _ rfl _ _ _ _ (hF 0 (hpre 0 (by kernel_rfl))) (hF 1 (hpre 1 (by kernel_rfl))) (hF 2 (hpre 2 (by kernel_rfl))) rfl (enters_lets _ _) (hL3.out wx hI.below) (fun e w' h => ⟨_, h.1, hI.add (by decide) pmF_later (by decide) h.2 rfl⟩)
          · exact wpOp_move rfl (wanted_free rfl) _ rfl _ (hF 3 (hpre 3 (by kernel_rfl))) (hI.add (by decide) pmF_later (by decide) (Below.refl _ _) rfl)
          · have g4 := hF 4 (hpre 4 (by kernel_rfl))
            exact wpOp_idle rfl (wanted_off (d := 48) rfl _ rfl rfl g4 (by simp)) (hI.add (by decide) pmF_later (by decide) (Below.refl _ _) rfl)
          · have g4 := hF 4 (hpre 4 (by kernel_rfl))
            exact wpOp_idle rfl (wanted_off (d := 48) rfl _ rfl rfl g4 (by simp)) (hI.add (by decide) pmF_later (by decide) (Below.refl _ _) rfl)
          · have g4 := hF 4 (hpre 4 (by kernel_rfl))
            exact wpOp_idle rfl (wanted_off (d := 48) rfl _ rfl rfl g4 (by simp)) (hI.add (by decide) pmF_later (by decide) (Below.refl _ _) rfl)
          · have g4 := hF 4 (hpre 4 (by kernel_rfl))
            exact wpOp_idle rfl (wanted_off (d := 48) rfl _ rfl rfl g4 (by simp)) (hI.add (by decide) pmF_later (by decide) (Below.refl _ _) rfl)
          · have g4 := hF 4 (hpre 4 (by kernel_rfl))
            exact wpOp_idle rfl (wanted_off (d := 48) rfl _ rfl rfl g4 (by simp)) (hI.add (by decide) pmF_later (by decide) (Below.refl _ _) rfl)
          · exact wpOp_pick rfl (wanted_free rfl) _ _ _ rfl false (hF 4 (hpre 4 (by kernel_rfl))) _ rfl (hI.add (by decide) pmF_later (by decide) (Below.refl _ _) rfl)
          · exact wpOp_move rfl (wanted_free rfl) _ rfl _ (hF 10 (hpre 10 (by kernel_rfl))) (hI.add (by decide) pmF_later (by decide) (Below.refl _ _) rfl)
          · have g11 := hF 11 (hpre 11 (by kernel_rfl))
            exact wpOp_load rfl (wanted_by (d := 55) rfl _ rfl rfl g11) _ _ rfl _ _ (hI.same 11 (by decide)) (run_lA wx ga _ _ _ (cell_later hI.below ca0.out) (cell_later hI.below ca1.out) (cell_later hI.below ca2.out)) (hI.add (by decide) pmF_later (by decide) (Below.refl _ _) rfl)
          · have g11 := hF 11 (hpre 11 (by kernel_rfl))
            exact wpOp_move rfl (wanted_by (d := 55) rfl _ rfl rfl g11) _ rfl _ (hI.same 2 (by decide)) (hI.add (by decide) pmF_later (by decide) (Below.refl _ _) rfl)
          · have g11 := hF 11 (hpre 11 (by kernel_rfl))
            exact wpOp_move rfl (wanted_by (d := 55) rfl _ rfl rfl g11) _ rfl _ (hI.same 13 (by decide)) (hI.add (by decide) pmF_later (by decide) (Below.refl _ _) rfl)
          · have g11 := hF 11 (hpre 11 (by kernel_rfl))
            exact wpOp_move rfl (wanted_by (d := 55) rfl _ rfl rfl g11) _ rfl _ (hI.same 4 (by decide)) (hI.add (by decide) pmF_later (by decide) (Below.refl _ _) rfl)
          · have g11 := hF 11 (hpre 11 (by kernel_rfl))
            exact wpOp_call4 rfl (wanted_by (d := 55) rfl _ rfl rfl g11) 16 _ _ _ _ _ rfl _ _ _ _ (hF 12 (hpre 12 (by kernel_rfl))) (hF 13 (hpre 13 (by kernel_rfl))) (hF 14 (hpre 14 (by kernel_rfl))) (hF 15 (hpre 15 (by kernel_rfl))) (enters_lets _ _) (hLk.out wx hI.below) (fun e w' h => ⟨_, h.1, hI.add (by decide) pmF_later (by decide) h.2 rfl⟩)
          · have g11 := hF 11 (hpre 11 (by kernel_rfl))
            exact wpOp_move rfl (wanted_by (d := 55) rfl _ rfl rfl g11) _ rfl _ (hF 16 (hpre 16 (by kernel_rfl))) (hI.add (by decide) pmF_later (by decide) (Below.refl _ _) rfl)
          · have g17 := hF 17 (hpre 17 (by kernel_rfl))
            exact wpOp_idle rfl (wanted_off (d := 61) rfl _ rfl rfl g17 (by simp)) (hI.add (by decide) pmF_later (by decide) (Below.refl _ _) rfl)
          · have g17 := hF 17 (hpre 17 (by kernel_rfl))
            exact wpOp_idle rfl (wanted_off (d := 61) rfl _ rfl rfl g17 (by simp)) (hI.add (by decide) pmF_later (by decide) (Below.refl _ _) rfl)
          · have g17 := hF 17 (hpre 17 (by kernel_rfl))
            exact wpOp_idle rfl (wanted_off (d := 61) rfl _ rfl rfl g17 (by simp)) (hI.add (by decide) pmF_later (by decide) (Below.refl _ _) rfl)
          · have g17 := hF 17 (hpre 17 (by kernel_rfl))
            exact wpOp_idle rfl (wanted_off (d := 61) rfl _ rfl rfl g17 (by simp)) (hI.add (by decide) pmF_later (by decide) (Below.refl _ _) rfl)
          · have g17 := hF 17 (hpre 17 (by kernel_rfl))
            exact wpOp_idle rfl (wanted_off (d := 61) rfl _ rfl rfl g17 (by simp)) (hI.add (by decide) pmF_later (by decide) (Below.refl _ _) rfl)
          · have g17 := hF 17 (hpre 17 (by kernel_rfl))
            exact wpOp_idle rfl (wanted_off (d := 61) rfl _ rfl rfl g17 (by simp)) (hI.add (by decide) pmF_later (by decide) (Below.refl _ _) rfl)
          · have g23 := hF 23 (hpre 23 (by kernel_rfl))
            exact wpOp_idle rfl (wanted_off (d := 67) rfl _ rfl rfl g23 (by simp [undef])) (hI.add (by decide) pmF_later (by decide) (Below.refl _ _) rfl)
          · have g23 := hF 23 (hpre 23 (by kernel_rfl))
            exact wpOp_idle rfl (wanted_off (d := 67) rfl _ rfl rfl g23 (by simp [undef])) (hI.add (by decide) pmF_later (by decide) (Below.refl _ _) rfl)
          · have g23 := hF 23 (hpre 23 (by kernel_rfl))
            exact wpOp_idle rfl (wanted_off (d := 67) rfl _ rfl rfl g23 (by simp [undef])) (hI.add (by decide) pmF_later (by decide) (Below.refl _ _) rfl)
          · have g23 := hF 23 (hpre 23 (by kernel_rfl))
            exact wpOp_idle rfl (wanted_off (d := 67) rfl _ rfl rfl g23 (by simp [undef])) (hI.add (by decide) pmF_later (by decide) (Below.refl _ _) rfl)
          · have g27 := hF 27 (hpre 27 (by kernel_rfl))
            exact wpOp_idle rfl (wanted_off (d := 71) rfl _ rfl rfl g27 (by simp [undef])) (hI.add (by decide) pmF_later (by decide) (Below.refl _ _) rfl)
          · have g27 := hF 27 (hpre 27 (by kernel_rfl))
            exact wpOp_idle rfl (wanted_off (d := 71) rfl _ rfl rfl g27 (by simp [undef])) (hI.add (by decide) pmF_later (by decide) (Below.refl _ _) rfl)
          · have g27 := hF 27 (hpre 27 (by kernel_rfl))
            exact wpOp_idle rfl (wanted_off (d := 71) rfl _ rfl rfl g27 (by simp [undef])) (hI.add (by decide) pmF_later (by decide) (Below.refl _ _) rfl)
          · have g27 := hF 27 (hpre 27 (by kernel_rfl))
            exact wpOp_idle rfl (wanted_off (d := 71) rfl _ rfl rfl g27 (by simp [undef])) (hI.add (by decide) pmF_later (by decide) (Below.refl _ _) rfl)
          · have g27 := hF 27 (hpre 27 (by kernel_rfl))
            exact wpOp_idle rfl (wanted_off (d := 71) rfl _ rfl rfl g27 (by simp [undef])) (hI.add (by decide) pmF_later (by decide) (Below.refl _ _) rfl)
          · have g27 := hF 27 (hpre 27 (by kernel_rfl))
            exact wpOp_idle rfl (wanted_off (d := 71) rfl _ rfl rfl g27 (by simp [undef])) (hI.add (by decide) pmF_later (by decide) (Below.refl _ _) rfl)
          · have g27 := hF 27 (hpre 27 (by kernel_rfl))
            exact wpOp_idle rfl (wanted_off (d := 71) rfl _ rfl rfl g27 (by simp [undef])) (hI.add (by decide) pmF_later (by decide) (Below.refl _ _) rfl)
          · have g23 := hF 23 (hpre 23 (by kernel_rfl))
            exact wpOp_idle rfl (wanted_off (d := 67) rfl _ rfl rfl g23 (by simp [undef])) (hI.add (by decide) pmF_later (by decide) (Below.refl _ _) rfl)
          · have g17 := hF 17 (hpre 17 (by kernel_rfl))
            exact wpOp_idle rfl (wanted_off (d := 61) rfl _ rfl rfl g17 (by simp)) (hI.add (by decide) pmF_later (by decide) (Below.refl _ _) rfl)
          · have g11 := hF 11 (hpre 11 (by kernel_rfl))
            exact wpOp_pick rfl (wanted_by (d := 55) rfl _ rfl rfl g11) _ _ _ rfl false (hF 17 (hpre 17 (by kernel_rfl))) _ rfl (hI.add (by decide) pmF_later (by decide) (Below.refl _ _) rfl)
          · exact wpOp_pick rfl (wanted_free rfl) _ _ _ rfl false (hF 11 (hpre 11 (by kernel_rfl))) _ (hF 37 (hpre 37 (by kernel_rfl))) (hI.add (by decide) pmF_later (by decide) (Below.refl _ _) rfl)
        · intro D a wx hI hall
          have hB := Lib.hid hI.below
          obtain ⟨fs, rfl, hfs⟩ := hI.done (by decide) rfl (fun i hi => hall i hi)
          have h82 : fs 82 = .bool false := hfs 38 (by decide)
          clear hI hall hfs
          simp only [putAll, List.map_cons, List.map_nil, Act.put, List.setIfInBounds_toArray, List.set_cons_zero, List.set_cons_succ]
          rw [h82]
          clear h82
          generalize fs 44 = y44
          generalize fs 45 = y45
          generalize fs 46 = y46
          generalize fs 47 = y47
          generalize fs 48 = y48
          generalize fs 49 = y49
          generalize fs 50 = y50
          generalize fs 51 = y51
          generalize fs 52 = y52
          generalize fs 53 = y53
          generalize fs 54 = y54
          generalize fs 55 = y55
          generalize fs 56 = y56
          generalize fs 57 = y57
          generalize fs 58 = y58
          generalize fs 59 = y59
          generalize fs 60 = y60
          generalize fs 61 = y61
          generalize fs 62 = y62
          generalize fs 63 = y63
          generalize fs 64 = y64
          generalize fs 65 = y65
          generalize fs 66 = y66
          generalize fs 67 = y67
          generalize fs 68 = y68
          generalize fs 69 = y69
          generalize fs 70 = y70
          generalize fs 71 = y71
          generalize fs 72 = y72
          generalize fs 73 = y73
          generalize fs 74 = y74
          generalize fs 75 = y75
          generalize fs 76 = y76
          generalize fs 77 = y77
          generalize fs 78 = y78
          generalize fs 79 = y79
          generalize fs 80 = y80
          generalize fs 81 = y81
          try clear hnn
          have Bx := Lib.hid (below_then B4.out hB.out)
          have cx0 := cell_later hB.out ca0.out
          have cx1 := cell_later hB.out ca1.out
          have cx2 := cell_later hB.out ca2.out
          have hAw := Lib.hid (awake14_any wx (hLim.out.later Bx.out))
          cases hnb : needs m l3 with
          | true =>
            have hN := Lib.hid hNd.out
            rw [hnb] at hN
            clear hnb
            go_wp2_with (first
              | (go_at_call 6; (with_reducible refine hAw.out.mono ?_); rintro e w5 ⟨rfl, hb5⟩; have B5 := Lib.hid (below_then Bx.out hb5); have k0 := cell_later hb5 cx0; have k1 := cell_later hb5 cx1; have k2 := cell_later hb5 cx2)
              | (go_at_call 8; (with_reducible refine (hfew3.out _ B5.out).mono ?_); rintro e wf ⟨rfl, hw⟩; subst hw)
              | (go_at_call 7; (with_reducible refine (hN.out _ B5.out).mono ?_); rintro e w6 ⟨rfl, hb6⟩; have B6 := Lib.hid (below_then B5.out hb6); have j2 := cell_later hb6 k2))
            go_ret
            exact ⟨ret_bool (by simp; omega), B6.out⟩
          | false =>
            have hN := Lib.hid hNd.out
            rw [hnb] at hN
            have hLf := Lib.hid (fun W (hb : Below wx.heap.size wx W) => hLk.out W (below_then hB.out hb))
            rw [hyes.out hnb] at hLf
            clear hnb
            go_wp2_with (first
              | (go_at_call 6; (with_reducible refine hAw.out.mono ?_); rintro e w5 ⟨rfl, hb5⟩; have B5 := Lib.hid (below_then Bx.out hb5); have k0 := cell_later hb5 cx0; have k1 := cell_later hb5 cx1; have k2 := cell_later hb5 cx2)
              | (go_at_call 8; (with_reducible refine (hfew3.out _ B5.out).mono ?_); rintro e wf ⟨rfl, hw⟩; subst hw)
              | (go_at_call 7; (with_reducible refine (hN.out _ B5.out).mono ?_); rintro e w6 ⟨rfl, hb6⟩; have hb56 := Lib.hid (below_then hb5 hb6); have B6 := Lib.hid (below_then B5.out hb6); have j0 := cell_later hb6 k0; have j1 := cell_later hb6 k1; have j2 := cell_later hb6 k2)
              | (go_at_call 16; (with_reducible refine (hLf.out _ hb56.out).mono ?_); rintro e w7 ⟨rfl, hb7⟩; have B7 := Lib.hid (below_then B6.out hb7); have i2 := cell_later hb7 j2))
            go_ret
            exact ⟨ret_bool (by simp; omega), B7.out⟩
end Go.Proofs.YtalnjlodldhfbaaGreatDoor
