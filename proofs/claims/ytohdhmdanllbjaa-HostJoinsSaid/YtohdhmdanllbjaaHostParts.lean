/-
  host.parts and the function that it hands back: it yields what stands between the dots of a text, in its order. Conditions: the loop's body keeps what lay below n₀.
-/
import Derived.Test.YtohdhmdanllbjaaBox
import Derived.Test.YtohdhmdanllbjaaHostCut
namespace Go.Proofs.Ytohdhmdanllbjaa
open Go.RowKit Go.Lib Go.Shelf

attribute [local go_sem] Oper.semAt_some

set_option maxHeartbeats 400000 in
theorem parts_in (n : Nat) (s : ByteArray) (w : World) :
    CallsIn Fence.wide n Try.prog 15 #[.string s] w fun e w' => e = .returned (.func (.func 21) #[] #[.pointer (some ⟨w.heap.size, 0, Option.none⟩)]) ∧ w' = w.alloc (.cells #[.string s] 9) := by
  refine callsIn_of_wp Try.func15 rfl trivial ?_ rfl
  simp only [Try.ntmps15, List.size_toArray, List.length_cons, List.length_nil, Nat.reduceAdd, Nat.reduceSub, Array.replicate_succ, Array.replicate_zero, List.push_toArray, List.append_toArray, List.nil_append, List.cons_append]
  gi_wp2
  go_ret
  exact ⟨rfl, rfl⟩

/-- How far the loop has still to go. -/
def left5 (r m : Value) : Nat := match r, m with | .string t, .bool true => t.size + 1 | _, _ => 0

/-- A text that is no longer than any text may be. -/
abbrev Txt : Type := { t : ByteArray // t.size ≤ maxLen }
def texts (pre : List Txt) : List (List UInt8) := pre.map fun t => t.1.data.toList
theorem texts_snoc (pre : List Txt) (x : Txt) : texts (pre ++ [x]) = texts pre ++ [x.1.data.toList] := by simp [texts]

theorem cut_rest {t : ByteArray} {i : Nat} (hi : i < t.size) (he : t.data.toList = t.data.toList.take i ++ 46 :: t.data.toList.drop (i + 1)) (hn : ∀ b ∈ t.data.toList.take i, b ≠ 46) :
    hdots t.data.toList = (t.extract 0 i).data.toList :: hdots (t.extract (i + 1) t.size).data.toList ∧ (t.extract (i + 1) t.size).size < t.size := by
  have e0 : (t.extract 0 i).data.toList = t.data.toList.take i := by rw [Lib.extract_data]; simp
  have e1 : (t.extract (i + 1) t.size).data.toList = t.data.toList.drop (i + 1) := Lib.extract_to_end _ _
  refine ⟨?_, ?_⟩
  · conv => lhs; rw [he]
    rw [hdots_dot hn, e0, e1]
  · rw [size_len, e1, List.length_drop, ← size_len]
    omega

set_option maxRecDepth 100000 in
set_option maxHeartbeats 2000000 in
theorem parts1_in (n : Nat) (s : ByteArray) (hs : s.size ≤ maxLen) (Bn n₀ B0 : Nat) (hn : 1 ≤ n) (l : Nat) (J Jx : List Txt → World → Prop)
    (hab : AbidesFrom B0 J)
    (hY : ∀ pre x W, J pre W → pre.length < s.size + 1 → YieldAt Fence.wide (n - 1) Try.prog l #[.string x.1] W fun e W' =>
      (e = .returned (.bool true) ∧ J (pre ++ [x]) W' ∧ Below n₀ W W') ∨ (e = .returned (.bool false) ∧ Jx (pre ++ [x]) W'))
    (W : World) (hB : Boxed W Bn 9 (.string s)) (h0 : J [] W) :
    CallsIn Fence.wide n Try.prog 21 #[.func (.yield l) #[] #[], .pointer (some ⟨Bn, 0, Option.none⟩)] W fun e W' => (∃ v, e = .returned v) ∧
      ((∃ ys, texts ys = hdots s.data.toList ∧ J ys W') ∨ (∃ pre, (texts pre <+: hdots s.data.toList) ∧ Jx pre W')) := by
  have hc := hB.cell
  have hlen := hdots_len s.data.toList
  rw [← size_len] at hlen
  have Hlen := Lib.hid hlen
  clear hlen
  generalize hL : hdots s.data.toList = L at *
  have HL := Lib.hid hL
  clear hL
  refine callsIn_of_wp Try.func21 rfl trivial ?_ rfl
  simp only [Try.ntmps21, List.size_toArray, List.length_cons, List.length_nil, Nat.reduceAdd, Nat.reduceSub, Array.replicate_succ, Array.replicate_zero, List.push_toArray, List.append_toArray, List.nil_append, List.cons_append]
  gi_wp2
  gi_loopw [3, 4] (fun r m wr => ∃ (t : ByteArray) (pre : List Txt), r = .string t ∧ J pre wr ∧ ((m = .bool true ∧ t.size ≤ s.size ∧ L = texts pre ++ hdots t.data.toList) ∨ (m = .bool false ∧ L = texts pre)))
    (fun r m _ => left5 r m)
  case atStart => exact ⟨s, [], rfl, h0, .inl ⟨rfl, Nat.le_refl _, HL.out.symm⟩⟩
  case round =>
    obtain ⟨t, pre, rfl, hJ, ⟨rfl, ht, hpre⟩ | ⟨rfl, hpre⟩⟩ := hrel
    · have Hpre := Lib.hid hpre
      clear hpre hc
      have htm : t.size ≤ maxLen := Nat.le_trans ht hs
      rcases index_dot t.data.toList with ⟨hix, hno⟩ | ⟨i, hix, hi, he, hno⟩
      · have hcut := Lib.hid (fun W => cut_none t hix W)
        have hd := hdots_none hno
        have Hd := Lib.hid hd
        clear hix hno hd
        have hpl : pre.length < s.size + 1 := by
          have h1 := congrArg List.length Hpre.out
          rw [Hd.out] at h1
          have h2 := Hlen.out
          simp [texts] at h1
          omega
        obtain ⟨fn, tmps, assign, body, hy, hR⟩ := hY pre ⟨t, htm⟩ wr hJ hpl
        gi_wp2_with (refine ⟨trivial, ?_⟩; gi_at_call 22; refine (callsIn_wide.2 (hcut.out _)).mono ?_; rintro e w' ⟨rfl, hw⟩; subst hw)
        refine hR.mono ?_
        rintro e W3 (⟨rfl, hJ3, hk3⟩ | ⟨rfl, hJx3⟩)
        · gi_wp2
          go_roundw
          case rel => exact ⟨_, _, rfl, hJ3, .inr ⟨rfl, by rw [texts_snoc, Hpre.out, Hd.out]⟩⟩
          case measure => simp [left5]
        · gi_wp2
          refine bodyPost_ret (results_none rfl _ _ _) rfl ?_
          exact ⟨⟨_, rfl⟩, .inr ⟨_, by rw [texts_snoc, Hpre.out, Hd.out]; exact List.prefix_refl _, hJx3⟩⟩
      · have hi' : i < t.size := by rw [size_len]; exact hi
        have hcut := Lib.hid (fun W => cut_hit t htm i hix hi' W)
        obtain ⟨hd, hz⟩ := cut_rest hi' he hno
        have Hd := Lib.hid hd
        clear hix hno hd he
        have hpl : pre.length < s.size + 1 := by
          have h1 := congrArg List.length Hpre.out
          rw [Hd.out] at h1
          have h2 := Hlen.out
          simp [texts] at h1
          omega
        have htx : (t.extract 0 i).size ≤ maxLen := Nat.le_trans (by rw [size_len, Lib.extract_data]; simp; omega) htm
        have hJd : J pre wr.drew := hab _ _ _ Option.none hJ ((Below.refl wr.heap.size wr).drew |> fun hb1 => ⟨hb1.os, hb1.tape, hb1.output, hb1.size, fun i hi _ => hb1.block i hi⟩) (fun _ e => by cases e)
        obtain ⟨fn, tmps, assign, body, hy, hR⟩ := hY pre ⟨t.extract 0 i, htx⟩ wr.drew hJd hpl
        gi_wp2_with (refine ⟨trivial, ?_⟩; gi_at_call 22; refine (callsIn_wide.2 (hcut.out _)).mono ?_; rintro e w' ⟨rfl, hw⟩; subst hw)
        refine hR.mono ?_
        rintro e W3 (⟨rfl, hJ3, hk3⟩ | ⟨rfl, hJx3⟩)
        · gi_wp2
          go_roundw
          case rel => exact ⟨_, _, rfl, hJ3, .inl ⟨rfl, by omega, by rw [texts_snoc, Hpre.out, Hd.out]; simp⟩⟩
          case measure => simp [left5]; omega
        · gi_wp2
          refine bodyPost_ret (results_none rfl _ _ _) rfl ?_
          exact ⟨⟨_, rfl⟩, .inr ⟨_, by rw [texts_snoc, Hpre.out, Hd.out]; exact ⟨hdots (t.extract (i + 1) t.size).data.toList, by rw [List.append_assoc]; rfl⟩, hJx3⟩⟩
    · have Hpre := Lib.hid hpre
      clear hpre hc
      gi_wp2
      go_end0
      exact ⟨⟨_, rfl⟩, .inl ⟨pre, Hpre.out.symm, hJ⟩⟩

/-- What host.parts hands back stops. -/
theorem parts_stops (n : Nat) (s : ByteArray) (hs : s.size ≤ maxLen) (Bn n₀ : Nat) (hn : 1 ≤ n) (W0 : World) (hB : Boxed W0 Bn 9 (.string s)) :
    SeqStopsK Fence.wide n Try.prog 21 #[.pointer (some ⟨Bn, 0, Option.none⟩)] (fun x : Txt => #[.string x.1]) (Below n₀) (fun ys => texts ys = hdots s.data.toList) (fun pre => texts pre <+: hdots s.data.toList) (s.size + 1) W0 := fun l J Jx W hW hab _ hY h0 =>
  parts1_in n s hs Bn n₀ W.heap.size hn l J Jx hab hY W (box_later hB hW) h0
end Go.Proofs.Ytohdhmdanllbjaa
