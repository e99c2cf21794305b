/-
  chunk.bodies and the function that it hands back: it yields the parts of the bytes, in their order, and the empty one behind them. Conditions: the slice reads as bytes, at most 1,000,000 of them; the loop's body keeps the variable that the function has captured.
-/
import Derived.Test.YtaabhnjikggomaaBox
import Derived.Test.YtaabhnjikggomaaChunkMath
import Derived.Test.YtaabhnjikggomaaInfo
namespace Go.Proofs.Ytaabhnjikggomaa
open Go.RowKit Leb Go.Shelf

attribute [local go_sem] Oper.semAt_some

/-- A slice of bytes that reads as a list in the world w, of 256 at most. -/
def SubOf (w : World) : Type := { x : Option Addr × Nat × Nat × List Int // Holds w x.1 x.2.1 x.2.2.1 x.2.2.2 ∧ x.2.1 ≤ 256 }
def SubOf.list {w : World} (x : SubOf w) : List Int := x.1.2.2.2
def SubOf.val {w : World} (x : SubOf w) : Value := .slice x.1.1 x.1.2.1 x.1.2.2.1

set_option maxHeartbeats 400000 in
theorem bodies_in (n : Nat) (A : Option Addr) (k c : Nat) (w : World) :
    CallsIn Fence.wide n Try.prog 15 #[.slice A k c] w fun e w' => e = .returned (.func (.func 25) #[] #[.pointer (some ⟨w.heap.size, 0, Option.none⟩)]) ∧ w' = w.alloc (.cells #[.slice A k c] 24) := by
  refine callsIn_of_wp Try.func15 rfl trivial ?_ rfl
  simp only [Try.ntmps15, List.size_toArray, List.length_cons, List.length_nil, Nat.reduceAdd, Nat.reduceSub, Array.replicate_succ, Array.replicate_zero, List.push_toArray, List.append_toArray, List.nil_append, List.cons_append]
  gi_wp2
  go_ret
  exact ⟨rfl, rfl⟩

theorem part_step {l : List Int} {k : Nat} : (List.range (k + 1)).map (Chunk.part l) = (List.range k).map (Chunk.part l) ++ [Chunk.part l k] := by simp [List.range_succ]

set_option maxRecDepth 100000 in
set_option maxHeartbeats 2000000 in
theorem bodies1_in (n : Nat) (w : World) (Bn n₀ : Nat) (Bs : List Nat) (hBn : Bn ∉ Bs) (A : Option Addr) (k c : Nat) (s : List Int) (hA : Holds w A k c s) (hk : k ≤ 1000000) (hn : 1 ≤ n) (l : Nat) (J Jx : List (SubOf w) → World → Prop)
    (hY : ∀ pre x W, J pre W → pre.length < Chunk.many s + 1 → YieldAt Fence.wide (n - 1) Try.prog l #[x.val] W fun e W' =>
      (e = .returned (.bool true) ∧ J (pre ++ [x]) W' ∧ Kept n₀ 5 Bs W W') ∨ (e = .returned (.bool false) ∧ Jx (pre ++ [x]) W'))
    (W : World) (hB : Boxed W Bn 24 (.slice A k c)) (h0 : J [] W) :
    CallsIn Fence.wide n Try.prog 25 #[.func (.yield l) #[] #[], .pointer (some ⟨Bn, 0, Option.none⟩)] W fun e W' => (∃ v, e = .returned v) ∧
      ((∃ ys, ys.map SubOf.list = Chunk.parts s ∧ J ys W') ∨ (∃ pre, True ∧ Jx pre W')) := by
  have h1 := hA.cap
  have h2 := hA.room
  unfold maxLen at h2
  have Hl := Lib.hid hA.len
  refine callsIn_of_wp Try.func25 rfl trivial ?_ rfl
  simp only [Try.ntmps25, List.size_toArray, List.length_cons, List.length_nil, Nat.reduceAdd, Nat.reduceSub, Array.replicate_succ, Array.replicate_zero, List.push_toArray, List.append_toArray, List.nil_append, List.cons_append]
  gi_wp2
  gi_loopw [3] (fun i wr => ∃ (j m : Nat) (pre : List (SubOf w)), i = .int .i64 j ∧ j = 256 * m ∧ m ≤ Chunk.many s ∧ pre.map SubOf.list = (List.range m).map (Chunk.part s) ∧ J pre wr ∧ Boxed wr Bn 24 (.slice A k c))
    (fun i _ => k + 256 - (intOf i).toNat)
  case atStart => exact ⟨0, 0, [], rfl, rfl, Nat.zero_le _, rfl, h0, hB⟩
  case round =>
    obtain ⟨j, m, pre, rfl, hjm, hm, hpre, hJ, hb⟩ := hrel
    have hpl : pre.length = m := by
      have := congrArg List.length hpre
      simpa using this
    have Hpre := Lib.hid hpre
    have Hjm := Lib.hid hjm
    clear hpre hjm
    have hc := hb.cell
    have hmany : Chunk.many s = (k + 255) / 256 := by rw [Chunk.many, Hl.out]
    have Hmany := Lib.hid hmany
    clear hmany
    by_cases hlt : j < k
    · obtain ⟨b, off, rfl, _⟩ := hA.cell (by omega)
      have hme : m < Chunk.many s := by rw [Hmany.out]; have := Hjm.out; omega
      have hpart : Holds w (some ⟨b, off + j, Option.none⟩) (min 256 (k - j)) (c - j) (Chunk.part s m) := by
        have := (hA.back (k := j) (by omega)).front (k := min 256 (k - j)) (by omega)
        have e : (s.drop j).take (min 256 (k - j)) = Chunk.part s m := by
          rw [Chunk.part, ← Hjm.out]
          by_cases h : k - j ≤ 256
          · rw [show min 256 (k - j) = k - j by omega, List.take_of_length_le (by rw [List.length_drop, Hl.out]; omega), List.take_of_length_le (by rw [List.length_drop, Hl.out]; omega)]
          · rw [show min 256 (k - j) = 256 by omega]
        rw [e] at this
        exact this
      obtain ⟨fn, tmps, assign, body, hy, hR⟩ := hY pre ⟨(_, _, _, _), hpart, by simp; omega⟩ wr hJ (by omega)
      simp only [SubOf.val] at hy
      by_cases h256 : 256 ≤ k - j
      · have e1 : min 256 (k - j) = 256 := by omega
        rw [e1] at hy
        clear e1
        gi_wp2
        refine hR.mono ?_
        rintro e W3 (⟨rfl, hJ3, hk3⟩ | ⟨rfl, hJx3⟩)
        · have hb3 := box_kept hb hk3 hBn (by decide)
          clear hk3 hb
          gi_wp2
          go_roundw
          case rel => exact ⟨j + 256, m + 1, _, by go_num, by have := Hjm.out; omega, by omega, by rw [List.map_append, Hpre.out, part_step]; rfl, hJ3, hb3⟩
          case measure => simp [intOf]; omega
        · gi_wp2
          refine bodyPost_ret (results_none rfl _ _ _) rfl ?_
          exact ⟨⟨_, rfl⟩, .inr ⟨_, trivial, hJx3⟩⟩
      · have e1 : min 256 (k - j) = k - j := by omega
        rw [e1] at hy
        clear e1
        gi_wp2
        refine hR.mono ?_
        rintro e W3 (⟨rfl, hJ3, hk3⟩ | ⟨rfl, hJx3⟩)
        · have hb3 := box_kept hb hk3 hBn (by decide)
          clear hk3 hb
          gi_wp2
          go_roundw
          case rel => exact ⟨j + 256, m + 1, _, by go_num, by have := Hjm.out; omega, by omega, by rw [List.map_append, Hpre.out, part_step]; rfl, hJ3, hb3⟩
          case measure => simp [intOf]; omega
        · gi_wp2
          refine bodyPost_ret (results_none rfl _ _ _) rfl ?_
          exact ⟨⟨_, rfl⟩, .inr ⟨_, trivial, hJx3⟩⟩
    · have hme : m = Chunk.many s := by rw [Hmany.out] at hm ⊢; have := Hjm.out; omega
      have Hme := Lib.hid hme
      clear hme
      obtain ⟨fn, tmps, assign, body, hy, hR⟩ := hY pre ⟨(Option.none, 0, 0, []), holds_nil w, by simp⟩ wr hJ (by omega)
      simp only [SubOf.val] at hy
      gi_wp2
      refine hR.mono ?_
      rintro e W3 (⟨rfl, hJ3, hk3⟩ | ⟨rfl, hJx3⟩)
      · gi_wp2
        go_end0
        exact ⟨⟨_, rfl⟩, .inl ⟨_, by rw [List.map_append, Hpre.out, Hme.out]; rfl, hJ3⟩⟩
      · gi_wp2
        go_end0
        exact ⟨⟨_, rfl⟩, .inr ⟨_, trivial, hJx3⟩⟩

/-- What chunk.bodies hands back stops. -/
theorem bodies_stops (n : Nat) (w : World) (Bn n₀ : Nat) (Bs : List Nat) (hBn : Bn ∉ Bs) (A : Option Addr) (k c : Nat) (s : List Int) (hA : Holds w A k c s) (hk : k ≤ 1000000) (hn : 1 ≤ n) (W0 : World) (hB : Boxed W0 Bn 24 (.slice A k c)) :
    SeqStopsK Fence.wide n Try.prog 25 #[.pointer (some ⟨Bn, 0, Option.none⟩)] (fun x : SubOf w => #[x.val]) (Kept n₀ 5 Bs) (fun ys => ys.map SubOf.list = Chunk.parts s) (fun _ => True) (Chunk.many s + 1) W0 := fun l J Jx W hW _ _ hY h0 =>
  bodies1_in n w Bn n₀ Bs hBn A k c s hA hk hn l J Jx hY W (box_later hB hW) h0
end Go.Proofs.Ytaabhnjikggomaa
