/-
  chunk.pieces and the function that it hands back: it yields the pieces from an offset on, up to the empty one or to the first one with an error. Conditions: the slice reads as bytes, at most 1,000,000 of them, and the offset lies within; the loop's body keeps what the function has captured.
-/
import Derived.Test.YtaabhnjikggomaaChunkPack
namespace Go.Proofs.Ytaabhnjikggomaa
open Go.RowKit Leb Go.Shelf

attribute [local go_sem] Oper.semAt_some

/-- A piece as it is yielded: a slice that reads as a list in the world w, of 256 bytes at most; the offset after it; the error's number. -/
def PieceOf (w : World) : Type := { x : (Option Addr × Nat × Nat × List Int) × Int × Int // Holds w x.1.1 x.1.2.1 x.1.2.2.1 x.1.2.2.2 ∧ x.1.2.1 ≤ 256 }
def PieceOf.list {w : World} (x : PieceOf w) : List Int := x.1.1.2.2.2
def PieceOf.next {w : World} (x : PieceOf w) : Int := x.1.2.1
def PieceOf.err {w : World} (x : PieceOf w) : Int := x.1.2.2
def PieceOf.vals {w : World} (x : PieceOf w) : Array Value := #[.agg #[.slice x.1.1.1 x.1.1.2.1 x.1.1.2.2.1, .int .i64 x.1.2.1], .int .i64 x.1.2.2]

def mkPiece {w : World} (B : Option Addr) (m d : Nat) (ls : List Int) (q e : Int) (h : Holds w B m d ls) (h' : m ≤ 256) : PieceOf w := ⟨((B, m, d, ls), q, e), h, h'⟩

/-- The bytes of what has come. -/
def flat {w : World} (pre : List (PieceOf w)) : List Int := (pre.map PieceOf.list).flatten
theorem flat_snoc {w : World} (pre : List (PieceOf w)) (x : PieceOf w) : flat (pre ++ [x]) = flat pre ++ x.list := by simp [flat]
theorem flat_length {w : World} : ∀ (pre : List (PieceOf w)), (flat pre).length ≤ 256 * pre.length
  | [] => by simp [flat]
  | x :: pre => by
    have ih := flat_length pre
    have h1 := x.2.1.len
    have h2 := x.2.2
    have e : flat (x :: pre) = x.list ++ flat pre := by simp [flat]
    have h3 : x.list.length ≤ 256 := by unfold PieceOf.list; omega
    rw [e, List.length_append, List.length_cons]
    omega

/-- All has come. -/
def AllCame {w : World} (total : List Int × Int × Int) (xs : List (PieceOf w)) : Prop := ∃ pre x, xs = pre ++ [x] ∧ (x.err ≠ 0 ∨ total = (flat xs, x.next, 0))
/-- A part has come, a round having said 'no more'. -/
def SomeCame {w : World} (total : List Int × Int × Int) (xs : List (PieceOf w)) : Prop := ∃ pre x, xs = pre ++ [x] ∧ (x.err ≠ 0 → total = ([], 0, x.err))

set_option maxHeartbeats 400000 in
theorem pieces_in (n : Nat) (T : Array Value) (A : Option Addr) (k c : Nat) (p : Int) (w : World) :
    CallsIn Fence.wide n Try.prog 23 #[.agg T, .slice A k c, .int .i64 p] w fun e w' => e = .returned (.func (.func 27) #[] #[.pointer (some ⟨w.heap.size + 2, 0, Option.none⟩), .pointer (some ⟨w.heap.size, 0, Option.none⟩), .pointer (some ⟨w.heap.size + 1, 0, Option.none⟩)]) ∧
      w' = ((w.alloc (.cells T 25)).alloc (.cells #[.slice A k c] 24)).alloc (.cells #[.int .i64 p] 3) := by
  refine callsIn_of_wp Try.func23 rfl trivial ?_ rfl
  simp only [Try.ntmps23, List.size_toArray, List.length_cons, List.length_nil, Nat.reduceAdd, Nat.reduceSub, Array.replicate_succ, Array.replicate_zero, List.push_toArray, List.append_toArray, List.nil_append, List.cons_append]
  gi_wp2
  go_ret
  exact ⟨rfl, rfl⟩

theorem is256 (m : Nat) : ((m : Int) == 256) = decide (m = 256) := by
  rw [Bool.eq_iff_iff, beq_iff_eq, decide_eq_true_iff]
  omega

theorem rd_len (S : List Int → List Int) (s : List Int) (p : Nat) (full : Bool) : (Chunk.rd S s p full).1.length ≤ 256 := by
  unfold Chunk.rd
  split
  · simp
  split
  · simp
  split
  · simp
  split
  · simp
  split
  · simp
  · rw [List.length_take]
    omega

/-- What holds at the head of each round. -/
def PcRel (w : World) (S : List Int → List Int) (s : List Int) (k : Nat) (total : List Int × Int × Int) (Holdsbox : World → Prop) (J : List (PieceOf w) → World → Prop) (u v : Value) (wr : World) : Prop :=
  ∃ (f p : Nat) (full : Bool) (pre : List (PieceOf w)), u = .bool full ∧ v = .int .i64 p ∧ p ≤ k ∧ k < p + f ∧ pre.length ≤ p ∧ Chunk.unp S s f p full (flat pre) = total ∧ J pre wr ∧ Holdsbox wr

set_option maxRecDepth 100000 in
set_option maxHeartbeats 4000000 in
theorem pieces1_in (n : Nat) (t : Nat → Nat) (ht : ∀ c, t c < 4294967296) (T : Array Value) (hTT : T = (cells32 t).toArray) (w : World) (B0 BT BS BA : Nat) (Bs : List Nat) (hBT : BT ∉ Bs) (hBS : BS ∉ Bs) (hBs : ∀ i ∈ Bs, i < B0) (A : Option Addr) (k c p0 : Nat) (s : List Int) (hA : Holds w A k c s) (hk : k ≤ 1000000) (hp : p0 ≤ k) (hn : 1 ≤ n) (l : Nat) (J Jx : List (PieceOf w) → World → Prop)
    (hab : AbidesFrom B0 J)
    (hY : ∀ pre x W, J pre W → pre.length < k + 1 → YieldAt Fence.wide (n - 1) Try.prog l x.vals W fun e W' =>
      (e = .returned (.bool true) ∧ J (pre ++ [x]) W' ∧ Kept w.heap.size 5 Bs W W') ∨ (e = .returned (.bool false) ∧ Jx (pre ++ [x]) W'))
    (W : World) (hB0 : B0 ≤ W.heap.size) (hW : Below w.heap.size w W) (bT : W.heap[BT]? = some (.cells T 25 (0, 0))) (bS : Boxed W BS 24 (.slice A k c)) (bA : Boxed W BA 3 (.int .i64 p0)) (h0 : J [] W) :
    CallsIn Fence.wide n Try.prog 27 #[.func (.yield l) #[] #[], .pointer (some ⟨BA, 0, Option.none⟩), .pointer (some ⟨BT, 0, Option.none⟩), .pointer (some ⟨BS, 0, Option.none⟩)] W fun e W' => (∃ v, e = .returned v) ∧
      ((∃ ys, AllCame (Chunk.unp (sum4 t) s (s.length + 1) p0 true []) ys ∧ J ys W') ∨ (∃ pre, SomeCame (Chunk.unp (sum4 t) s (s.length + 1) p0 true []) pre ∧ Jx pre W')) := by
  have h1 := hA.cap
  have h2 := hA.room
  unfold maxLen at h2
  have Hl := Lib.hid hA.len
  have HTT := Lib.hid hTT
  clear hTT
  obtain ⟨total, htot⟩ : ∃ total, Chunk.unp (sum4 t) s (s.length + 1) p0 true [] = total := ⟨_, rfl⟩
  rw [htot]
  have Htot := Lib.hid htot
  clear htot
  have hca := bA.cell
  refine callsIn_of_wp Try.func27 rfl trivial ?_ rfl
  simp only [Try.ntmps27, List.size_toArray, List.length_cons, List.length_nil, Nat.reduceAdd, Nat.reduceSub, Array.replicate_succ, Array.replicate_zero, List.push_toArray, List.append_toArray, List.nil_append, List.cons_append]
  gi_wp2
  gi_loopw [5, 6] (fun u v wr => PcRel w (sum4 t) s k total (fun X => X.heap[BT]? = some (.cells T 25 (0, 0)) ∧ Boxed X BS 24 (.slice A k c) ∧ Below w.heap.size w X ∧ B0 ≤ X.heap.size) J u v wr)
    (fun _ v _ => k + 1 - (intOf v).toNat)
  case atStart => exact ⟨s.length + 1, p0, true, [], rfl, rfl, hp, by rw [Hl.out]; omega, Nat.zero_le _, Htot.out, h0, bT, bS, hW, hB0⟩
  case round =>
    obtain ⟨f, p, full, pre, rfl, rfl, hpk, hkf, hpl, hun, hJ, bT, bS, hB, hsz⟩ := hrel
    have Hun := Lib.hid hun
    clear hun hca
    have hcs := bS.cell
    have hrd := read_any t ht A k c s p full w wr hA (hA.later hB) hpk hk
    rw [← HTT.out] at hrd
    have hlen := rd_len (sum4 t) s p full
    have hfit := fun q ls => @Chunk.rd_fit (sum4 t) s hA.byt p (by rw [Hl.out]; exact hpk) full ls q
    obtain ⟨f', rfl⟩ : ∃ f', f = f' + 1 := ⟨f - 1, by omega⟩
    have hun := Hun.out
    rw [Chunk.unp] at hun
    clear Hun
    generalize Chunk.rd (sum4 t) s p full = rr at *
    obtain ⟨ls, q, e0⟩ := rr
    simp only at hun hlen
    have Hrd := Lib.hid hrd
    have Hun := Lib.hid hun
    clear hrd hun
    have hri : (Try.prog.info? 25).map (·.size) = some T.size := by rw [HTT.out, info32]; simp [length_cells32]
    gi_wp2_with (with_reducible refine wpListIn_row_wide rfl _ _ rfl BT rfl 25 T (0, 0) _ bT Try.underlying25 rfl hri ?_)
    refine ⟨trivial, ?_⟩
    refine (callsIn_wide.2 Hrd.out).mono ?_
    rintro e w1 ⟨B, m, d, rfl, hH, hb1⟩
    clear Hrd hri hcs
    have hml : ls.length = m := hH.len
    have hJ1 : J pre (w1.alloc (.cells #[.slice B m d, .int .i64 q] 56)) := hab _ _ _ Option.none (hab _ _ _ Option.none hJ ⟨hb1.os, hb1.tape, hb1.output, hb1.size, fun i hi _ => hb1.block i hi⟩ (fun _ e => by cases e)) (World.grownBy_alloc w1 _ Option.none) (fun _ e => by cases e)
    have hb2 : Below wr.heap.size wr (w1.alloc (.cells #[.slice B m d, .int .i64 q] 56)) := hb1.alloc hb1.size _
    have bT2 := (hb2.block _ (Array.getElem?_eq_some_iff.1 bT).1).trans bT
    have bS2 := box_later bS hb2
    have bP2 := World.alloc_heap_new w1 (.cells #[.slice B m d, .int .i64 q] 56)
    have hs1 := hb1.size
    have hPs : w1.heap.size ∉ Bs := fun h => by have := hBs _ h; omega
    obtain ⟨fn, tmps, assign, body, hy, hR⟩ := hY pre (mkPiece B m d ls q e0 hH (by omega)) _ hJ1 (by omega)
    simp only [PieceOf.vals, mkPiece] at hy
    by_cases he : e0 = 0
    · subst he
      by_cases hls : ls = []
      · subst hls
        have hm0 : m = 0 := by simpa using hml.symm
        subst hm0
        have htot : total = (flat pre, q, 0) := by
          have := Hun.out
          simpa using this.symm
        have Htot2 := Lib.hid htot
        clear htot Hun
        gi_wp2_with fail
        refine hR.mono ?_
        rintro e W3 (⟨rfl, hJ3, hk3⟩ | ⟨rfl, hJx3⟩)
        · have bP3 := hk3.other _ _ _ _ hPs (by decide) bP2
          have hc0 : W3.cell? ⟨w1.heap.size, 0, Option.none⟩ = some (.slice B 0 d) := by rw [cell_of_row _ _ _ _ _ _ bP3]; rfl
          clear hk3
          gi_wp2_with fail
          refine bodyPost_ret (results_none rfl _ _ _) rfl ?_
          exact ⟨⟨_, rfl⟩, .inl ⟨_, ⟨pre, _, rfl, .inr (by rw [flat_snoc, Htot2.out]; simp [PieceOf.list, PieceOf.next, mkPiece])⟩, hJ3⟩⟩
        · gi_wp2_with fail
          refine bodyPost_ret (results_none rfl _ _ _) rfl ?_
          exact ⟨⟨_, rfl⟩, .inr ⟨_, ⟨pre, _, rfl, fun h => absurd rfl h⟩, hJx3⟩⟩
      · have hmp : 0 < m := by rw [← hml]; exact List.length_pos_iff.2 hls
        have bm : ((m : Int) == 0) = false := by rw [beq_eq_false_iff_ne]; omega
        obtain ⟨p', rfl, g1, g2, -⟩ := hfit q ls rfl
        rw [Hl.out] at g2
        have htot : Chunk.unp (sum4 t) s f' p' (decide (m = 256)) (flat pre ++ ls) = total := by
          have := Hun.out
          simpa [hls, hml] using this
        have Htot2 := Lib.hid htot
        clear htot Hun hfit
        gi_wp2_with fail
        refine hR.mono ?_
        rintro e W3 (⟨rfl, hJ3, hk3⟩ | ⟨rfl, hJx3⟩)
        · have bP3 := hk3.other _ _ _ _ hPs (by decide) bP2
          have hc0 : W3.cell? ⟨w1.heap.size, 0, Option.none⟩ = some (.slice B m d) := by rw [cell_of_row _ _ _ _ _ _ bP3]; rfl
          have hc1 : W3.cell? ⟨w1.heap.size, 1, Option.none⟩ = some (.int .i64 p') := by rw [cell_of_row _ _ _ _ _ _ bP3]; rfl
          have bT3 := hk3.other _ _ _ _ hBT (by decide) bT2
          have bS3 := box_kept bS2 hk3 hBS (by decide)
          have hB3 : Below w.heap.size w W3 := (hB.trans (hb2.mono hB.size)).trans hk3.below
          have hs3 : B0 ≤ W3.heap.size := by have h1 := hk3.below.size; simp at h1; omega
          clear hk3
          gi_wp2_with fail
          go_roundw
          case rel => exact ⟨f', p', decide (m = 256), _, by rw [is256], rfl, g2, by omega, by simp; omega, by rw [flat_snoc]; exact Htot2.out, hJ3, bT3, bS3, hB3, hs3⟩
          case measure => simp [intOf]; omega
        · gi_wp2_with fail
          refine bodyPost_ret (results_none rfl _ _ _) rfl ?_
          exact ⟨⟨_, rfl⟩, .inr ⟨_, ⟨pre, _, rfl, fun h => absurd rfl h⟩, hJx3⟩⟩
    · have b0 : (e0 == 0) = false := by rw [beq_eq_false_iff_ne]; omega
      have htot : total = ([], 0, e0) := by
        have := Hun.out
        simpa [he] using this.symm
      have Htot2 := Lib.hid htot
      clear htot Hun hfit
      gi_wp2_with fail
      refine hR.mono ?_
      rintro e W3 (⟨rfl, hJ3, hk3⟩ | ⟨rfl, hJx3⟩)
      · clear hk3
        gi_wp2_with fail
        refine bodyPost_ret (results_none rfl _ _ _) rfl ?_
        exact ⟨⟨_, rfl⟩, .inl ⟨_, ⟨pre, mkPiece B m d ls q e0 hH (by omega), rfl, .inl he⟩, hJ3⟩⟩
      · gi_wp2_with fail
        refine bodyPost_ret (results_none rfl _ _ _) rfl ?_
        exact ⟨⟨_, rfl⟩, .inr ⟨_, ⟨pre, mkPiece B m d ls q e0 hH (by omega), rfl, fun _ => Htot2.out⟩, hJx3⟩⟩

/-- What chunk.pieces hands back stops. -/
theorem pieces_stops (n : Nat) (t : Nat → Nat) (ht : ∀ c, t c < 4294967296) (T : Array Value) (hTT : T = (cells32 t).toArray) (w : World) (BT BS BA : Nat) (Bs : List Nat) (hBT : BT ∉ Bs) (hBS : BS ∉ Bs) (A : Option Addr) (k c p0 : Nat) (s : List Int) (hA : Holds w A k c s) (hk : k ≤ 1000000) (hp : p0 ≤ k) (hn : 1 ≤ n)
    (W0 : World) (hBs : ∀ i ∈ Bs, i < W0.heap.size) (hB : Below w.heap.size w W0) (bT : W0.heap[BT]? = some (.cells T 25 (0, 0))) (bS : Boxed W0 BS 24 (.slice A k c)) (bA : Boxed W0 BA 3 (.int .i64 p0)) :
    SeqStopsK Fence.wide n Try.prog 27 #[.pointer (some ⟨BA, 0, Option.none⟩), .pointer (some ⟨BT, 0, Option.none⟩), .pointer (some ⟨BS, 0, Option.none⟩)] PieceOf.vals (Kept w.heap.size 5 Bs) (AllCame (w := w) (Chunk.unp (sum4 t) s (s.length + 1) p0 true [])) (SomeCame (Chunk.unp (sum4 t) s (s.length + 1) p0 true [])) (k + 1) W0 := fun l J Jx W hW hab _ hY h0 =>
  pieces1_in n t ht T hTT w W.heap.size BT BS BA Bs hBT hBS (fun i hi => Nat.lt_of_lt_of_le (hBs i hi) hW.size) A k c p0 s hA hk hp hn l J Jx hab hY W (Nat.le_refl _) (hB.trans (hW.mono hB.size)) ((hW.block _ (Array.getElem?_eq_some_iff.1 bT).1).trans bT) (box_later bS hW) (box_later bA hW) h0
end Go.Proofs.Ytaabhnjikggomaa
