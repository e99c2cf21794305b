/-
  What the program's functions of layer 2 return: Sum the register of the parts by any table, turned over; Put the bytes and the four bytes of the sum; Table the table. Conditions: numbers of 32 bits, slices that read as bytes, a table of 256 numbers of 32 bits.
-/
import Derived.Test.YtaabhnjikggomaaCycSaid
import Derived.Test.YtaabhnjikggomaaInfo
namespace Go.Proofs.Ytaabhnjikggomaa
open Go.RowKit

set_option maxRecDepth 100000 in
set_option maxHeartbeats 400000 in
theorem remainder_any (n : Nat) (w : World) (hn : n < 4294967296) : Calls Try.prog 22 #[.int .u32 n] w fun e w' => e = .returned (.int .u32 (Cyc.stps 8 n)) ∧ w = w' := by
  go_enter Try.func22, Try.ntmps22
  go_wp2
  go_loop [0, 4] (fun x i => ∃ k : Nat, k ≤ 8 ∧ i = .int .i64 k ∧ x = .int .u32 (Cyc.stps k n)) (fun _ i => 8 - (intOf i).toNat)
  case atStart => exact ⟨0, by omega, rfl, rfl⟩
  case round =>
    obtain ⟨k, hk, rfl, rfl⟩ := hrel
    have hr := Cyc.stps_lt k hn
    have HS := Lib.hid (stps_snoc k n)
    by_cases hlt : k < 8
    · generalize Cyc.stps k n = r at *
      by_cases h : r % 2 = 1
      · have b1 : ((r : Int) % 2 == 1) = true := by rw [beq_iff_eq]; omega
        have hx := bits_xor32 (r / 2) 3988292384 (by omega) (by omega)
        have Hx := Lib.hid hx
        have HE := Lib.hid (show Cyc.stp r = (r / 2) ^^^ 3988292384 by rw [Cyc.stp, if_pos h])
        clear hx
        go_wp2
        go_round
        case rel => exact ⟨k + 1, by omega, by go_num, by rw [HS.out, HE.out, ← Hx.out]; simp⟩
        case measure => simp [intOf]; omega
      · have b1 : ((r : Int) % 2 == 1) = false := by rw [beq_eq_false_iff_ne]; omega
        have HE := Lib.hid (show Cyc.stp r = r / 2 by rw [Cyc.stp, if_neg h])
        go_wp2
        go_round
        case rel => exact ⟨k + 1, by omega, by go_num, by rw [HS.out, HE.out]; simp⟩
        case measure => simp [intOf]; omega
    · have e : k = 8 := by omega
      subst e
      go_wp2
      go_ret
      exact ⟨rfl, rfl⟩

set_option maxRecDepth 100000 in
set_option maxHeartbeats 800000 in
theorem sum_any (t : Nat → Nat) (ht : ∀ c, t c < 4294967296) (P : Option Addr) (n c : Nat) (ls : List (List Int)) (w : World) (hP : Parts w P n ls) (hn : n ≤ 1000000) :
    Calls Try.prog 18 #[.agg (cells32 t).toArray, .slice P n c] w fun e w' => e = .returned (.int .u32 ((4294967295 - regs t ls : Nat) : Int)) ∧ Below w.heap.size w w' := by
  have HT : Hid (∀ x, x < 256 → (w.alloc (.cells (cells32 t).toArray 25)).cell? ⟨w.heap.size, x, Option.none⟩ = some (.int .u32 (t x))) := fun x hx => by
    rw [cell_of_row _ w.heap.size x _ _ (0, 0) (heap_alloc_new w _)]
    simpa using cells32_at t hx
  have hb : Below w.heap.size w (w.alloc (.cells (cells32 t).toArray 25)) := (Below.refl _ _).alloc (Nat.le_refl _) _
  have HP := Lib.hid (hP.later hb)
  have Hb := Lib.hid hb
  have Hlen := Lib.hid hP.len
  clear hb
  generalize (cells32 t).toArray = T at *
  go_enter Try.func18, Try.ntmps18
  go_wp2
  go_loop [5, 12] (fun x i => ∃ k : Nat, k ≤ n ∧ i = .int .i64 k ∧ x = .int .u32 (regs t (ls.take k))) (fun _ i => n - (intOf i).toNat)
  case atStart => exact ⟨0, Nat.zero_le _, rfl, rfl⟩
  case round =>
    obtain ⟨k, hk, rfl, rfl⟩ := hrel
    have hr := regs_lt t ht (ls.take k)
    by_cases hlt : k < n
    · obtain ⟨b, off, rfl, hcs⟩ := HP.out.cell (by omega)
      obtain ⟨A, m, c', hcell, hH⟩ := hcs k hlt
      clear hcs
      have HS := Lib.hid (regs_snoc t ls k (by have := Hlen.out; omega))
      have hm1 := hH.cap
      have hm2 := hH.room
      unfold maxLen at hm2
      generalize ls[k]?.getD [] = l at *
      generalize regs t (ls.take k) = r0 at *
      have HB := Lib.hid hH.byt
      have Hl := Lib.hid hH.len
      have HR : Hid (∀ i, Cyc.byTab t r0 (l.take i) < 4294967296) := fun i => byTab_lt t ht _ _ hr
      go_wp2
      go_loop [5, 18] (fun x j => ∃ i : Nat, i ≤ m ∧ j = .int .i64 i ∧ x = .int .u32 (Cyc.byTab t r0 (l.take i))) (fun _ j => m - (intOf j).toNat)
      case atStart => exact ⟨0, Nat.zero_le _, rfl, rfl⟩
      case round =>
        obtain ⟨i, hi, rfl, rfl⟩ := hrel
        have hri := HR.out i
        by_cases hil : i < m
        · obtain ⟨b1, off1, rfl, hcs⟩ := hH.cell (by omega)
          have hc := hcs i hil
          clear hcs
          have hby := HB.out.getD i
          have HS1 := Lib.hid (byTab_snoc t r0 l i (by have := Hl.out; omega))
          generalize Cyc.byTab t r0 (l.take i) = r at *
          obtain ⟨y, hy⟩ : ∃ y : Nat, l[i]?.getD 0 = (y : Int) := ⟨(l[i]?.getD 0).toNat, by omega⟩
          rw [hy] at hc hby HS1
          rw [Int.toNat_natCast] at HS1
          have hy' : y < 256 := by omega
          clear hy hby
          have hx : bits .xor .u8 ((r : Int) % 256) (y : Int) = ((r % 256 ^^^ y : Nat) : Int) := by
            have := bits_xor8 (r % 256) y (by omega) (by omega)
            simpa using this
          have hxl : r % 256 ^^^ y < 256 := Nat.xor_lt_two_pow (n := 8) (by omega) (by omega)
          generalize r % 256 ^^^ y = z at *
          have hcz := HT.out z hxl
          have htz := ht z
          have hx2 : bits .xor .u32 (t z : Int) ((r : Int) / 256) = ((t z ^^^ r / 256 : Nat) : Int) := by
            have := bits_xor32 (t z) (r / 256) (by omega) (by omega)
            simpa using this
          generalize t z = v at *
          go_wp2
          go_round
          case rel => exact ⟨i + 1, by omega, by go_num, by rw [HS1.out]⟩
          case measure => simp [intOf]; omega
        · have e : Cyc.byTab t r0 (l.take i) = Cyc.byTab t r0 l := by rw [List.take_of_length_le (by have := Hl.out; omega)]
          have HE := Lib.hid e
          clear e
          go_wp2
          go_round
          case rel => exact ⟨k + 1, by omega, by go_num, by rw [HS.out, HE.out]⟩
          case measure => simp [intOf]; omega
    · have e : regs t (ls.take k) = regs t ls := by rw [List.take_of_length_le (by have := Hlen.out; omega)]
      have HE := Lib.hid e
      clear e
      go_wp2
      go_ret
      refine ⟨ret_int ?_, Hb.out⟩
      rw [HE.out] at hr ⊢
      have e1 := bits_xor32 (regs t ls) 4294967295 hr (by omega)
      rw [Nat.xor_comm, Cyc.not32 hr] at e1
      exact e1

theorem sum_said : SumSaid := sum_any

/-- The k lowest bytes of a number, the least significant first. -/
def lows : Nat → Nat → List Int
  | 0, _ => []
  | k + 1, n => ((n % 256 : Nat) : Int) :: lows k (n / 256)
theorem four_lows {n : Nat} (hn : n < 4294967296) : four n = lows 4 n := by
  simp only [four, lows, Nat.div_div_eq_div_mul]
  rw [Nat.mod_eq_of_lt (show n / (256 * 256 * 256) < 256 by omega)]
theorem length_lows : ∀ (k n : Nat), (lows k n).length = k
  | 0, _ => rfl
  | k + 1, n => by simp [lows, length_lows k]

/-- The loop's relation: ys is written, k bytes of m are left. -/
def Put4Rel (w : World) (l : List Int) (x v i : Value) (wr : World) : Prop :=
  ∃ (k m : Nat) (ys : List Int), k ≤ 4 ∧ m < 4294967296 ∧ x = .int .u32 m ∧ i = .int .i64 ((4 - k : Nat) : Int) ∧ Owns wr w.heap.size 5 v ys ∧ ys ++ lows k m = l ∧ Below w.heap.size w wr

set_option maxRecDepth 100000 in
set_option maxHeartbeats 400000 in
theorem put_said : PutSaid := by
  intro A k c l n w hn hA hk
  obtain ⟨i0, hi, hz0, hz1, hz2⟩ := info_parts Try.info8
  have hA1 := hA.cap
  go_enter Try.func17, Try.ntmps17
  go_wp2_with (first
    | (at_make; refine wpList_make_own _ rfl _ _ 24 rfl w.heap.size 5 i0 _ 1 Try.underlying24 hi hz0 hz1 .i64 .i64 _ (k + 4) rfl rfl (by omega) (by rw [hz2]; omega) (by simp only [maxLen]; omega) (Nat.le_refl _) ?_; intro w1 hown1 hg1)
    | (at_builtin; refine wpList_append_bytes rfl (.tmp 10) (.tmp 11) 24 rfl w.heap.size 5 i0 Try.underlying24 hi hz0 hz1 hz2 _ [] rfl ⟨Leb.Bytes.nil, hown1⟩ A k c l rfl (hA.later (below_make hg1)) (by simp; omega) (below_make hg1).size ?_; intro v2 w2 hown2 hg2 hat2))
  have Hlen := Lib.hid hA.len
  have hb2 : Below w.heap.size w w2 := below_own (below_make hg1) ⟨Leb.Bytes.nil, hown1⟩ hg2 (below_make hg1).size
  clear hown1 hg1 hg2 hat2
  go_loopw [1, 5, 13] (fun x v i wr => Put4Rel w (l ++ four n) x v i wr) (fun _ _ i _ => 4 - (intOf i).toNat)
  case atStart => exact ⟨4, n, _, by omega, hn, rfl, rfl, hown2, by rw [four_lows hn]; rfl, hb2⟩
  case round =>
    obtain ⟨j, m, ys, hj, hm, rfl, rfl, hown, hl, hb⟩ := hrel
    have hyl : ys.length + j = k + 4 := by
      have h1 := congrArg List.length hl
      have h2 := Hlen.out
      rw [List.length_append, List.length_append, length_lows, four_lows hn, length_lows] at h1
      omega
    have HL := Lib.hid hl
    clear hl hown2 hb2
    have hB := hb.size
    rcases j with _ | j
    · go_wp2
      go_ret
      refine ⟨_, rfl, ?_, hb⟩
      rw [← HL.out, lows, List.append_nil]
      exact hown
    · have H2 := Lib.hid (holds_new wr 5 #[.int .u8 ((m : Int) % 256)] [(m : Int) % 256] rfl (by intro x hx; simp at hx; omega) (by simp [maxLen]))
      go_wp2_with (at_builtin; refine wpList_append_bytes rfl (.tmp 15) (.tmp 18) 24 rfl w.heap.size 5 i0 Try.underlying24 hi hz0 hz1 hz2 _ ys rfl (hown.alloc _) _ 1 1 [(m : Int) % 256] rfl H2.out (by omega) (by simp; omega) ?_; intro v1 w1 hown1 hg1 hat1)
      go_roundw
      case rel =>
        refine ⟨j, m / 256, _, by omega, by omega, by go_num, by go_num, hown1, ?_, below_own (hb.alloc hB _) (hown.alloc _) hg1 (by simp; omega)⟩
        rw [← HL.out]
        simp [lows]
      case measure => simp [intOf]; omega

/-- The first k numbers of the table. -/
def upto (k c : Nat) : Nat := if c < k then Cyc.tab c else 0
theorem upto_set (k : Nat) : (cells32 (upto k)).toArray.setIfInBounds k (.int .u32 (Cyc.stps 8 k)) = (cells32 (upto (k + 1))).toArray := by
  apply Array.ext
  · simp [cells32]
  · intro i h1 h2
    rw [Array.getElem_setIfInBounds (by simpa using h1)]
    have hi : i < 256 := by simpa [cells32] using h2
    by_cases e : k = i
    · subst e
      simp [cells32, upto, Cyc.tab]
    · rw [if_neg e]
      simp only [List.getElem_toArray, cells32, List.getElem_map, List.getElem_range, upto]
      by_cases h : i < k
      · rw [if_pos h, if_pos (by omega)]
      · rw [if_neg h, if_neg (by omega)]

/-- The loop's relation: the first numbers are in the variable, the result is still zero. -/
def TabRel (w : World) (i : Value) (wr : World) : Prop :=
  ∃ k : Nat, k ≤ 256 ∧ i = .int .i64 k ∧ wr.heap[w.heap.size + 1]? = some (.cells (cells32 (upto k)).toArray 25 (0, 0)) ∧ wr.heap[w.heap.size]? = some (.cells zeros32 25 (0, 0)) ∧ Below w.heap.size w wr

theorem zeros_upto : zeros32 = (cells32 (upto 0)).toArray := by kernel_rfl
theorem tab0_upto : cells32 (upto 256) = cells32 tab0 := by unfold upto tab0 cells32; rfl

set_option maxRecDepth 100000 in
set_option maxHeartbeats 400000 in
theorem table_said : TableSaid := by
  intro w
  have hb0 : Below w.heap.size w ((w.alloc (.cells zeros32 25)).alloc (.cells zeros32 25)) := ((Below.refl _ _).alloc (Nat.le_refl _) _).alloc (by simp) _
  have h1 := heap_alloc2_new w (.cells zeros32 25) (.cells zeros32 25)
  have h2 := heap_alloc2_old w (.cells zeros32 25) (.cells zeros32 25)
  go_enter Try.func12, Try.ntmps12
  go_wp2
  go_loopw [3] (fun i wr => TabRel w i wr) (fun i _ => 256 - (intOf i).toNat)
  case atStart => exact ⟨0, by omega, rfl, by rw [← zeros_upto]; exact h1, h2, hb0⟩
  case round =>
    obtain ⟨k, hk, rfl, ht, hz, hb⟩ := hrel
    clear hb0 h1 h2
    by_cases hlt : k < 256
    · have hc : wr.cell? ⟨w.heap.size + 1, k, Option.none⟩ = some (.int .u32 0) := by
        rw [cell_of_row _ _ _ _ _ _ ht]
        simp [cells32, upto, hlt]
      have hf := frozen_of_row _ _ k _ _ ht
      go_wp2_with (go_at_call 22; refine (remainder_any k _ (by omega)).mono ?_; rintro e w' ⟨rfl, rfl⟩)
      go_roundw
      case rel => 
        refine ⟨k + 1, by omega, by go_num, ?_, ?_, ?_⟩
        · rw [heap_setCell_same _ _ _ _ _ _ ht, upto_set k]
        · rw [heap_setCell_other _ _ _ _ (by simp), hz]
        · rw [setCell_eq_setRow _ _ _ _ _ _ _ ht]
          exact below_setRow hb (by omega) _
      case measure => simp [intOf]; omega
    · have e : k = 256 := by omega
      subst e
      rw [tab0_upto] at ht
      have hi1 : (Try.prog.info? 25).map (·.size) = some (cells32 tab0).toArray.size := by rw [info32]; simp [length_cells32]
      have hz1 : zeros32.size = (cells32 tab0).toArray.size := by rw [size_zeros32]; simp [length_cells32]
      have ho1 := one_cells32 tab0
      have hr := setRow_heap wr w.heap.size _ (cells32 tab0).toArray _ _ hz
      have hb1 := below_setRow hb (Nat.le_refl _) (cells32 tab0).toArray
      obtain ⟨T, hT⟩ : ∃ T, T = (cells32 tab0).toArray := ⟨_, rfl⟩
      have HT := Lib.hid hT
      rw [← hT] at hi1 hz1 ho1 hr hb1 ht
      clear hT
      go_wp2_with (first
        | (with_reducible refine wpList_load_row rfl _ _ rfl (w.heap.size + 1) rfl 25 T (0, 0) _ ht Try.underlying25 rfl hi1 ?_)
        | (with_reducible refine wpList_store_row rfl _ _ _ rfl w.heap.size T rfl rfl 25 zeros32 hz hi1 hz1 ho1 ?_))
      refine bodyPost_ret (results_cell_row rfl _ _ w.heap.size 25 T (0, 0) _ rfl hr Try.underlying25 rfl hi1) rfl ⟨by rw [HT.out], hb1⟩
end Go.Proofs.Ytaabhnjikggomaa
