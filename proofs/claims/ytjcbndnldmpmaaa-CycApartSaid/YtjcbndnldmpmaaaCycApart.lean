/-
  The walk of the statement CycApart, if Table, Sum and Put are as they are held to be.
-/
import Derived.Test.YtjcbndnldmpmaaaCycSum
namespace Go.Proofs.Ytjcbndnldmpmaaa
open Go.RowKit

theorem pow_mul_xor (p a b : Nat) : 2 ^ p * (a ^^^ b) = (2 ^ p * a) ^^^ (2 ^ p * b) := by
  apply Nat.eq_of_testBit_eq
  intro i
  simp only [Nat.testBit_two_pow_mul, Nat.testBit_xor]
  by_cases h : i ≥ p <;> simp [h]

/-- What the loop has made of the text: bits within 32 from p on are turned, those of e. -/
def Turned (l : List Int) (p i : Nat) (l' : List Int) (same : Bool) : Prop :=
  ∃ e : Nat, e < 2 ^ i ∧ l'.length = l.length ∧ Leb.Bytes l' ∧ Cyc.whole l' = Cyc.whole l ^^^ 2 ^ p * e ∧ same = decide (e = 0)

theorem turned_start {l : List Int} (h : Leb.Bytes l) (p : Nat) : Turned l p 0 l true := ⟨0, by omega, rfl, h, by simp, rfl⟩
theorem turned_keep {l l' : List Int} {p i : Nat} {same : Bool} (h : Turned l p i l' same) : Turned l p (i + 1) l' same := by
  obtain ⟨e, h1, h2⟩ := h
  exact ⟨e, by rw [Nat.pow_succ]; omega, h2⟩
theorem turned_flip {l l' : List Int} {p i : Nat} {same : Bool} (h : Turned l p i l' same) (hk : p + i < 8 * l.length) :
    Turned l p (i + 1) (l'.set ((p + i) / 8) (((l'[(p + i) / 8]?.getD 0).toNat ^^^ 2 ^ ((p + i) % 8) : Nat) : Int)) false := by
  obtain ⟨e, h1, h2, h3, h4, h5⟩ := h
  have hj : (p + i) / 8 < l'.length := by omega
  have hw := Cyc.whole_flip l' ((p + i) / 8) ((p + i) % 8) h3 hj (by omega)
  refine ⟨2 ^ i * 1 + e, by rw [Nat.pow_succ]; omega, by simp [h2], ?_, ?_, ?_⟩
  · intro x hx
    rcases List.mem_or_eq_of_mem_set hx with hm | rfl
    · exact h3 x hm
    · have hb := h3.getD ((p + i) / 8)
      have : (l'[(p + i) / 8]?.getD 0).toNat ^^^ 2 ^ ((p + i) % 8) < 2 ^ 8 := Nat.xor_lt_two_pow (by omega) (Nat.pow_lt_pow_right (by omega) (by omega))
      omega
  · rw [hw, h4, show 8 * ((p + i) / 8) + (p + i) % 8 = p + i by omega, Cyc.add_xor 1 h1, pow_mul_xor, Nat.xor_comm (2 ^ p * (2 ^ i * 1)), ← Nat.xor_assoc]
    congr 1
    rw [Nat.mul_one, ← Nat.pow_add]
  · have : 2 ^ i * 1 + e ≠ 0 := by have := Nat.pow_pos (n := i) (show 0 < 2 by omega); omega
    rw [decide_eq_false this]
theorem turned_sum {l l' : List Int} {p : Nat} {same : Bool} (hl : Leb.Bytes l) (h : Turned l p 32 l' same) (hp : p ≤ 8 * l.length) :
    (4294967295 - regs tab0 [l'] == 4294967295 - regs tab0 [l]) = same := by
  obtain ⟨e, h1, h2, h3, h4, h5⟩ := h
  have ha := Cyc.reg_apart (x := l) (y := l') hl h3 h2 (e := e) (by simpa using h1) hp h4 4294967295
  have e1 : ∀ z : List Int, Leb.Bytes z → regs tab0 [z] = Cyc.reg 4294967295 z ∧ regs tab0 [z] < 4294967296 := fun z hz => by
    have : regs tab0 [z] = Cyc.reg 4294967295 z := by
      unfold regs
      rw [show [z].flatten = z by simp, byTab_tab0 z _ hz, Cyc.byTab_tab z _ hz]
    exact ⟨this, regs_lt tab0 tab0_lt _⟩
  obtain ⟨a1, a2⟩ := e1 l hl
  obtain ⟨b1, b2⟩ := e1 l' h3
  rw [h5, Bool.eq_iff_iff, beq_iff_eq, decide_eq_true_iff, ← ha, ← a1, ← b1]
  omega

theorem parts_one (w : World) {A1 : Option Addr} {c1 : Nat} {l1 : List Int} (h1 : Holds w A1 l1.length c1 l1) :
    Parts (w.alloc (.cells #[.slice A1 l1.length c1] 28)) (some ⟨w.heap.size, 0, Option.none⟩) 1 [l1] := by
  obtain ⟨P, c, e, h⟩ := pp_one w h1
  injection e with e1 e2 e3
  rw [e1]
  exact h

theorem owns_cells {w : World} {base : Nat} {e : TypeId} {X : Option Addr} {n c : Nat} {l : List Int} (h : Owns w base e (.slice X n c) l) (hn : 0 < n) :
    ∃ g, X = some ⟨g, 0, Option.none⟩ ∧ (∀ j, j < l.length → w.cell? ⟨g, j, Option.none⟩ = some (.int .u8 (l[j]?.getD 0))) ∧ ∀ j, w.frozen? ⟨g, j, Option.none⟩ = false := by
  have hr := h.2
  rcases hr.2 with ⟨h1, h2⟩ | ⟨g, cap, cur, h1, rest⟩
  · injection h1 with _ h3 _
    omega
  · injection h1 with h3 h4 h5
    subst h3
    subst h4
    subst h5
    refine ⟨g, rfl, fun j hj => ?_, fun j => hr.frozenAt j⟩
    rw [hr.cellAt j (by omega)]
    simp [List.getElem?_eq_getElem hj]
theorem owns_stored {w : World} {base : Nat} {e : TypeId} {g n c : Nat} {l : List Int} (h : Owns w base e (.slice (some ⟨g, 0, Option.none⟩) n c) l) (j y : Nat) (hy : y < 256) :
    Owns (w.setCell ⟨g, j, Option.none⟩ (.int .u8 (y : Int))) base e (.slice (some ⟨g, 0, Option.none⟩) n c) (l.set j (y : Int)) ∧ base ≤ g := by
  have hr := h.2
  have hn : n = l.length := by
    rcases hr.2 with ⟨h1, h2⟩ | ⟨g', cap, cur, h1, rest⟩
    · injection h1 with h3
      cases h3
    · injection h1
  subst hn
  have hs := (hr.stored j (.int .u8 (y : Int))).1
  refine ⟨⟨fun x hx => ?_, ?_⟩, (hr.lt g rfl).1⟩
  · rcases List.mem_or_eq_of_mem_set hx with hm | rfl
    · exact h.1 x hm
    · omega
  · rw [List.length_set, List.map_set]
    exact hs

theorem xor_bit (y m : Nat) (hy : y < 256) (hm : m < 8) : bits .xor .u8 (y : Int) ((2 : Int) ^ m % 256) = ((y ^^^ 2 ^ m : Nat) : Int) := by
  have hp : 2 ^ m < 256 := Nat.lt_of_lt_of_le (Nat.pow_lt_pow_right (by omega) hm) (by decide)
  have e : (2 : Int) ^ m % 256 = ((2 ^ m : Nat) : Int) := by
    rw [show (2 : Int) ^ m = ((2 ^ m : Nat) : Int) by simp]
    generalize 2 ^ m = z at hp
    omega
  rw [e]
  exact bits_xor8 y (2 ^ m) hy hp

/-- The loop's relation. -/
def ApRel (w : World) (l : List Int) (p : Nat) (v s i : Value) (wr : World) : Prop :=
  ∃ (k : Nat) (l' : List Int) (sm : Bool), k ≤ 32 ∧ i = .int .i64 k ∧ s = .bool sm ∧ Owns wr w.heap.size 5 v l' ∧ Turned l p k l' sm ∧ Below w.heap.size w wr

set_option maxRecDepth 100000 in
set_option maxHeartbeats 1600000 in
theorem cycApart_said (hT : TableSaid) (hS : SumSaid) (hP : PutSaid) (A : Option Addr) (na ca : Nat) (la0 : List Int) (q b : Nat) (w : World)
    (hA : Holds w A na ca la0) (hq : q < 65536) (_hb : b < 4294967296) :
    Calls Try.prog 5 #[.slice A na ca, .int .u16 q, .int .u32 b] w (Yes w) := by
  obtain ⟨i0, hi0, hz0, hz1, hz2⟩ := info_parts info8
  obtain ⟨l, kl, HA0, SA0⟩ := cshort_later hA
  have KA := Lib.hid SA0
  clear SA0 hA
  have hO1 := Lib.hid (owns_lit w w.heap.size 5 #[] [] rfl Leb.Bytes.nil (by simp) (Nat.le_refl _))
  have bw : Below w.heap.size w (w.alloc (.cells #[] 5)) := (Below.refl _ _).alloc (Nat.le_refl _) _
  have hH1 := Lib.hid (HA0.later bw)
  go_enter Try.func5, Try.ntmps5
  go_wp2_with fail
  refine (KA.out _ bw).mono ?_
  rintro e w' ⟨rfl, rfl⟩
  by_cases h0 : l.length = 0
  · have hl0 : l = [] := List.eq_nil_of_length_eq_zero h0
    subst hl0
    go_wp2_with (at_builtin; refine wpList_append_bytes rfl (.tmp 12) (.tmp 14) 28 rfl w.heap.size 5 i0 Try.underlying28 hi0 hz0 hz1 hz2 (.slice (some ⟨w.heap.size, 0, Option.none⟩) 0 0) [] rfl hO1.out A 0 ca [] rfl hH1.out (by simp) bw.size ?_; intro v3 w3 hown3 hg3 hat3; have bw3 : Below w.heap.size w w3 := below_own bw hO1.out hg3 bw.size; obtain ⟨X, cx, rfl, HX⟩ := hown3.holds; clear hown3 hg3 hat3)
    refine (cycAwake_any hT hS hP _).mono ?_
    rintro e w4 ⟨rfl, hb4⟩
    go_wp2
    go_ret
    exact ⟨rfl, bw3.trans (hb4.mono bw3.size)⟩
  · have bl : ((l.length : Int) == 0) = false := by rw [beq_eq_false_iff_ne]; omega
    go_wp2_with (at_builtin; refine wpList_append_bytes rfl (.tmp 12) (.tmp 14) 28 rfl w.heap.size 5 i0 Try.underlying28 hi0 hz0 hz1 hz2 (.slice (some ⟨w.heap.size, 0, Option.none⟩) 0 0) [] rfl hO1.out A l.length ca l rfl hH1.out (by simp; omega) bw.size ?_; intro v3 w3 hown3 hg3 hat3; have bw3 : Below w.heap.size w w3 := below_own bw hO1.out hg3 bw.size; rw [List.nil_append] at hown3; have Ho3 := Lib.hid hown3; obtain ⟨X, cx, rfl, HX⟩ := hown3.holds; clear hown3 hg3 hat3)
    clear hO1 bw hH1 KA
    have hlen := Lib.hid HX.len
    have hbyt := Lib.hid HX.byt
    refine (hT w3).mono ?_
    rintro e w4 ⟨rfl, hb4⟩
    have b4 := bw3.trans (hb4.mono bw3.size)
    have Hp := Lib.hid (parts_one w4 (HX.later hb4))
    go_wp2_with fail
    refine (hS tab0 tab0_lt _ 1 1 [l] _ Hp.out (by omega)).mono ?_
    rintro e w5 ⟨rfl, hb5⟩
    have b45 : Below w4.heap.size w4 w5 := ((Below.refl _ _).alloc (Nat.le_refl _) _).trans (hb5.mono (by simp))
    have b35 : Below w3.heap.size w3 w5 := hb4.trans (b45.mono hb4.size)
    have b5 : Below w.heap.size w w5 := bw3.trans (b35.mono bw3.size)
    have Ho5 := Ho3.out.kept b35 (Nat.le_refl _)
    obtain ⟨S, hSv⟩ : ∃ S, 4294967295 - regs tab0 [l] = S := ⟨_, rfl⟩
    rw [hSv]
    have HSv := Lib.hid hSv
    clear hSv Hp hb4 hb5 b45 b35 bw3 b4 Ho3 HX
    go_wp2
    obtain ⟨p, hp⟩ : ∃ p, q % (8 * l.length) = p := ⟨_, rfl⟩
    have hpl : p < 8 * l.length := by rw [← hp]; exact Nat.mod_lt _ (by omega)
    have Hp := Lib.hid hp
    clear hp
    go_loopw [9, 10] (fun s i wr => ApRel w l p (.slice X l.length cx) s i wr) (fun _ i _ => 32 - (intOf i).toNat)
    case atStart => exact ⟨0, l, true, by omega, rfl, rfl, Ho5, turned_start hbyt.out p, b5⟩
    case round =>
      obtain ⟨k, l', sm, hk, rfl, rfl, hown, htu, hbr⟩ := hrel
      by_cases h32 : k < 32
      · have e1 : (q : Int) % (8 * (l.length : Int)) = (p : Int) := by rw [← Hp.out]; simp
        by_cases hbit : bits .and .u32 ((b : Int) / 2 ^ k) 1 = 1
        · by_cases hkl : p + k < 8 * l.length
          · obtain ⟨_, _, hl', hb', _⟩ := id htu
            obtain ⟨g, hX, hcs, hfr⟩ := owns_cells hown (by omega)
            subst hX
            have hj : (p + k) / 8 < l'.length := by omega
            have hcell := hcs _ hj
            have hfz := hfr ((p + k) / 8)
            have hyb := hb'.getD ((p + k) / 8)
            obtain ⟨y, hy⟩ : ∃ y : Nat, l'[(p + k) / 8]?.getD 0 = (y : Int) := ⟨(l'[(p + k) / 8]?.getD 0).toNat, by omega⟩
            have hfl := Lib.hid (turned_flip htu hkl)
            rw [hy] at hcell hyb hfl
            rw [Int.toNat_natCast] at hfl
            have hst := Lib.hid (owns_stored hown ((p + k) / 8) (y ^^^ 2 ^ ((p + k) % 8)) (by
              have : y ^^^ 2 ^ ((p + k) % 8) < 2 ^ 8 := Nat.xor_lt_two_pow (by omega) (Nat.pow_lt_pow_right (by omega) (by omega))
              omega))
            have hbs := Lib.hid hbr
            clear hcs hfr hown htu hb' hl' hbr hy
            have hval := Lib.hid (xor_bit y ((p + k) % 8) (by omega) (by omega))
            go_wp2
            go_roundw
            case rel =>
              refine ⟨k + 1, _, false, by omega, by go_num, rfl, ?_, hfl.out, ?_⟩
              · rw [hval.out]
                exact hst.out.1
              · exact hbs.out.setCell hst.out.2 _
            case measure => simp [intOf]; omega
          · go_wp2
            go_roundw
            case rel => exact ⟨k + 1, l', sm, by omega, by go_num, rfl, hown, turned_keep htu, hbr⟩
            case measure => simp [intOf]; omega
        · go_wp2
          go_roundw
          case rel => exact ⟨k + 1, l', sm, by omega, by go_num, rfl, hown, turned_keep htu, hbr⟩
          case measure => simp [intOf]; omega
      · obtain rfl : k = 32 := by omega
        have hsum := turned_sum hbyt.out htu (by omega)
        rw [HSv.out] at hsum
        have hl' : l'.length = l.length := by obtain ⟨_, _, h, _⟩ := htu; exact h
        obtain ⟨X', cx', hv, HX⟩ := hown.holds
        rw [hl'] at hv
        injection hv with hv1 _ hv3
        subst hv1
        subst hv3
        have Hlen := Lib.hid hl'
        have Hsum := Lib.hid hsum
        have HXr := Lib.hid HX
        clear htu hown hl' hsum HX hlen hbyt HSv Hp
        go_wp2_with fail
        refine (cycAwake_any hT hS hP wr).mono ?_
        rintro e w6 ⟨rfl, hb6⟩
        have b6 := hbr.trans (hb6.mono hbr.size)
        go_wp2_with fail
        refine (hT w6).mono ?_
        rintro e w7 ⟨rfl, hb7⟩
        have b7 := b6.trans (hb7.mono b6.size)
        have H7 := (HXr.out.later hb6).later hb7
        have hpar := parts_one w7 H7
        rw [Hlen.out] at hpar
        have Hpar := Lib.hid hpar
        clear H7 hpar
        go_wp2_with fail
        refine (hS tab0 tab0_lt _ 1 1 [l'] _ Hpar.out (by omega)).mono ?_
        rintro e w8 ⟨rfl, hb8⟩
        have b8 : Below w.heap.size w w8 := (b7.alloc b7.size _).trans (hb8.mono (by have := b7.size; simp; omega))
        have hs1 := Hsum.out
        generalize 4294967295 - regs tab0 [l'] = S' at *
        cases sm with
        | true =>
          have e2 : ((S' : Int) == (S : Int)) = true := by rw [beq_iff_eq]; rw [beq_iff_eq] at hs1; omega
          clear hs1 Hsum
          go_wp2
          go_ret
          exact ⟨rfl, b8⟩
        | false =>
          have e2 : ((S' : Int) == (S : Int)) = false := by rw [beq_eq_false_iff_ne]; rw [beq_eq_false_iff_ne] at hs1; omega
          clear hs1 Hsum
          go_wp2
          go_ret
          exact ⟨rfl, b8⟩
end Go.Proofs.Ytjcbndnldmpmaaa
