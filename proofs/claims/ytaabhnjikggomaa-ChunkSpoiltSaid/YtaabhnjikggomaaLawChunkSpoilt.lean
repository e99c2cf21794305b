/-
  The walk of the statement ChunkSpoilt: for any bytes, any place and any bits it returns true, and nothing that was there is changed.
-/
import Derived.Test.YtaabhnjikggomaaSpoiltMath
import Derived.Test.YtaabhnjikggomaaChunkRoundX
namespace Go.Proofs.Ytaabhnjikggomaa
open Go.RowKit Leb

theorem val_int {a b : Int} (h : a = b) : Value.int .i64 a = .int .i64 b := by rw [h]

/-- The length of the number at the head of a piece of so many bytes. -/
def hd (n : Nat) : Nat := if 127 < n then 2 else 1
theorem enc_hd {n : Nat} (h : n ≤ 256) : (enc n).length = hd n := by
  unfold hd
  split
  · rw [enc_big (by omega), enc_small (by omega)]
    rfl
  · rw [enc_small (by omega)]
    rfl
/-- Where piece number k of n bytes begins. -/
def frm (n : Nat) : Nat → Nat
  | 0 => 0
  | k + 1 => frm n k + hd (min 256 (n - 256 * k)) + min 256 (n - 256 * k) + 4
theorem frm_outs (l : List Int) : ∀ (k : Nat), k ≤ Chunk.many l → (outsR (sum4 tab0) l k).length = frm l.length k
  | 0, _ => by simp [outsR, frm]
  | k + 1, h => by
    rw [outsR_step (by omega), List.length_append, frm_outs l k (by omega), Chunk.piece_length (sum4_sums tab0), Chunk.part_length, enc_hd (by omega), frm]
    omega
theorem frm_le (n : Nat) : ∀ (k : Nat), frm n k ≤ 262 * k
  | 0 => by simp [frm]
  | k + 1 => by
    have := frm_le n k
    have h : hd (min 256 (n - 256 * k)) ≤ 2 := by unfold hd; split <;> omega
    rw [frm]
    omega

/-- What the first loop has found when i rounds are over. -/
def SpRel (n : Nat) (i f s h : Nat) : Prop := (i = 0 ∧ f = 0 ∧ s = 0 ∧ h = 0) ∨ ∃ k, i = k + 1 ∧ f = frm n k ∧ s = min 256 (n - 256 * k) ∧ h = hd s
theorem spRel_bd {n i f s h : Nat} (hr : SpRel n i f s h) (hi : i ≤ 5) : f ≤ 1400 ∧ s ≤ 256 ∧ h ≤ 2 := by
  rcases hr with ⟨_, rfl, rfl, rfl⟩ | ⟨k, rfl, rfl, rfl, rfl⟩
  · omega
  · have h1 := frm_le n k
    have h2 : hd (min 256 (n - 256 * k)) ≤ 2 := by unfold hd; split <;> omega
    omega
theorem spRel_step {n i f s h : Nat} (hr : SpRel n i f s h) {f' s' h' : Nat} (hf : f' = f + (h + s) + (if 0 < i then 4 else 0)) (hs : s' = min 256 (n - 256 * i)) (hh : h' = hd s') : SpRel n (i + 1) f' s' h' := by
  refine .inr ⟨i, rfl, ?_, hs, hh⟩
  rcases hr with ⟨rfl, rfl, rfl, rfl⟩ | ⟨k, rfl, rfl, rfl, rfl⟩
  · simpa [frm] using hf
  · rw [hf, frm, if_pos (by omega)]
    omega

theorem mid_get {a z r : List Int} {i : Nat} (h : i < z.length) : (a ++ z ++ r)[a.length + i]?.getD 0 = z[i]?.getD 0 := by
  rw [List.append_assoc, List.getElem?_append_right (by omega), Nat.add_sub_cancel_left, List.getElem?_append_left h]
theorem mid_set {a z r : List Int} {i : Nat} (h : i < z.length) (y : Int) : (a ++ z ++ r).set (a.length + i) y = a ++ z.set i y ++ r := by
  rw [List.append_assoc, List.set_append_right _ _ (by omega), Nat.add_sub_cancel_left, List.set_append_left _ _ h, List.append_assoc]

/-- The second loop's relation. -/
def TwRel (w : World) (T : Array Value) (g : Nat) (v : Value) (a z post : List Int) (p : Nat) (s i : Value) (wr : World) : Prop :=
  ∃ (k : Nat) (z' : List Int) (sm : Bool), k ≤ 32 ∧ i = .int .i64 k ∧ s = .bool sm ∧ Owns wr (g + 1) 5 v (a ++ z' ++ post) ∧ Turned z p k z' sm ∧ wr.heap[g]? = some (.cells T 25 (0, 0)) ∧ Below w.heap.size w wr

set_option maxRecDepth 100000 in
set_option maxHeartbeats 4000000 in
theorem chunkSpoilt_law (A : Option Addr) (n c : Nat) (l0 : List Int) (wh q b : Nat) (w : World) (hA : Holds w A n c l0) (hwh : wh < 65536) (hq : q < 65536) (_hb : b < 4294967296) :
    Calls Try.prog 6 #[.slice A n c, .int .u16 wh, .int .u16 q, .int .u32 b] w (Yes w) := by
  obtain ⟨l, kl, HA0, SA0⟩ := short3_later hA
  have KA := Lib.hid SA0
  clear SA0 hA
  go_enter Try.func6, Try.ntmps6
  go_wp2_with fail
  refine (table_said w).mono ?_
  rintro e wt ⟨rfl, hbt⟩
  have HiT := Lib.hid (show (Try.prog.info? 25).map (·.size) = some (cells32 tab0).toArray.size by rw [info32]; simp [length_cells32])
  go_wp2_with (with_reducible refine wpList_table rfl _ _ rfl rfl wt.heap.size rfl tab0 rfl rfl ?_; intro w2 ht0 hg2 hb2; have HiT' := HiT.out; obtain ⟨T, hT⟩ : ∃ T, T = (cells32 tab0).toArray := ⟨_, rfl⟩; rw [← hT] at hg2 HiT'; have HT := Lib.hid hT; clear hT ht0 HiT)
  have hbw : Below w.heap.size w w2 := hbt.trans (hb2.mono hbt.size)
  refine (KA.out w2 hbw).mono ?_
  rintro e w' ⟨rfl, rfl⟩
  have hpk := pack_any tab0 tab0_lt A l.length c l w2 (HA0.later hbw) (by omega)
  rw [← HT.out] at hpk
  have Hpk := Lib.hid hpk
  have Hwt := Lib.hid hbt.size
  clear hpk hb2 hbt KA
  go_wp2_with (with_reducible refine wpList_load_row rfl _ _ rfl wt.heap.size rfl 25 T (0, 0) _ hg2 Try.underlying25 rfl HiT' ?_)
  refine Hpk.out.mono ?_
  rintro e w3 ⟨v3, rfl, hown3, hb3⟩
  have hbw3 : Below w.heap.size w w3 := hbw.trans (hb3.mono hbw.size)
  have hgl : wt.heap.size < w2.heap.size := (Array.getElem?_eq_some_iff.1 hg2).1
  have hg3 := (hb3.block _ hgl).trans hg2
  have hws := Hwt.out
  have hws2 := hbw.size
  obtain ⟨s, hs⟩ : ∃ s, Chunk.pack (sum4 tab0) l = s := ⟨_, rfl⟩
  rw [hs] at hown3
  have hown3' := hown3
  obtain ⟨As, cs, rfl, hs3⟩ := hown3'.holds
  have Hs := Lib.hid hs
  have Hg3 := Lib.hid hg3
  clear hs Hpk hg2 hb3 hown3' hg3
  generalize wt.heap.size = g at *
  by_cases hl0 : l.length = 0
  · obtain rfl : l = [] := List.eq_nil_of_length_eq_zero hl0
    go_wp2_with fail
    refine (awake3_any w3).mono ?_
    rintro e w4 ⟨rfl, hb4⟩
    go_wp2_with fail
    go_ret
    exact ⟨rfl, hbw3.trans (hb4.mono hbw3.size)⟩
  · have bl : ((l.length : Int) == 0) = false := by rw [beq_eq_false_iff_ne]; omega
    have hsl : l.length ≤ s.length := by rw [← Hs.out]; exact pack_ge (sum4_sums tab0) l.length l (Nat.le_refl _)
    have hsu : s.length ≤ 1400 := by
      have := pack_le (sum4_sums tab0) l
      have hmb : Chunk.many l ≤ 4 := by unfold Chunk.many; omega
      rw [Hs.out] at this
      omega
    have bs : ((s.length : Int) == 0) = false := by rw [beq_eq_false_iff_ne]; omega
    obtain ⟨M, hM⟩ : ∃ M, M = Chunk.many l := ⟨_, rfl⟩
    have hM1 : M = (l.length + 255) / 256 := by rw [hM]; rfl
    have HM := Lib.hid hM
    have e1 : ((l.length : Int) + 255) / 256 = (M : Int) := by omega
    have hMb : 1 ≤ M ∧ M ≤ 4 := by omega
    have bM : ((M : Int) == 0) = false := by rw [beq_eq_false_iff_ne]; omega
    obtain ⟨K, hK⟩ : ∃ K, wh % M = K := ⟨_, rfl⟩
    have hKM : K < M := by rw [← hK]; exact Nat.mod_lt _ (by omega)
    have e2 : (wh : Int) % (M : Int) = (K : Int) := by rw [← hK]; simp
    clear hM hM1 hK
    go_wp2_with fail
    simp only [e1, e2]
    clear e1 e2 bM bs bl
    go_loop [14, 15, 16, 17] (fun x y z i => ∃ (j f0 s0 h0 : Nat), j ≤ K + 1 ∧ i = .int .i64 j ∧ x = .int .i64 f0 ∧ y = .int .i64 s0 ∧ z = .int .i64 h0 ∧ SpRel l.length j f0 s0 h0) (fun _ _ _ i => K + 1 - (intOf i).toNat)
    case atStart => exact ⟨0, 0, 0, 0, by omega, rfl, rfl, rfl, rfl, .inl ⟨rfl, rfl, rfl, rfl⟩⟩
    case round =>
      obtain ⟨j, f0, s0, h0, hj, rfl, rfl, rfl, rfl, hrel⟩ := hrel
      obtain ⟨hf0, hs0, hh0⟩ := spRel_bd hrel (by omega)
      have Hrel := Lib.hid hrel
      clear hrel
      by_cases hjK : j ≤ K
      · have HS := fun f' s' h' => @spRel_step l.length j f0 s0 h0 Hrel.out f' s' h'
        have HS' := Lib.hid HS
        clear HS
        have hM' := HM.out
        have hjl : 256 * j < l.length := by
          have : M = (l.length + 255) / 256 := by rw [hM']; rfl
          omega
        clear hM'
        by_cases h256 : 256 < l.length - 256 * j
        · by_cases hj0 : 0 < j
          · go_wp2
            go_round
            case rel => exact ⟨j + 1, f0 + (h0 + s0) + 4, 256, 2, by omega, by go_num, val_int (by omega), val_int (by omega), rfl, HS'.out _ _ _ (by rw [if_pos hj0]) (by omega) (by decide)⟩
            case measure => simp [intOf]; omega
          · go_wp2
            go_round
            case rel => exact ⟨j + 1, f0 + (h0 + s0), 256, 2, by omega, by go_num, val_int (by omega), val_int (by omega), rfl, HS'.out _ _ _ (by rw [if_neg hj0, Nat.add_zero]) (by omega) (by decide)⟩
            case measure => simp [intOf]; omega
        · by_cases h127 : 127 < l.length - 256 * j
          · by_cases hj0 : 0 < j
            · go_wp2
              go_round
              case rel => exact ⟨j + 1, f0 + (h0 + s0) + 4, (l.length - 256 * j), 2, by omega, by go_num, val_int (by omega), val_int (by omega), rfl, HS'.out _ _ _ (by rw [if_pos hj0]) (by omega) (by unfold hd; rw [if_pos (by omega)])⟩
              case measure => simp [intOf]; omega
            · go_wp2
              go_round
              case rel => exact ⟨j + 1, f0 + (h0 + s0), (l.length - 256 * j), 2, by omega, by go_num, val_int (by omega), val_int (by omega), rfl, HS'.out _ _ _ (by rw [if_neg hj0, Nat.add_zero]) (by omega) (by unfold hd; rw [if_pos (by omega)])⟩
              case measure => simp [intOf]; omega
          · by_cases hj0 : 0 < j
            · go_wp2
              go_round
              case rel => exact ⟨j + 1, f0 + (h0 + s0) + 4, (l.length - 256 * j), 1, by omega, by go_num, val_int (by omega), val_int (by omega), rfl, HS'.out _ _ _ (by rw [if_pos hj0]) (by omega) (by unfold hd; rw [if_neg (by omega)])⟩
              case measure => simp [intOf]; omega
            · go_wp2
              go_round
              case rel => exact ⟨j + 1, f0 + (h0 + s0), (l.length - 256 * j), 1, by omega, by go_num, val_int (by omega), val_int (by omega), rfl, HS'.out _ _ _ (by rw [if_neg hj0, Nat.add_zero]) (by omega) (by unfold hd; rw [if_neg (by omega)])⟩
              case measure => simp [intOf]; omega
      · have hjK1 : j = K + 1 := by omega
        have hend := Hrel.out
        rw [hjK1] at hend
        have hKm : K < Chunk.many l := by rw [← HM.out]; exact hKM
        have hpl := Chunk.part_length l K
        obtain ⟨hf1, hs1, hh1⟩ : f0 = (outsR (sum4 tab0) l K).length ∧ s0 = (Chunk.part l K).length ∧ h0 = (enc (Chunk.part l K).length).length := by
          rcases hend with ⟨h, _⟩ | ⟨k, h1, h2, h3, h4⟩
          · omega
          · obtain rfl : k = K := by omega
            rw [frm_outs l k (by omega), hpl, enc_hd (by omega), ← h3]
            exact ⟨h2, rfl, h4⟩
        obtain ⟨post, hpost⟩ := pack_split (sum4 tab0) hKm
        obtain ⟨a, ha⟩ : ∃ a, a = outsR (sum4 tab0) l K ++ enc (Chunk.part l K).length := ⟨_, rfl⟩
        obtain ⟨z, hz⟩ : ∃ z, z = Chunk.part l K ++ sum4 tab0 (enc (Chunk.part l K).length ++ Chunk.part l K) := ⟨_, rfl⟩
        have hsz : s = a ++ z ++ post := by
          rw [← Hs.out, hpost, ha, hz, Chunk.piece]
          simp
        have hal : a.length = f0 + h0 := by rw [ha, List.length_append, hf1, hh1]
        have hzl : z.length = s0 + 4 := by rw [hz, List.length_append, (sum4_sums tab0).len, hs1]
        have hsl2 : f0 + h0 + s0 + 4 ≤ s.length := by rw [hsz]; simp; omega
        have hzb : Bytes z := by
          rw [hz]
          exact ((HA0.byt.drop _).take _).append ((sum4_sums tab0).byt _)
        have hsp := fun p z' same (ht : Turned z p 32 z' same) (hp : p ≤ 8 * (s0 + 4)) => (show Chunk.unpack (sum4 tab0) (a ++ z' ++ post) 0 = if same = true then (l, (s.length : Int), 0) else ([], 0, 6) by
          have := spoilt HA0.byt hKm hpost (p := p) (z' := z') (same := same) (by rw [← hz]; exact ht) (by rw [← hs1]; exact hp)
          rw [← ha, Hs.out] at this
          exact this)
        have Hsp := Lib.hid hsp
        have Hsz := Lib.hid hsz
        have Hal := Lib.hid hal
        have Hzl := Lib.hid hzl
        have Hzb := Lib.hid hzb
        clear Hrel hend hjK1 hsp hsz hal hzl hzb hf1 hs1 hh1 hpl hpost ha hz
        go_wp2
        obtain ⟨F1, hF1⟩ : ∃ F1, F1 = 8 * (f0 + h0) := ⟨_, rfl⟩
        obtain ⟨D, hD⟩ : ∃ D, D = 8 * (s0 + 4) := ⟨_, rfl⟩
        obtain ⟨F2, hF2⟩ : ∃ F2, F2 = F1 + D := ⟨_, rfl⟩
        have e3 : (8 * ((f0 : Int) + h0)) = (F1 : Int) := by omega
        have e4 : (8 * ((f0 : Int) + h0 + s0 + 4)) = (F2 : Int) := by omega
        rw [e4, e3]
        clear e3 e4
        have hDb : 32 ≤ D ∧ D ≤ 2080 := by omega
        have hFb : F1 ≤ 12000 ∧ F2 ≤ 14080 := by omega
        obtain ⟨p, hp⟩ : ∃ p, q % D = p := ⟨_, rfl⟩
        have hpD : p < D := by rw [← hp]; exact Nat.mod_lt _ (by omega)
        obtain ⟨P, hP⟩ : ∃ P, P = F1 + p := ⟨_, rfl⟩
        have HF1 := Lib.hid hF1
        have HD := Lib.hid hD
        have HF2 := Lib.hid hF2
        have Hp := Lib.hid hp
        have HP := Lib.hid hP
        have hPb : P ≤ 15000 := by omega
        clear hF1 hD hF2 hp hP
        have hown3' : Owns w3 (g + 1) 5 (.slice As s.length cs) (a ++ z ++ post) := by rw [← Hsz.out]; exact hown3.low (by omega)
        have hAs : ∃ gs, As = some ⟨gs, 0, Option.none⟩ ∧ g + 1 ≤ gs := by
          obtain ⟨gs, h, _⟩ := owns_cells hown3' (by omega)
          exact ⟨gs, h, (owns_at hown3' gs 0 h).1⟩
        obtain ⟨gs, rfl, hgs⟩ := hAs
        clear hown3 hs3
        go_loopw [18, 21] (fun x i wr => TwRel w T g (.slice (some ⟨gs, 0, Option.none⟩) s.length cs) a z post p x i wr) (fun _ i _ => 32 - (intOf i).toNat)
        case atStart => exact ⟨0, z, true, by omega, rfl, rfl, hown3', turned_start Hzb.out p, Hg3.out, hbw3⟩
        case round =>
          obtain ⟨k, z', sm, hk, rfl, rfl, hown, htu, hgr, hbr⟩ := hrel
          clear hown3'
          have hl' : z'.length = s0 + 4 := by
            obtain ⟨_, _, h, _⟩ := id htu
            rw [h, Hzl.out]
          have Hl' := Lib.hid hl'
          have Hgr := Lib.hid hgr
          clear hl' hgr
          by_cases h32 : k < 32
          · have e5 : (F2 : Int) - F1 = (D : Int) := by have := HF2.out; omega
            have e6 : (q : Int) % (D : Int) = (p : Int) := by rw [← Hp.out]; simp
            have e7 : (F1 : Int) + p = (P : Int) := by have := HP.out; omega
            by_cases hbit : bits .and .u32 ((b : Int) / 2 ^ k) 1 = 1
            · by_cases hkl : P + k < F2
              · have hkz : p + k < 8 * z.length := by
                  have h1 := HP.out
                  have h2 := HF2.out
                  have h3 := HD.out
                  have h4 := Hzl.out
                  omega
                have hj : (p + k) / 8 < z'.length := by
                  have h3 := Hl'.out
                  have h4 := Hzl.out
                  omega
                have hji : (P + k) / 8 = a.length + (p + k) / 8 ∧ (P + k) % 8 = (p + k) % 8 := by
                  have h1 := HP.out
                  have h2 := HF1.out
                  have h3 := Hal.out
                  omega
                obtain ⟨g', hX, hcs, hfr⟩ := owns_cells hown (by omega)
                injection hX with hX
                injection hX with hX
                subst hX
                have hcell := hcs ((P + k) / 8) (by rw [hji.1]; simp; omega)
                have hfz := hfr ((P + k) / 8)
                rw [hji.1, mid_get hj, ← hji.1] at hcell
                obtain ⟨_, _, _, hb', _⟩ := id htu
                have hyb := hb'.getD ((p + k) / 8)
                obtain ⟨y, hy⟩ : ∃ y : Nat, z'[(p + k) / 8]?.getD 0 = (y : Int) := ⟨(z'[(p + k) / 8]?.getD 0).toNat, by omega⟩
                have hfl := Lib.hid (turned_flip htu hkz)
                rw [hy] at hcell hyb hfl
                rw [Int.toNat_natCast, ← hji.2] at hfl
                have hyx : y ^^^ 2 ^ ((P + k) % 8) < 256 := by
                  have : y ^^^ 2 ^ ((P + k) % 8) < 2 ^ 8 := Nat.xor_lt_two_pow (by omega) (Nat.pow_lt_pow_right (by omega) (by omega))
                  omega
                have hst := owns_stored hown ((P + k) / 8) (y ^^^ 2 ^ ((P + k) % 8)) hyx
                rw [show (a ++ z' ++ post).set ((P + k) / 8) ((y ^^^ 2 ^ ((P + k) % 8) : Nat) : Int) = a ++ z'.set ((p + k) / 8) ((y ^^^ 2 ^ ((P + k) % 8) : Nat) : Int) ++ post by rw [hji.1, mid_set hj]] at hst
                have Hst := Lib.hid hst
                have hval := Lib.hid (xor_bit y ((P + k) % 8) (by omega) (by omega))
                have hlen8 : (P + k) / 8 < s.length := by
                  have h1 := Hal.out
                  have h2 := Hl'.out
                  omega
                clear hcs hfr hown htu hb' hy hst hji hyx
                have Hgs : Hid (g ≠ gs) := by unfold Hid; omega
                go_wp2
                go_roundw
                case rel =>
                  refine ⟨k + 1, _, false, by omega, by go_num, rfl, ?_, hfl.out, ?_, ?_⟩
                  · rw [hval.out]
                    exact Hst.out.1
                  · rw [heap_setCell_other _ _ _ _ (by simpa using Hgs.out), Hgr.out]
                  · exact hbr.setCell (p := ⟨gs, (P + k) / 8, Option.none⟩) (by simp; omega) _
                case measure => simp [intOf]; omega
              · go_wp2
                go_roundw
                case rel => exact ⟨k + 1, z', sm, by omega, by go_num, rfl, hown, turned_keep htu, Hgr.out, hbr⟩
                case measure => simp [intOf]; omega
            · go_wp2
              go_roundw
              case rel => exact ⟨k + 1, z', sm, by omega, by go_num, rfl, hown, turned_keep htu, Hgr.out, hbr⟩
              case measure => simp [intOf]; omega
          · obtain rfl : k = 32 := by omega
            have hun := Hsp.out p z' sm htu (by have := HD.out; omega)
            have hll : (a ++ z' ++ post).length = s.length := by
              rw [Hsz.out]
              simp only [List.length_append, Hl'.out, Hzl.out]
            obtain ⟨X', cx', hv, HX⟩ := hown.holds
            rw [hll] at hv HX
            injection hv with hv1 _ hv3
            subst hv1
            subst hv3
            have hup := unpack_any tab0 tab0_lt (some ⟨gs, 0, Option.none⟩) s.length cs (a ++ z' ++ post) 0 wr HX (by omega)
            rw [hun, ← HT.out] at hup
            have Hup := Lib.hid hup
            have hgr := Hgr.out
            clear hun hll HX hown htu hup
            go_wp2_with (with_reducible refine wpList_load_row rfl _ _ rfl g rfl 25 T (0, 0) _ hgr Try.underlying25 rfl HiT' ?_)
            refine Hup.out.mono ?_
            rintro e w5 ⟨v5, rfl, ho5, hb5⟩
            have hbw5 : Below w.heap.size w w5 := hbr.trans (hb5.mono hbr.size)
            clear Hup hb5
            cases sm with
            | true =>
              rw [if_pos rfl] at ho5 ⊢
              obtain ⟨A5, c5, rfl, H5⟩ := ho5.holds
              have H5' := Lib.hid H5
              clear ho5 H5
              go_wp2_with fail
              refine (awake3_any w5).mono ?_
              rintro e w6 ⟨rfl, hb6⟩
              have r1 := run_text (P := Try.prog) 24 9 5 Try.underlying24 Try.underlying5 Try.underlying9 (H5'.out.later hb6)
              have r2 := run_text (P := Try.prog) 24 9 5 Try.underlying24 Try.underlying5 Try.underlying9 (HA0.later (hbw5.trans (hb6.mono hbw5.size)))
              go_wp2_with fail
              go_ret
              exact ⟨rfl, hbw5.trans (hb6.mono hbw5.size)⟩
            | false =>
              rw [if_neg (by simp)] at ho5 ⊢
              obtain ⟨A5, c5, rfl, H5⟩ := ho5.holds
              clear ho5 H5
              go_wp2_with fail
              refine (awake3_any w5).mono ?_
              rintro e w6 ⟨rfl, hb6⟩
              go_wp2_with fail
              go_ret
              exact ⟨rfl, hbw5.trans (hb6.mono hbw5.size)⟩
end Go.Proofs.Ytaabhnjikggomaa
