/-
  Texts of one sort, one behind the other: numbers, memory, regions, strings, headers. Conditions: those that each theorem states.
-/
import Derived.Test.YtodncamohimmmaaLow10
import Derived.Deep.RegionWith
import Derived.Test.YtodncamohimmmaaLow1

namespace Go.Proofs.Ytodncamohimmmaa
open Go.RowKit Leb

def RefTook (w : World) (r : Nat × Int × Int) (e : Ending) (w' : World) : Prop := e = .returned (.tuple #[.int .u64 r.1, .int .i64 r.2.1, .int .i64 r.2.2]) ∧ Below w.heap.size w w'

set_option maxRecDepth 100000 in
set_option maxHeartbeats 400000 in
theorem refTake_out (A : Option Addr) (n c : Nat) (l : List Int) (p : Int) (w : World) (hA : Holds w A n c l) (hp : p < 0 ∨ (n : Int) < p) :
    Calls Try.prog 46 #[.slice A n c, .int .i64 p] w (RefTook w (take l p)) := by
  have hlen := hA.len
  have e : take l p = (0, 0, 1) := by rw [take, if_pos (by rw [hlen]; exact hp)]
  rw [e]
  clear e hlen
  have h1 := hA.cap
  have h2 := hA.room
  unfold maxLen at h2
  rcases hp with hp | hp
  · go_enter Try.func46, Try.ntmps46
    go_wp2
    go_ret3
    exact ⟨rfl, Below.refl _ _⟩
  · go_enter Try.func46, Try.ntmps46
    go_wp2
    go_ret3
    exact ⟨rfl, Below.refl _ _⟩

set_option maxRecDepth 100000 in
set_option maxHeartbeats 400000 in
theorem refTake_short (A : Option Addr) (n c : Nat) (l : List Int) (p : Nat) (w : World) (hA : Holds w A n c l) (hp : p ≤ n) (h10 : n - p < 10)
    (hall : ∀ j, j < (l.drop p).length → j < 10 → 128 ≤ (l.drop p)[j]?.getD 0) :
    Calls Try.prog 46 #[.slice A n c, .int .i64 p] w (RefTook w (take l p)) := by
  have h1 := hA.cap
  have h2 := hA.room
  unfold maxLen at h2
  have e : take l p = (0, 0, 7) := by
    rw [take, if_neg (by rw [hA.len]; omega)]
    simp only [Int.toNat_natCast]
    rw [if_pos ⟨span_none hall, by rw [List.length_drop, hA.len]; exact h10⟩]
  rw [e]
  clear e
  have hcell : ∀ j, p ≤ j → j < n → ∃ b off, A = some ⟨b, off, Option.none⟩ ∧ ∃ x : Int, 128 ≤ x ∧ x ≤ 255 ∧ w.cell? ⟨b, off + j, Option.none⟩ = some (.int .u8 x) := by
    intro j hj hjn
    obtain ⟨b, off, e, hc⟩ := hA.cell (by omega)
    have h3 := hall (j - p) (by rw [List.length_drop, hA.len]; omega) (by omega)
    rw [List.getElem?_drop, show p + (j - p) = j by omega] at h3
    exact ⟨b, off, e, _, h3, (hA.byt.getD j).2, hc j hjn⟩
  have HC := Lib.hid hcell
  clear hcell hall
  go_enter Try.func46, Try.ntmps46
  go_wp2
  go_loop [7] (fun t => ∃ j : Nat, p ≤ j ∧ j ≤ n ∧ t = .int .i64 j) (fun t => n - (intOf t).toNat)
  case atStart => exact ⟨p, Nat.le_refl _, hp, rfl⟩
  case round =>
    obtain ⟨j, hj, hjn, rfl⟩ := hrel
    by_cases hlt : j < n
    · obtain ⟨b, off, rfl, x, hx, hx', hc⟩ := HC.out j hj hlt
      go_wp2
      go_round
      case rel => exact ⟨j + 1, by omega, by omega, by go_num⟩
      case measure => simp [intOf]; omega
    · obtain rfl : j = n := by omega
      go_wp2
      go_ret3
      exact ⟨rfl, Below.refl _ _⟩

set_option maxRecDepth 100000 in
set_option maxHeartbeats 400000 in
theorem refTake_long (A : Option Addr) (n c : Nat) (l : List Int) (p : Nat) (w : World) (hA : Holds w A n c l) (h10 : p + 10 ≤ n)
    (hall : ∀ j, j < (l.drop p).length → j < 10 → 128 ≤ (l.drop p)[j]?.getD 0) :
    Calls Try.prog 46 #[.slice A n c, .int .i64 p] w (RefTook w (take l p)) := by
  have h1 := hA.cap
  have h2 := hA.room
  unfold maxLen at h2
  have e : take l p = (0, 0, 4) := by
    rw [take, if_neg (by rw [hA.len]; omega)]
    simp only [Int.toNat_natCast]
    rw [if_neg (fun h => by have := h.2; rw [List.length_drop, hA.len] at this; omega), if_pos (.inl (span_none hall))]
  rw [e]
  clear e
  have hcell : ∀ j, p ≤ j → j < p + 10 → ∃ x : Int, 128 ≤ x ∧ x ≤ 255 ∧ ∃ b off, A = some ⟨b, off, Option.none⟩ ∧ w.cell? ⟨b, off + j, Option.none⟩ = some (.int .u8 x) := by
    intro j hj hjn
    obtain ⟨b, off, e, hc⟩ := hA.cell (by omega)
    have h3 := hall (j - p) (by rw [List.length_drop, hA.len]; omega) (by omega)
    rw [List.getElem?_drop, show p + (j - p) = j by omega] at h3
    exact ⟨_, h3, (hA.byt.getD j).2, b, off, e, hc j (by omega)⟩
  have HC := Lib.hid hcell
  clear hcell hall
  go_enter Try.func46, Try.ntmps46
  go_wp2
  go_loop [7] (fun t => ∃ j : Nat, p ≤ j ∧ j ≤ p + 10 ∧ t = .int .i64 j) (fun t => p + 10 - (intOf t).toNat)
  case atStart => exact ⟨p, Nat.le_refl _, by omega, rfl⟩
  case round =>
    obtain ⟨j, hj, hjn, rfl⟩ := hrel
    by_cases hlt : j < p + 10
    · obtain ⟨x, hx, hx', b, off, rfl, hc⟩ := HC.out j hj hlt
      go_wp2
      go_round
      case rel => exact ⟨j + 1, by omega, by omega, by go_num⟩
      case measure => simp [intOf]; omega
    · have hj10 : (j : Int) - p = 10 := by omega
      by_cases hn : j < n
      · go_wp2
        go_ret3
        exact ⟨rfl, Below.refl _ _⟩
      · go_wp2
        go_ret3
        exact ⟨rfl, Below.refl _ _⟩

def low64 (x : Nat) : Nat := x % 18446744073709551616
theorem low64_u (x : Nat) : U64 (low64 x) := Nat.mod_lt _ (by omega)
theorem wrap_low (z : Nat) : IntKind.u64.wrap (z : Int) = (low64 z : Int) := by simp [IntKind.wrap, IntKind.bits, IntKind.signed, low64]

theorem sum_step {q : List Int} {k : Nat} (hk : k < q.length) {x : Int} (hx : x = q[k]?.getD 0) :
    IntKind.u64.wrap ((low64 (val (q.take k)) : Int) + IntKind.u64.wrap ((x % 128) * (low64 (128 ^ k) : Int))) = (low64 (val (q.take (k + 1))) : Int) := by
  subst hx
  rw [val_snoc q k hk]
  obtain ⟨a, ha⟩ : ∃ a : Nat, q[k]?.getD 0 % 128 = (a : Int) := ⟨(q[k]?.getD 0 % 128).toNat, by omega⟩
  rw [ha, Int.toNat_natCast]
  have e1 : ((a : Int) * (low64 (128 ^ k) : Int)) = ((a * low64 (128 ^ k) : Nat) : Int) := by simp
  rw [e1, wrap_low]
  have e2 : ∀ x y : Nat, ((x : Nat) : Int) + ((y : Nat) : Int) = ((x + y : Nat) : Int) := fun x y => by simp
  rw [e2, wrap_low]
  congr 1
  unfold low64
  rw [Nat.mul_mod_mod, ← Nat.add_mod]

theorem pow_step (k : Nat) : IntKind.u64.wrap ((low64 (128 ^ k) : Int) * 128) = (low64 (128 ^ (k + 1)) : Int) := by
  have e1 : ((low64 (128 ^ k) : Int) * 128) = ((low64 (128 ^ k) * 128 : Nat) : Int) := by simp
  rw [e1, wrap_low]
  congr 1
  unfold low64
  rw [Nat.pow_succ, Nat.mod_mul_mod]
end Go.Proofs.Ytodncamohimmmaa

namespace Go.Proofs.Ytodncamohimmmaa
open Go.RowKit Leb

theorem enters_bytes (vs : Array Value) (w : World) : (callFunc 37 vs).run Try.prog w = .ok (.enter 37 vs) w := by kernel_rfl

theorem run_step (x y : Operand) (p s : Nat) (w : World) (h : p + s < 9223372036854775807) : (do eqGuard .add 3 x y (.int .i64 ((p : Int) + s)) (.int .i64 1); binOp .add 3 (.int .i64 ((p : Int) + s)) (.int .i64 1) : Sem Value).run Try.prog w = .ok (.int .i64 ((p : Int) + s + 1)) w := by
  have f1 : IntKind.i64.wrap ((p : Int) + s + 1) = (p : Int) + s + 1 := IntWalk.i64_in _ (by omega)
  go_simp
theorem run_cut (b off n c p s : Nat) (w : World) (h1 : p + s < n) (h2 : n ≤ c) :
    (Instr.sliceAt 43 (.slice (some ⟨b, off, Option.none⟩) n c) (some (.int .i64 (p : Int))) (some (.int .i64 ((p : Int) + s + 1))) Option.none).run Try.prog w = .ok (.slice (some ⟨b, off + p, Option.none⟩) (s + 1) (c - p)) w := by
  have f2 : (0 : Int) ≤ (p : Int) := by omega
  have f3 : (0 : Int) ≤ (p : Int) + s + 1 := by omega
  have f4 : (p : Int) ≤ (p : Int) + s + 1 := by omega
  have f5 : (p : Int) + s + 1 ≤ (c : Int) := by omega
  have f6 : ((p : Int) + s + 1).toNat = p + s + 1 := by omega
  have f7 : p + s + 1 - p = s + 1 := by omega
  have f8 : ¬ c = p := by omega
  go_simp
theorem run_differ (x y : Operand) (s t : ByteArray) (w : World) (r : Bool) (h : (!s.toList == t.toList) = r) : (do eqGuard .neq 9 x y (.string s) (.string t); binOp .neq 9 (.string s) (.string t) : Sem Value).run Try.prog w = .ok (.bool r) w := by
  subst h
  go_simp

def hitF (b off n c p s N : Nat) (g : List Int) (j : Nat) (v : Value) (w : World) : Prop :=
  match j with
  | 0 => v = .int .u64 N
  | 1 => BB (enc N) v w
  | 2 => v = .string (strOfNums (enc N))
  | 3 => v = .slice (some ⟨b, off, Option.none⟩) n c
  | 4 => v = .int .i64 p
  | 5 => v = .int .i64 ((p : Int) + s)
  | 6 => v = .int .i64 ((p : Int) + s + 1)
  | 7 => v = .slice (some ⟨b, off + p, Option.none⟩) (s + 1) (c - p)
  | 8 => v = .string (strOfNums g)
  | 9 => v = .bool (!uniq g)
  | _ => True

theorem hitF_later {b off n c p s N : Nat} {g : List Int} : Outlives (hitF b off n c p s N g) := by
  intro j v w w' h hb
  unfold hitF at h ⊢
  split at h
  all_goals first | exact h.keeps hb | exact h

set_option maxRecDepth 100000 in
set_option maxHeartbeats 800000 in
theorem refTake_hit (b off : Nat) (n c : Nat) (l : List Int) (p s : Nat) (w : World) (hA : Holds w (some ⟨b, off, Option.none⟩) n c l) (hps : p + s < n) (hs10 : s < 10)
    (hall : ∀ j, j < s → 128 ≤ (l.drop p)[j]?.getD 0) (hend : (l.drop p)[s]?.getD 0 < 128) :
    Calls Try.prog 46 #[.slice (some ⟨b, off, Option.none⟩) n c, .int .i64 p] w (RefTook w (take l p)) := by
  have h1 := hA.cap
  have h2 := hA.room
  unfold maxLen at h2
  have hR := hA.back (k := p) (by omega)
  have hspan : span (l.drop p) = s + 1 := span_hit (by rw [hR.len]; omega) hs10 hall hend
  obtain ⟨r, hr⟩ : ∃ r, r = take l p := ⟨_, rfl⟩
  rw [← hr]
  rw [take, if_neg (by rw [hA.len]; omega)] at hr
  simp only [Int.toNat_natCast] at hr
  rw [hspan, if_neg (fun h => by have := h.1; omega)] at hr
  have hE : Leb.Ends ((l.drop p).take (s + 1)) := by rw [← hspan]; exact ends_span hR.byt (by omega)
  have hF := hR.front (k := s + 1) (by omega)
  have hcell : ∀ j, p ≤ j → j ≤ p + s → ∃ x : Int, 0 ≤ x ∧ x ≤ 255 ∧ x = (l.drop p)[j - p]?.getD 0 ∧ (j < p + s → 128 ≤ x) ∧ (j = p + s → x < 128) ∧ w.cell? ⟨b, off + j, Option.none⟩ = some (.int .u8 x) := by
    intro j hj hjn
    obtain ⟨b', off', e, hc⟩ := hA.cell (by omega)
    injection e with e
    injection e with e1 e2
    subst e1
    subst e2
    have h3 := hA.byt.getD j
    have h4 : (l.drop p)[j - p]?.getD 0 = l[j]?.getD 0 := by rw [List.getElem?_drop, show p + (j - p) = j by omega]
    refine ⟨_, h3.1, h3.2, h4.symm, fun h => ?_, fun h => ?_, hc j (by omega)⟩
    · rw [← h4]; exact hall _ (by omega)
    · rw [← h4, show j - p = s by omega]; exact hend
  have hq := hR.len
  generalize l.drop p = q at *
  have HC := Lib.hid hcell
  have Hr := Lib.hid hr
  have HE := Lib.hid hE
  have Hq := Lib.hid hq
  clear hcell hr hE hq hall hend hspan
  go_enter Try.func46, Try.ntmps46
  go_wp2
  go_loop [7] (fun t => ∃ j : Nat, p ≤ j ∧ j ≤ p + s ∧ t = .int .i64 j) (fun t => p + s - (intOf t).toNat)
  case atStart => exact ⟨p, Nat.le_refl _, by omega, rfl⟩
  case round =>
    obtain ⟨j, hj, hjn, rfl⟩ := hrel
    obtain ⟨x, hx0, hx1, hx2, hx3, hx4, hc⟩ := HC.out j hj hjn
    clear hx2
    by_cases hlt : j < p + s
    · have hx5 := hx3 hlt
      clear hx3 hx4
      go_wp2
      go_round
      case rel => exact ⟨j + 1, by omega, by omega, by go_num⟩
      case measure => simp [intOf]; omega
    · obtain rfl : j = p + s := by omega
      have hx5 := hx4 rfl
      clear hx3 hx4
      have b10 : ((p : Int) + s - p == 10) = false := by rw [beq_eq_false_iff_ne]; omega
      have bn : ((p : Int) + s == n) = false := by rw [beq_eq_false_iff_ne]; omega
      go_wp2
      clear hc hx5 hx0 hx1 b10 bn
      go_loop [8, 9, 10] (fun t u v => ∃ i : Nat, p ≤ i ∧ i ≤ p + s + 1 ∧ v = .int .i64 i ∧ t = .int .u64 (low64 (val (q.take (i - p)))) ∧ u = .int .u64 (low64 (128 ^ (i - p)))) (fun _ _ v => p + s + 1 - (intOf v).toNat)
      case atStart => exact ⟨p, Nat.le_refl _, by omega, rfl, by simp [val, low64], by simp [low64]⟩
      case round =>
        obtain ⟨i, hi, hin, rfl, rfl, rfl⟩ := hrel
        by_cases hle : i ≤ p + s
        · obtain ⟨y, hy0, hy1, hy2, hy3, hy4, hc⟩ := HC.out i hi hle
          have S1 := Lib.hid (sum_step (k := i - p) (q := q) (by have := Hq.out; omega) hy2)
          have S2 := Lib.hid (pow_step (i - p))
          have e3 : i + 1 - p = i - p + 1 := by omega
          have E3 := Lib.hid e3
          clear hy2 hy3 hy4 e3
          go_wp2
          go_round
          case rel => exact ⟨i + 1, by omega, by omega, by go_num, by rw [E3.out, ← S1.out], by rw [E3.out, ← S2.out]⟩
          case measure => simp [intOf]; omega
        · obtain rfl : i = p + s + 1 := by omega
          have e4 : p + s + 1 - p = s + 1 := by omega
          rw [e4]
          clear e4
          go_wp2
          have hFd : Holds w (some ⟨b, off + p, Option.none⟩) (s + 1) (c - p) (q.take (s + 1)) := hF
          have hbs : (!(strOfNums (enc (low64 (val (q.take (s + 1)))))).toList == (strOfNums (q.take (s + 1))).toList) = !uniq (q.take (s + 1)) := by
            rw [text_inj (enc_bytes _) hF.byt, low64]
            congr 1
            rw [Bool.eq_iff_iff, decide_eq_true_iff]
            exact uniq_enc HE.out (by rw [hF.len]; omega)
          refine wp_region_each (RInv 84 [71, 72, 73, 74, 75, 76, 77, 78, 79, 80] _ (hitF b off n c p s (low64 (val (q.take (s + 1)))) (q.take (s + 1))) w NoMore) (by kernel_rfl) (by kernel_rfl) (RInv.start rfl trivial (Below.refl _ _).drew) ?_ ?_
          · intro i hi D a w1 hI hcl hnd hpre
            have hi' : i < 10 := hi
            have hcase : i = 0 ∨ i = 1 ∨ i = 2 ∨ i = 3 ∨ i = 4 ∨ i = 5 ∨ i = 6 ∨ i = 7 ∨ i = 8 ∨ i = 9 := by omega
            have hF' := hI.fact
            rcases hcase with rfl | rfl | rfl | rfl | rfl | rfl | rfl | rfl | rfl | rfl
            · exact wpOp_move rfl (wanted_free rfl) _ rfl _ (hI.same 8 (by decide)) (hI.add (by decide) hitF_later (by decide) (Below.refl _ _) rfl)
            · refine wpOp_call1 rfl (wanted_free rfl) 37 _ _ rfl _ (hF' 0 (hpre 0 (by kernel_rfl))) (enters_bytes _ _) (bytes_any _ w1 (low64_u _)) (fun e w' h => ?_)
              obtain ⟨v, rfl, ho, hb⟩ := h
              exact ⟨_, rfl, hI.add (by decide) hitF_later (by decide) hb ho.holds⟩
            · obtain ⟨Ax, cx, hx, hH⟩ := hF' 1 (hpre 1 (by kernel_rfl))
              exact wpOp_convert rfl (wanted_free rfl) _ _ _ rfl _ _ hx (run_text _ _ 5 Try.underlying43 Try.underlying5 Try.underlying9 hH) (hI.add (by decide) hitF_later (by decide) (Below.refl _ _) rfl)
            · exact wpOp_move rfl (wanted_free rfl) _ rfl _ (hI.same 0 (by decide)) (hI.add (by decide) hitF_later (by decide) (Below.refl _ _) rfl)
            · exact wpOp_move rfl (wanted_free rfl) _ rfl _ (hI.same 1 (by decide)) (hI.add (by decide) hitF_later (by decide) (Below.refl _ _) rfl)
            · exact wpOp_move rfl (wanted_free rfl) _ rfl _ (hI.same 7 (by decide)) (hI.add (by decide) hitF_later (by decide) (Below.refl _ _) rfl)
            · have r1 := run_step (.tmp 76) (.const (.int .i64 1)) p s w1 (by omega)
              exact wpOp_bin rfl (wanted_free rfl) _ _ _ _ _ rfl _ _ _ (hF' 5 (hpre 5 (by kernel_rfl))) rfl r1 (hI.add (by decide) hitF_later (by decide) (Below.refl _ _) rfl)
            · have r2 := run_cut b off n c p s w1 (by omega) (by omega)
              exact wpOp_slice rfl (wanted_free rfl) _ _ _ _ _ rfl _ _ _ _ _ (hF' 3 (hpre 3 (by kernel_rfl))) (congrArg some (hF' 4 (hpre 4 (by kernel_rfl)))) (congrArg some (hF' 6 (hpre 6 (by kernel_rfl)))) rfl r2 (hI.add (by decide) hitF_later (by decide) (Below.refl _ _) rfl)
            · exact wpOp_convert rfl (wanted_free rfl) _ _ _ rfl _ _ (hF' 7 (hpre 7 (by kernel_rfl))) (run_text _ _ 5 Try.underlying43 Try.underlying5 Try.underlying9 (hFd.later hI.below)) (hI.add (by decide) hitF_later (by decide) (Below.refl _ _) rfl)
            · have r3 := fun x y => run_differ x y _ _ w1 _ hbs
              exact wpOp_bin rfl (wanted_free rfl) _ _ _ _ _ rfl _ _ _ (hF' 2 (hpre 2 (by kernel_rfl))) (hF' 8 (hpre 8 (by kernel_rfl))) (r3 _ _) (hI.add (by decide) hitF_later (by decide) (Below.refl _ _) rfl)
          · intro D a w1 hI hall
            obtain ⟨f, rfl, hf⟩ := hI.done (by decide) rfl hall
            have hB := hI.below
            have h9 : f 80 = .bool (!uniq (q.take (s + 1))) := hf 9 (by decide)
            clear hI hall hf
            simp only [putAll, List.map_cons, List.map_nil, Act.put, List.setIfInBounds_toArray, List.set_cons_zero, List.set_cons_succ, h9]
            clear h9
            generalize f 71 = u71
            generalize f 72 = u72
            generalize f 73 = u73
            generalize f 74 = u74
            generalize f 75 = u75
            generalize f 76 = u76
            generalize f 77 = u77
            generalize f 78 = u78
            generalize f 79 = u79
            cases hu : uniq (q.take (s + 1)) with
            | false =>
              obtain rfl : r = (0, 0, 4) := by rw [Hr.out, if_pos (.inr hu)]
              clear hu Hr hbs
              go_wp2
              go_ret3
              exact ⟨rfl, hB⟩
            | true =>
              have hr : r = (low64 (val (q.take (s + 1))), (p : Int) + s + 1, 0) := by
                rw [Hr.out, if_neg (fun h => h.elim (fun h => by omega) (fun h => by rw [hu] at h; cases h))]
                have e1 : low64 (val (q.take (s + 1))) = val (q.take (s + 1)) := Nat.mod_eq_of_lt (val_lt HE.out (by rw [hF.len]; omega) ((uniq_iff _).1 hu).1)
                rw [e1]
                congr 2
              obtain rfl := hr
              clear hu Hr hbs
              go_wp2
              go_ret3
              exact ⟨rfl, hB⟩

theorem refTake_any (A : Option Addr) (n c : Nat) (l : List Int) (p : Int) (w : World) (hA : Holds w A n c l) :
    Calls Try.prog 46 #[.slice A n c, .int .i64 p] w (RefTook w (take l p)) := by
  by_cases h : p < 0 ∨ (n : Int) < p
  · exact refTake_out A n c l p w hA h
  · obtain ⟨k, rfl⟩ : ∃ k : Nat, p = k := ⟨p.toNat, by omega⟩
    have hkn : k ≤ n := by omega
    have hlen : (l.drop k).length = n - k := by rw [List.length_drop, hA.len]
    rcases span_cases (l.drop k) with ⟨_, hall⟩ | ⟨s, _, h1, h2, h3, h4⟩
    · by_cases h10 : n - k < 10
      · exact refTake_short A n c l k w hA hkn h10 hall
      · exact refTake_long A n c l k w hA (by omega) hall
    · rw [hlen] at h1
      obtain ⟨b, off, rfl, _⟩ := hA.cell (by omega)
      exact refTake_hit b off n c l k s w hA (by omega) h2 h3 h4
end Go.Proofs.Ytodncamohimmmaa
