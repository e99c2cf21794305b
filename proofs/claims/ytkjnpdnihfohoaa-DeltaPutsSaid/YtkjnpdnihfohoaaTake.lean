/-
  What leb.Take returns for any bytes and offset: as the plain function 'take' of the mathematics says; memory is as it was. Condition: the slice reads as bytes.
-/
import Derived.Test.YtkjnpdnihfohoaaPut
import Derived.Lib.VarintBits
import Derived.Deep.QuietTactic
import Derived.BigQuiet
namespace Go.Proofs.Ytkjnpdnihfohoaa
open Go.RowKit Leb

set_option maxRecDepth 100000 in
set_option maxHeartbeats 400000 in
theorem span_any (A : Option Addr) (n c : Nat) (l : List Int) (w : World) (hA : Holds w A n c l) :
    Calls Try.prog 34 #[.slice A n c] w fun e w' => e = .returned (.int .i64 (span l)) ∧ w = w' := by
  have h1 := hA.cap
  have h2 := hA.room
  unfold maxLen at h2
  have HB := Lib.hid hA.byt
  have hlen := hA.len
  have Hlen := Lib.hid hlen
  clear hlen
  by_cases h0 : n = 0
  · subst h0
    have hl : l = [] := List.eq_nil_of_length_eq_zero Hlen.out
    subst hl
    clear Hlen HB
    go_enter Try.func34, Try.ntmps34
    go_wp2
    refine wp_loop_rounds 1 ?_
    rw [rounds_succ]
    go_wp2
    go_ret
    exact ⟨rfl, rfl⟩
  · obtain ⟨b, off, rfl, hc⟩ := hA.cell (by omega)
    have HC := Lib.hid hc
    clear hc
    have key : ∀ M : Nat, M ≤ n → M ≤ 10 → (M = n ∨ M = 10) → ∀ k : Nat, k ≤ M → (∀ j, j < k → 128 ≤ l[j]?.getD 0) → ¬ k < M → span l = 0 := by
      intro M hM hM10 hor k hk hall hge
      refine span_none fun j hj hj10 => hall j ?_
      have := Hlen.out
      omega
    have Hkey := Lib.hid key
    clear key
    by_cases h10 : n ≤ 10
    · go_enter Try.func34, Try.ntmps34
      go_wp2
      go_loop [11] (fun i => ∃ k : Nat, k ≤ n ∧ i = .int .i64 k ∧ Hid (∀ j, j < k → 128 ≤ l[j]?.getD 0)) (fun i => n - (intOf i).toNat)
      case atStart => exact ⟨0, Nat.zero_le _, rfl, fun j hj => absurd hj (by omega)⟩
      case round =>
        obtain ⟨k, hk, rfl, hall⟩ := hrel
        by_cases hlt : k < n
        · have hcell := HC.out k hlt
          by_cases hx : l[k]?.getD 0 < 128
          · go_wp2
            go_ret
            exact ⟨ret_int (by rw [span_hit (by have := Hlen.out; omega) (by omega) hall.out hx]; simp), rfl⟩
          · go_wp2
            go_round
            case rel => exact ⟨k + 1, by omega, by go_num, fun j hj => by
              rcases Nat.lt_or_ge j k with h | h
              · exact hall.out j h
              · obtain rfl : j = k := by omega
                omega⟩
            case measure => simp [intOf]; omega
        · go_wp2
          go_ret
          exact ⟨ret_int (by rw [Hkey.out n (by omega) (by omega) (.inl rfl) k hk hall.out hlt]; rfl), rfl⟩
    · go_enter Try.func34, Try.ntmps34
      go_wp2
      go_loop [11] (fun i => ∃ k : Nat, k ≤ 10 ∧ i = .int .i64 k ∧ Hid (∀ j, j < k → 128 ≤ l[j]?.getD 0)) (fun i => 10 - (intOf i).toNat)
      case atStart => exact ⟨0, Nat.zero_le _, rfl, fun j hj => absurd hj (by omega)⟩
      case round =>
        obtain ⟨k, hk, rfl, hall⟩ := hrel
        by_cases hlt : k < 10
        · have hcell := HC.out k (by omega)
          by_cases hx : l[k]?.getD 0 < 128
          · go_wp2
            go_ret
            exact ⟨ret_int (by rw [span_hit (by have := Hlen.out; omega) (by omega) hall.out hx]; simp), rfl⟩
          · go_wp2
            go_round
            case rel => exact ⟨k + 1, by omega, by go_num, fun j hj => by
              rcases Nat.lt_or_ge j k with h | h
              · exact hall.out j h
              · obtain rfl : j = k := by omega
                omega⟩
            case measure => simp [intOf]; omega
        · go_wp2
          go_ret
          exact ⟨ret_int (by rw [Hkey.out 10 (by omega) (by omega) (.inr rfl) k hk hall.out hlt]; rfl), rfl⟩

set_option maxRecDepth 100000 in
set_option maxHeartbeats 400000 in
theorem unique_any (A : Option Addr) (n c : Nat) (l : List Int) (w : World) (hA : Holds w A n c l) (hn : 0 < n) :
    Calls Try.prog 35 #[.slice A n c] w fun e w' => e = .returned (.bool (uniq l)) ∧ w = w' := by
  have h1 := hA.cap
  have h2 := hA.room
  unfold maxLen at h2
  obtain ⟨b, off, rfl, hc⟩ := hA.cell hn
  have hlast : last l = l[n - 1]?.getD 0 := by rw [last, List.getLast?_eq_getElem?, hA.len]
  have hcell := hc (n - 1) (by omega)
  rw [← hlast] at hcell
  have hb := hA.byt.getD (n - 1)
  rw [← hlast] at hb
  have hfin := uniq_iff l
  rw [hA.len] at hfin
  generalize uniq l = u at hfin ⊢
  have Hf := Lib.hid hfin
  clear hfin hlast hc
  generalize last l = t at *
  by_cases h10 : n = 10
  · subst h10
    by_cases ht : 1 < t
    · obtain rfl : u = false := by
        cases u
        · rfl
        · have := (Hf.out.1 rfl).1 rfl
          omega
      go_enter Try.func35, Try.ntmps35
      go_wp2
      go_ret
      exact ⟨rfl, rfl⟩
    · by_cases h0 : t = 0
      · subst h0
        obtain rfl : u = false := by
          cases u
          · rfl
          · have := (Hf.out.1 rfl).2
            omega
        go_enter Try.func35, Try.ntmps35
        go_wp2
        go_ret
        exact ⟨rfl, rfl⟩
      · obtain rfl : t = 1 := by omega
        obtain rfl : u = true := Hf.out.2 ⟨fun _ => by omega, .inl (by omega)⟩
        go_enter Try.func35, Try.ntmps35
        go_wp2
        go_ret
        exact ⟨rfl, rfl⟩
  · have b10 : ((n : Int) == 10) = false := by rw [beq_eq_false_iff_ne]; omega
    by_cases h0 : t = 0
    · subst h0
      by_cases hn1 : n = 1
      · subst hn1
        obtain rfl : u = true := Hf.out.2 ⟨fun h => by omega, .inr rfl⟩
        simp only [Nat.sub_self, Nat.add_zero] at hcell
        go_enter Try.func35, Try.ntmps35
        go_wp2
        go_ret
        exact ⟨rfl, rfl⟩
      · have b1 : ((n : Int) == 1) = false := by rw [beq_eq_false_iff_ne]; omega
        obtain rfl : u = false := by
          cases u
          · rfl
          · have := (Hf.out.1 rfl).2
            omega
        go_enter Try.func35, Try.ntmps35
        go_wp2
        go_ret
        exact ⟨rfl, rfl⟩
    · have b0 : (t != 0) = true := by rw [bne_iff_ne]; exact h0
      obtain rfl : u = true := Hf.out.2 ⟨fun h => absurd h h10, .inl h0⟩
      go_enter Try.func35, Try.ntmps35
      go_wp2
      go_ret
      exact ⟨rfl, rfl⟩

/-- Joining a group of seven bits to what lies below it. -/
theorem join7 {l : List Int} {k : Nat} (hv : U64 (val l)) (hk : k < l.length) (x : Int) (hx : x = l[k]?.getD 0 % 128) :
    bits .or .u64 (val (l.take k) : Int) (IntKind.u64.wrap (x * 2 ^ (7 * k))) = (val (l.take (k + 1)) : Int) := by
  have hs := val_snoc l k hk
  have hlow := val_take_lt k l
  have hle := Nat.lt_of_le_of_lt (val_take_le (k + 1) l) hv.out
  have hx0 : 0 ≤ x := by omega
  have e7 : (128 : Nat) ^ k = 2 ^ (7 * k) := by rw [Nat.pow_mul]
  rw [e7] at hs hlow
  obtain ⟨a, ha⟩ : ∃ a : Nat, x = (a : Int) := ⟨x.toNat, by omega⟩
  have ha' : (l[k]?.getD 0 % 128).toNat = a := by omega
  rw [ha'] at hs
  have hc : x * 2 ^ (7 * k) = ((a * 2 ^ (7 * k) : Nat) : Int) := by rw [ha]; simp
  rw [hc]
  have hb : a * 2 ^ (7 * k) < 18446744073709551616 := by omega
  rw [IntWalk.u64_in _ ⟨by omega, by omega⟩]
  have hj := bits_join_low .u64 64 (by decide) wraps_u64 (7 * k) (val (l.take k) : Int) ((a * 2 ^ (7 * k) : Nat) : Int) (by omega)
    (by have : ((val (l.take k) : Nat) : Int) < ((2 ^ (7 * k) : Nat) : Int) := by omega
        simpa using this) (by omega) (by omega) (by simp) (by omega)
  rw [hj, hs]
  simp

set_option maxRecDepth 100000 in
set_option maxHeartbeats 400000 in
theorem value_any (A : Option Addr) (n c : Nat) (l : List Int) (w : World) (hA : Holds w A n c l) (hn : 0 < n) (h10 : n ≤ 10) (hv : U64 (val l)) :
    Calls Try.prog 36 #[.slice A n c] w fun e w' => e = .returned (.int .u64 (val l)) ∧ w = w' := by
  have h1 := hA.cap
  have h2 := hA.room
  unfold maxLen at h2
  have HB := Lib.hid hA.byt
  have Hlen := Lib.hid hA.len
  obtain ⟨b, off, rfl, hc⟩ := hA.cell (by omega)
  have HC := Lib.hid hc
  clear hc
  go_enter Try.func36, Try.ntmps36
  go_wp2
  go_loop [3, 4, 9] (fun x s i => ∃ k : Nat, k ≤ n ∧ i = .int .i64 k ∧ s = .int .u64 ((7 * k : Nat) : Int) ∧ x = .int .u64 (val (l.take k))) (fun _ _ i => n - (intOf i).toNat)
  case atStart => exact ⟨0, Nat.zero_le _, rfl, rfl, rfl⟩
  case round =>
    obtain ⟨k, hk, rfl, rfl, rfl⟩ := hrel
    by_cases hlt : k < n
    · have hcell := HC.out k hlt
      have hby := HB.out.getD k
      have hmask := u8_and127 _ hby.1 (by omega)
      have hj := Lib.hid (join7 hv (show k < l.length by have := Hlen.out; omega) _ rfl)
      go_wp2
      go_round
      case rel => exact ⟨k + 1, by omega, by go_num, by go_num, by rw [hj.out]⟩
      case measure => simp [intOf]; omega
    · go_wp2
      go_ret
      exact ⟨ret_int (by rw [List.take_of_length_le (by have := Hlen.out; omega)]), rfl⟩
end Go.Proofs.Ytkjnpdnihfohoaa
