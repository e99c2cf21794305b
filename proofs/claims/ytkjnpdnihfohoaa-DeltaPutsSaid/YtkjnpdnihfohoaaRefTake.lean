/-
  What the reference's Take returns for any bytes and offset: as the plain function 'take' of the mathematics says; nothing that was there is changed. Condition: the slice reads as bytes.
-/
import Derived.Test.YtkjnpdnihfohoaaTakeAll
import Derived.Deep.RegionWith
namespace Go.Proofs.Ytkjnpdnihfohoaa
open Go.RowKit Leb

/-- The end of the reference's Take. -/
def RefTook (w : World) (r : Nat × Int × Int) (e : Ending) (w' : World) : Prop := e = .returned (.tuple #[.int .u64 r.1, .int .i64 r.2.1, .int .i64 r.2.2]) ∧ Below w.heap.size w w'

set_option maxRecDepth 100000 in
set_option maxHeartbeats 400000 in
theorem refTake_out (A : Option Addr) (n c : Nat) (l : List Int) (p : Int) (w : World) (hA : Holds w A n c l) (hp : p < 0 ∨ (n : Int) < p) :
    Calls Try.prog 26 #[.slice A n c, .int .i64 p] w (RefTook w (take l p)) := by
  have hlen := hA.len
  have e : take l p = (0, 0, 1) := by rw [take, if_pos (by rw [hlen]; exact hp)]
  rw [e]
  clear e hlen
  have h1 := hA.cap
  have h2 := hA.room
  unfold maxLen at h2
  rcases hp with hp | hp
  · go_enter Try.func26, Try.ntmps26
    go_wp2
    go_ret3
    exact ⟨rfl, Below.refl _ _⟩
  · go_enter Try.func26, Try.ntmps26
    go_wp2
    go_ret3
    exact ⟨rfl, Below.refl _ _⟩

set_option maxRecDepth 100000 in
set_option maxHeartbeats 400000 in
/-- Nothing ends within the bytes that are left, and they are fewer than ten. -/
theorem refTake_short (A : Option Addr) (n c : Nat) (l : List Int) (p : Nat) (w : World) (hA : Holds w A n c l) (hp : p ≤ n) (h10 : n - p < 10)
    (hall : ∀ j, j < (l.drop p).length → j < 10 → 128 ≤ (l.drop p)[j]?.getD 0) :
    Calls Try.prog 26 #[.slice A n c, .int .i64 p] w (RefTook w (take l p)) := by
  have h1 := hA.cap
  have h2 := hA.room
  unfold maxLen at h2
  have e : take l p = (0, 0, 7) := by
    rw [take, if_neg (by rw [hA.len]; omega)]
    simp only [Int.toNat_natCast]
    rw [if_pos ⟨span_none hall, by rw [List.length_drop, hA.len]; exact h10⟩]
  rw [e]
  clear e
  have hcell : ∀ j, p ≤ j → j < n → ∃ b off, A = some ⟨b, off, Option.none⟩ ∧ ∃ x : Int, 128 ≤ x ∧ x ≤ 255 ∧ w.cell? ⟨b, off + j, Option.none⟩ = some (.int .u8 x) := by
    intro j hj hjn
    obtain ⟨b, off, e, hc⟩ := hA.cell (by omega)
    have h3 := hall (j - p) (by rw [List.length_drop, hA.len]; omega) (by omega)
    rw [List.getElem?_drop, show p + (j - p) = j by omega] at h3
    exact ⟨b, off, e, _, h3, (hA.byt.getD j).2, hc j hjn⟩
  have HC := Lib.hid hcell
  clear hcell hall
  go_enter Try.func26, Try.ntmps26
  go_wp2
  go_loop [7] (fun t => ∃ j : Nat, p ≤ j ∧ j ≤ n ∧ t = .int .i64 j) (fun t => n - (intOf t).toNat)
  case atStart => exact ⟨p, Nat.le_refl _, hp, rfl⟩
  case round =>
    obtain ⟨j, hj, hjn, rfl⟩ := hrel
    by_cases hlt : j < n
    · obtain ⟨b, off, rfl, x, hx, hx', hc⟩ := HC.out j hj hlt
      go_wp2
      go_round
      case rel => exact ⟨j + 1, by omega, by omega, by go_num⟩
      case measure => simp [intOf]; omega
    · obtain rfl : j = n := by omega
      go_wp2
      go_ret3
      exact ⟨rfl, Below.refl _ _⟩

set_option maxRecDepth 100000 in
set_option maxHeartbeats 400000 in
/-- None of the next ten bytes ends. -/
theorem refTake_long (A : Option Addr) (n c : Nat) (l : List Int) (p : Nat) (w : World) (hA : Holds w A n c l) (h10 : p + 10 ≤ n)
    (hall : ∀ j, j < (l.drop p).length → j < 10 → 128 ≤ (l.drop p)[j]?.getD 0) :
    Calls Try.prog 26 #[.slice A n c, .int .i64 p] w (RefTook w (take l p)) := by
  have h1 := hA.cap
  have h2 := hA.room
  unfold maxLen at h2
  have e : take l p = (0, 0, 4) := by
    rw [take, if_neg (by rw [hA.len]; omega)]
    simp only [Int.toNat_natCast]
    rw [if_neg (fun h => by have := h.2; rw [List.length_drop, hA.len] at this; omega), if_pos (.inl (span_none hall))]
  rw [e]
  clear e
  have hcell : ∀ j, p ≤ j → j < p + 10 → ∃ x : Int, 128 ≤ x ∧ x ≤ 255 ∧ ∃ b off, A = some ⟨b, off, Option.none⟩ ∧ w.cell? ⟨b, off + j, Option.none⟩ = some (.int .u8 x) := by
    intro j hj hjn
    obtain ⟨b, off, e, hc⟩ := hA.cell (by omega)
    have h3 := hall (j - p) (by rw [List.length_drop, hA.len]; omega) (by omega)
    rw [List.getElem?_drop, show p + (j - p) = j by omega] at h3
    exact ⟨_, h3, (hA.byt.getD j).2, b, off, e, hc j (by omega)⟩
  have HC := Lib.hid hcell
  clear hcell hall
  go_enter Try.func26, Try.ntmps26
  go_wp2
  go_loop [7] (fun t => ∃ j : Nat, p ≤ j ∧ j ≤ p + 10 ∧ t = .int .i64 j) (fun t => p + 10 - (intOf t).toNat)
  case atStart => exact ⟨p, Nat.le_refl _, by omega, rfl⟩
  case round =>
    obtain ⟨j, hj, hjn, rfl⟩ := hrel
    by_cases hlt : j < p + 10
    · obtain ⟨x, hx, hx', b, off, rfl, hc⟩ := HC.out j hj hlt
      go_wp2
      go_round
      case rel => exact ⟨j + 1, by omega, by omega, by go_num⟩
      case measure => simp [intOf]; omega
    · have hj10 : (j : Int) - p = 10 := by omega
      by_cases hn : j < n
      · go_wp2
        go_ret3
        exact ⟨rfl, Below.refl _ _⟩
      · go_wp2
        go_ret3
        exact ⟨rfl, Below.refl _ _⟩

/-- A number's lowest 64 bits (behind a name, out of the walk's sight). -/
def low64 (x : Nat) : Nat := x % 18446744073709551616
theorem low64_u (x : Nat) : U64 (low64 x) := Nat.mod_lt _ (by omega)
theorem wrap_low (z : Nat) : IntKind.u64.wrap (z : Int) = (low64 z : Int) := by simp [IntKind.wrap, IntKind.bits, IntKind.signed, low64]

/-- One round of the reference's sum. -/
theorem sum_step {q : List Int} {k : Nat} (hk : k < q.length) {x : Int} (hx : x = q[k]?.getD 0) :
    IntKind.u64.wrap ((low64 (val (q.take k)) : Int) + IntKind.u64.wrap ((x % 128) * (low64 (128 ^ k) : Int))) = (low64 (val (q.take (k + 1))) : Int) := by
  subst hx
  rw [val_snoc q k hk]
  obtain ⟨a, ha⟩ : ∃ a : Nat, q[k]?.getD 0 % 128 = (a : Int) := ⟨(q[k]?.getD 0 % 128).toNat, by omega⟩
  rw [ha, Int.toNat_natCast]
  have e1 : ((a : Int) * (low64 (128 ^ k) : Int)) = ((a * low64 (128 ^ k) : Nat) : Int) := by simp
  rw [e1, wrap_low]
  have e2 : ∀ x y : Nat, ((x : Nat) : Int) + ((y : Nat) : Int) = ((x + y : Nat) : Int) := fun x y => by simp
  rw [e2, wrap_low]
  congr 1
  unfold low64
  rw [Nat.mul_mod_mod, ← Nat.add_mod]

theorem pow_step (k : Nat) : IntKind.u64.wrap ((low64 (128 ^ k) : Int) * 128) = (low64 (128 ^ (k + 1)) : Int) := by
  have e1 : ((low64 (128 ^ k) : Int) * 128) = ((low64 (128 ^ k) * 128 : Nat) : Int) := by simp
  rw [e1, wrap_low]
  congr 1
  unfold low64
  rw [Nat.pow_succ, Nat.mod_mul_mod]
end Go.Proofs.Ytkjnpdnihfohoaa
