/-
  What the reference's functions of layer 2 return: By is the register by any table; Four the four bytes of a number, lowest first. Conditions: numbers of 32 bits, slices that read as bytes, a table of 256 numbers of 32 bits.
-/
import Derived.Test.YtaabhnjikggomaaChecked
import Derived.Test.YtaabhnjikggomaaMem
import Derived.Test.YtaabhnjikggomaaCycMath
import Derived.WalkLawsBesides
import Derived.Deep.MidRow
namespace Go.Proofs.Ytaabhnjikggomaa
open Go.RowKit

theorem bits_xor32 (a b : Nat) (ha : a < 4294967296) (hb : b < 4294967296) : bits .xor .u32 (a : Int) (b : Int) = ((a ^^^ b : Nat) : Int) := by
  have hx : a ^^^ b < 2 ^ 32 := Nat.xor_lt_two_pow (by omega) (by omega)
  have ha' : a % 2 ^ IntKind.u32.bits = a := Nat.mod_eq_of_lt ha
  have hb' : b % 2 ^ IntKind.u32.bits = b := Nat.mod_eq_of_lt hb
  simp only [bits, BitVec.ofInt_natCast, BitVec.toNat_xor, BitVec.toNat_ofNat, ha', hb']
  generalize a ^^^ b = z at hx
  simp [IntKind.wrap, IntKind.bits, IntKind.signed]
  omega

theorem bits_xor8 (a b : Nat) (ha : a < 256) (hb : b < 256) : bits .xor .u8 (a : Int) (b : Int) = ((a ^^^ b : Nat) : Int) := by
  have hx : a ^^^ b < 2 ^ 8 := Nat.xor_lt_two_pow (by omega) (by omega)
  have ha' : a % 2 ^ IntKind.u8.bits = a := Nat.mod_eq_of_lt ha
  have hb' : b % 2 ^ IntKind.u8.bits = b := Nat.mod_eq_of_lt hb
  simp only [bits, BitVec.ofInt_natCast, BitVec.toNat_xor, BitVec.toNat_ofNat, ha', hb']
  generalize a ^^^ b = z at hx
  simp [IntKind.wrap, IntKind.bits, IntKind.signed]
  omega

theorem stps_snoc (i z : Nat) : Cyc.stps (i + 1) z = Cyc.stp (Cyc.stps i z) := by rw [Cyc.stps_add]; rfl

/-- The four bytes of a number, the lowest first. -/
def four (n : Nat) : List Int := [((n % 256 : Nat) : Int), ((n / 256 % 256 : Nat) : Int), ((n / 65536 % 256 : Nat) : Int), ((n / 16777216 : Nat) : Int)]
theorem four_bytes {n : Nat} (hn : n < 4294967296) : Leb.Bytes (four n) := by
  intro x hx
  simp only [four, List.mem_cons, List.not_mem_nil, or_false] at hx
  omega

set_option maxRecDepth 100000 in
set_option maxHeartbeats 400000 in
theorem four_any (n : Nat) (w : World) (hn : n < 4294967296) : Calls Try.prog 20 #[.int .u32 n] w (Gives w 5 (four n)) := by
  have H := Lib.hid (owns_lit w w.heap.size 5 #[.int .u8 ((n : Int) % 256), .int .u8 ((n : Int) / 256 % 256), .int .u8 ((n : Int) / 65536 % 256), .int .u8 ((n : Int) / 16777216)] (four n) (by simp [four]) (four_bytes hn) (by simp [four, maxLen]) (Nat.le_refl _))
  go_enter Try.func20, Try.ntmps20
  go_wp2
  go_ret
  exact ⟨_, rfl, H.out, (Below.refl _ _).alloc (Nat.le_refl _) _⟩

/-- A table's 256 numbers, as cells. -/
def cells32 (t : Nat → Nat) : List Value := (List.range 256).map fun c => .int .u32 (t c)
theorem cells32_at (t : Nat → Nat) {c : Nat} (h : c < 256) : (cells32 t)[c]? = some (.int .u32 (t c)) := by simp [cells32, h]

theorem byTab_snoc (t : Nat → Nat) (n : Nat) (l : List Int) (k : Nat) (hk : k < l.length) :
    Cyc.byTab t n (l.take (k + 1)) = t ((Cyc.byTab t n (l.take k) % 256) ^^^ (l[k]?.getD 0).toNat) ^^^ Cyc.byTab t n (l.take k) / 256 := by
  rw [List.take_succ_eq_append_getElem hk, Cyc.byTab_append, List.getElem?_eq_getElem hk]
  rfl
theorem byTab_lt (t : Nat → Nat) (ht : ∀ c, t c < 4294967296) : ∀ (l : List Int) (n : Nat), n < 4294967296 → Cyc.byTab t n l < 4294967296
  | [], _, h => h
  | b :: l, n, h => byTab_lt t ht l _ (Nat.xor_lt_two_pow (n := 32) (ht _) (by omega))

set_option maxRecDepth 100000 in
set_option maxHeartbeats 400000 in
theorem refBy_any (t : Nat → Nat) (ht : ∀ c, t c < 4294967296) (A : Option Addr) (n c : Nat) (l : List Int) (w : World) (hA : Holds w A n c l) :
    Calls Try.prog 21 #[.agg (cells32 t).toArray, .slice A n c] w fun e w' => e = .returned (.int .u32 ((4294967295 - Cyc.byTab t 4294967295 l : Nat) : Int)) ∧ Below w.heap.size w w' := by
  have h1 := hA.cap
  have h2 := hA.room
  unfold maxLen at h2
  have Hlen := Lib.hid hA.len
  have HB := Lib.hid hA.byt
  have HR : Hid (∀ k, Cyc.byTab t 4294967295 (l.take k) < 4294967296) := fun k => byTab_lt t ht _ _ (by omega)
  have HT : Hid (∀ x, x < 256 → (w.alloc (.cells (cells32 t).toArray 25)).cell? ⟨w.heap.size, x, Option.none⟩ = some (.int .u32 (t x))) := fun x hx => by
    rw [cell_of_row _ w.heap.size x _ _ (0, 0) (heap_alloc_new w _)]
    simpa using cells32_at t hx
  have HC : Hid (∀ k, k < n → ∃ b off, A = some ⟨b, off, Option.none⟩ ∧ (w.alloc (.cells (cells32 t).toArray 25)).cell? ⟨b, off + k, Option.none⟩ = some (.int .u8 (l[k]?.getD 0))) := fun k hk => by
    obtain ⟨b, off, e, hc⟩ := (hA.alloc _).cell (by omega)
    exact ⟨b, off, e, hc k hk⟩
  generalize (cells32 t).toArray = T at *
  have hb : Below w.heap.size w (w.alloc (.cells T 25)) := (Below.refl _ _).alloc (Nat.le_refl _) _
  have Hb := Lib.hid hb
  clear hb
  go_enter Try.func21, Try.ntmps21
  go_wp2
  go_loop [5, 6] (fun x i => ∃ k : Nat, k ≤ n ∧ i = .int .i64 k ∧ x = .int .u32 (Cyc.byTab t 4294967295 (l.take k))) (fun _ i => n - (intOf i).toNat)
  case atStart => exact ⟨0, Nat.zero_le _, rfl, rfl⟩
  case round =>
    obtain ⟨k, hk, rfl, rfl⟩ := hrel
    have hr := HR.out k
    by_cases hlt : k < n
    · obtain ⟨b, off, rfl, hc⟩ := HC.out k hlt
      have hby := HB.out.getD k
      have HS := Lib.hid (byTab_snoc t 4294967295 l k (by have := Hlen.out; omega))
      generalize Cyc.byTab t 4294967295 (l.take k) = r at *
      obtain ⟨y, hy⟩ : ∃ y : Nat, l[k]?.getD 0 = (y : Int) := ⟨(l[k]?.getD 0).toNat, by omega⟩
      rw [hy] at hc hby HS
      rw [Int.toNat_natCast] at HS
      have hy' : y < 256 := by omega
      clear hy hby
      have hx : bits .xor .u32 ((r : Int) % 256) (y : Int) = ((r % 256 ^^^ y : Nat) : Int) := by
        have := bits_xor32 (r % 256) y (by omega) (by omega)
        simpa using this
      have hxl : r % 256 ^^^ y < 256 := Nat.xor_lt_two_pow (n := 8) (by omega) (by omega)
      generalize r % 256 ^^^ y = z at *
      have hcz := HT.out z hxl
      have htz := ht z
      have hx2 : bits .xor .u32 (t z : Int) ((r : Int) / 256) = ((t z ^^^ r / 256 : Nat) : Int) := by
        have := bits_xor32 (t z) (r / 256) (by omega) (by omega)
        simpa using this
      generalize t z = v at *
      go_wp2
      go_round
      case rel => exact ⟨k + 1, by omega, by go_num, by rw [HS.out]⟩
      case measure => simp [intOf]; omega
    · have e : Cyc.byTab t 4294967295 (l.take k) = Cyc.byTab t 4294967295 l := by rw [List.take_of_length_le (by have := Hlen.out; omega)]
      have HE := Lib.hid e
      clear e
      go_wp2
      go_ret
      exact ⟨ret_int (by have := HE.out; omega), Hb.out⟩
end Go.Proofs.Ytaabhnjikggomaa
