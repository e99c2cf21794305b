/-
  Plain facts on the checksum: one step is linear and loses nothing; a text is taken in bit by bit, by bytes or by a table alike; texts that differ only within 32 consecutive bits have different sums. No program is spoken of here.
-/
namespace Go.Proofs.Ytaabhnjikggomaa.Cyc

/-- One step: an odd number is halved and turned by the pattern, an even one is halved. -/
def stp (n : Nat) : Nat := if n % 2 = 1 then (n / 2) ^^^ 3988292384 else n / 2

theorem stp_xor (x y : Nat) : stp (x ^^^ y) = stp x ^^^ stp y := by
  unfold stp
  rw [Nat.xor_div_two]
  have h := @Nat.xor_mod_two_eq_one x y
  by_cases hx : x % 2 = 1 <;> by_cases hy : y % 2 = 1
  · have : ¬ (x ^^^ y) % 2 = 1 := fun e => (h.1 e) (by simp [hx, hy])
    rw [if_neg this, if_pos hx, if_pos hy]
    apply Nat.eq_of_testBit_eq
    intro i
    simp only [Nat.testBit_xor]
    cases (x / 2).testBit i <;> cases (y / 2).testBit i <;> cases (3988292384 : Nat).testBit i <;> rfl
  · have : (x ^^^ y) % 2 = 1 := h.2 (by simp [hx, hy])
    rw [if_pos this, if_pos hx, if_neg hy]
    apply Nat.eq_of_testBit_eq
    intro i
    simp only [Nat.testBit_xor]
    cases (x / 2).testBit i <;> cases (y / 2).testBit i <;> cases (3988292384 : Nat).testBit i <;> rfl
  · have : (x ^^^ y) % 2 = 1 := h.2 (by simp [hx, hy])
    rw [if_pos this, if_neg hx, if_pos hy]
    apply Nat.eq_of_testBit_eq
    intro i
    simp only [Nat.testBit_xor]
    cases (x / 2).testBit i <;> cases (y / 2).testBit i <;> cases (3988292384 : Nat).testBit i <;> rfl
  · have : ¬ (x ^^^ y) % 2 = 1 := fun e => (h.1 e) (by simp [hx, hy])
    rw [if_neg this, if_neg hx, if_neg hy]

theorem stp_zero : stp 0 = 0 := rfl
theorem stp_double (m : Nat) : stp (2 * m) = m := by
  unfold stp
  rw [if_neg (by omega)]
  omega

theorem stp_lt {n : Nat} (h : n < 4294967296) : stp n < 4294967296 := by
  unfold stp
  split
  · exact Nat.xor_lt_two_pow (n := 32) (by omega) (by decide)
  · omega

theorem stp_eq_zero {n : Nat} (h : n < 4294967296) (h0 : stp n = 0) : n = 0 := by
  unfold stp at h0
  split at h0
  · exfalso
    have : n / 2 = 3988292384 := by
      have e := congrArg (· ^^^ 3988292384) h0
      simpa [Nat.xor_assoc] using e
    omega
  · omega

/-- k steps. -/
def stps : Nat → Nat → Nat
  | 0, n => n
  | k + 1, n => stps k (stp n)

theorem stps_add : ∀ (j k n : Nat), stps (j + k) n = stps k (stps j n)
  | 0, k, n => by rw [Nat.zero_add]; rfl
  | j + 1, k, n => by rw [Nat.add_right_comm]; exact stps_add j k (stp n)
theorem stps_xor : ∀ (k x y : Nat), stps k (x ^^^ y) = stps k x ^^^ stps k y
  | 0, _, _ => rfl
  | k + 1, x, y => by rw [stps, stp_xor, stps_xor k]; rfl
theorem stps_lt : ∀ (k : Nat) {n : Nat}, n < 4294967296 → stps k n < 4294967296
  | 0, _, h => h
  | k + 1, _, h => stps_lt k (stp_lt h)
theorem stps_eq_zero : ∀ (k : Nat) {n : Nat}, n < 4294967296 → stps k n = 0 → n = 0
  | 0, _, _, h0 => h0
  | k + 1, _, h, h0 => stp_eq_zero h (stps_eq_zero k (stp_lt h) h0)
theorem stps_zero : ∀ (k : Nat), stps k 0 = 0
  | 0 => rfl
  | k + 1 => by rw [stps, stp_zero]; exact stps_zero k
theorem stps_shift : ∀ (k m : Nat), stps k (2 ^ k * m) = m
  | 0, m => by simp [stps]
  | k + 1, m => by
    rw [stps, show 2 ^ (k + 1) * m = 2 * (2 ^ k * m) by rw [Nat.pow_succ, Nat.mul_comm (2 ^ k) 2, Nat.mul_assoc], stp_double]
    exact stps_shift k m

/-- A sum of parts that do not meet is their xor. -/
theorem add_xor (a : Nat) {b k : Nat} (hb : b < 2 ^ k) : 2 ^ k * a + b = (2 ^ k * a) ^^^ b := by
  apply Nat.eq_of_testBit_eq
  intro i
  rw [Nat.testBit_two_pow_mul_add a hb, Nat.testBit_xor, Nat.testBit_two_pow_mul]
  by_cases h : i < k
  · rw [if_pos h]
    simp [show ¬ k ≤ i by omega]
  · rw [if_neg h]
    have : b.testBit i = false := Nat.testBit_lt_two_pow (Nat.lt_of_lt_of_le hb (Nat.pow_le_pow_right (by omega) (by omega)))
    simp [this, show k ≤ i by omega]

/-- One byte is taken in. -/
def upd (n b : Nat) : Nat := stps 8 (n ^^^ b)
theorem upd_lt {n b : Nat} (hn : n < 4294967296) (hb : b < 256) : upd n b < 4294967296 := stps_lt 8 (Nat.xor_lt_two_pow (n := 32) hn (by omega))

/-- The table's value at c. -/
def tab (c : Nat) : Nat := stps 8 c

/-- By the table: the same. -/
theorem upd_tab (n b : Nat) : upd n b = tab ((n % 256) ^^^ b) ^^^ n / 256 := by
  unfold upd tab
  have e : n = (2 ^ 8 * (n / 256)) ^^^ (n % 256) := by
    rw [← add_xor (n / 256) (show n % 256 < 2 ^ 8 by omega)]
    omega
  have e2 : n ^^^ b = (2 ^ 8 * (n / 256)) ^^^ ((n % 256) ^^^ b) := by
    conv => lhs; rw [e]
    rw [Nat.xor_assoc]
  rw [e2, stps_xor, stps_shift, Nat.xor_comm]

/-- A text is taken in by whatever table. -/
def byTab (t : Nat → Nat) (n : Nat) (l : List Int) : Nat := l.foldl (fun n b => t ((n % 256) ^^^ b.toNat) ^^^ n / 256) n
/-- A text is taken in, byte by byte. -/
def reg (n : Nat) (l : List Int) : Nat := l.foldl (fun n b => upd n b.toNat) n

def Bytes (l : List Int) : Prop := ∀ x ∈ l, 0 ≤ x ∧ x < 256

theorem byTab_tab : ∀ (l : List Int) (n : Nat), Bytes l → byTab tab n l = reg n l
  | [], _, _ => rfl
  | b :: l, n, h => by
    show byTab tab (tab ((n % 256) ^^^ b.toNat) ^^^ n / 256) l = reg (upd n b.toNat) l
    rw [← upd_tab]
    exact byTab_tab l _ (fun x hx => h x (by simp [hx]))

theorem byTab_append (t : Nat → Nat) (n : Nat) (a b : List Int) : byTab t n (a ++ b) = byTab t (byTab t n a) b := by simp [byTab]
theorem reg_append (n : Nat) (a b : List Int) : reg n (a ++ b) = reg (reg n a) b := by simp [reg]

theorem reg_lt : ∀ (l : List Int) {n : Nat}, Bytes l → n < 4294967296 → reg n l < 4294967296
  | [], _, _, hn => hn
  | b :: l, n, h, hn => by
    have hb := h b (by simp)
    exact reg_lt l (fun x hx => h x (by simp [hx])) (upd_lt hn (by omega))

/-- The text as one number, its first bit the lowest. -/
def whole : List Int → Nat
  | [] => 0
  | b :: l => 2 ^ 8 * whole l + b.toNat

theorem reg_whole : ∀ (l : List Int) (n : Nat), Bytes l → reg n l = stps (8 * l.length) (n ^^^ whole l)
  | [], n, _ => by simp [reg, whole, stps]
  | b :: l, n, h => by
    have hb := h b (by simp)
    have ih := reg_whole l (upd n b.toNat) (fun x hx => h x (by simp [hx]))
    show reg (upd n b.toNat) l = _
    rw [ih, List.length_cons, show 8 * (l.length + 1) = 8 + 8 * l.length by omega, stps_add]
    congr 1
    show stps 8 (n ^^^ b.toNat) ^^^ whole l = stps 8 (n ^^^ (2 ^ 8 * whole l + b.toNat))
    rw [add_xor (whole l) (show b.toNat < 2 ^ 8 by omega), Nat.xor_comm (2 ^ 8 * whole l), ← Nat.xor_assoc, stps_xor 8 (n ^^^ b.toNat), stps_shift]

theorem whole_lt : ∀ (l : List Int), Bytes l → whole l < 2 ^ (8 * l.length)
  | [], _ => by simp [whole]
  | b :: l, h => by
    have hb := h b (by simp)
    have ih := whole_lt l (fun x hx => h x (by simp [hx]))
    rw [whole, List.length_cons, show 8 * (l.length + 1) = 8 * l.length + 8 by omega, Nat.pow_add]
    have : whole l + 1 ≤ 2 ^ (8 * l.length) := ih
    have h2 := Nat.mul_le_mul_right (2 ^ 8) this
    omega

/-- Texts of equal length whose numbers differ by e at bit p: their registers differ, unless e is 0. -/
theorem reg_apart {x y : List Int} (hx : Bytes x) (hy : Bytes y) (hl : y.length = x.length) {e p : Nat} (he : e < 4294967296) (hp : p ≤ 8 * x.length) (hd : whole y = whole x ^^^ 2 ^ p * e) (n : Nat) :
    reg n y = reg n x ↔ e = 0 := by
  have hr : reg n y = reg n x ^^^ stps (8 * x.length - p) e := by
    rw [reg_whole y n hy, reg_whole x n hx, hl, hd, ← Nat.xor_assoc, stps_xor]
    congr 1
    have := stps_add p (8 * x.length - p) (2 ^ p * e)
    rw [stps_shift, show p + (8 * x.length - p) = 8 * x.length by omega] at this
    exact this
  rw [hr]
  constructor
  · intro h
    have : stps (8 * x.length - p) e = 0 := by
      have e1 := congrArg (reg n x ^^^ ·) h
      simpa [← Nat.xor_assoc] using e1
    exact stps_eq_zero _ he this
  · intro h
    subst h
    rw [stps_zero]
    simp

/-- One bit of one byte is turned. -/
theorem whole_flip : ∀ (l : List Int) (j q : Nat), Bytes l → j < l.length → q < 8 → whole (l.set j (((l[j]?.getD 0).toNat ^^^ 2 ^ q : Nat) : Int)) = whole l ^^^ 2 ^ (8 * j + q)
  | [], _, _, _, h, _ => by simp at h
  | b :: l, 0, q, hb, _, hq => by
    have h1 := hb b (by simp)
    have h2 : b.toNat ^^^ 2 ^ q < 2 ^ 8 := Nat.xor_lt_two_pow (by omega) (Nat.pow_lt_pow_right (by omega) hq)
    simp only [List.set_cons_zero, List.getElem?_cons_zero, Option.getD_some, whole, Int.toNat_natCast]
    rw [add_xor _ h2, add_xor _ (show b.toNat < 2 ^ 8 by omega), Nat.xor_assoc]
    simp
  | b :: l, j + 1, q, hb, hj, hq => by
    have h1 := hb b (by simp)
    have ih := whole_flip l j q (fun x hx => hb x (by simp [hx])) (by simpa using hj) hq
    simp only [List.set_cons_succ, List.getElem?_cons_succ, whole]
    rw [ih, add_xor _ (show b.toNat < 2 ^ 8 by omega), add_xor _ (show b.toNat < 2 ^ 8 by omega)]
    have e1 : 2 ^ 8 * (whole l ^^^ 2 ^ (8 * j + q)) = 2 ^ 8 * whole l ^^^ 2 ^ (8 * (j + 1) + q) := by
      apply Nat.eq_of_testBit_eq
      intro i
      rw [Nat.testBit_two_pow_mul, Nat.testBit_xor, Nat.testBit_xor, Nat.testBit_two_pow_mul, Nat.testBit_two_pow, Nat.testBit_two_pow]
      by_cases h : 8 ≤ i
      · have : (8 * j + q = i - 8) = (8 * (j + 1) + q = i) := by apply propext; omega
        simp [h, this]
      · have : ¬ (8 * (j + 1) + q = i) := by omega
        simp [h, this]
    rw [e1, Nat.xor_assoc, Nat.xor_assoc, Nat.xor_comm b.toNat]

/-- All bits turned over. -/
theorem not32 {n : Nat} (h : n < 4294967296) : 4294967295 ^^^ n = 4294967295 - n := by
  apply Nat.eq_of_testBit_eq
  intro i
  have e := Nat.testBit_two_pow_sub_succ (n := 32) h i
  have e2 := Nat.testBit_two_pow_sub_one 32 i
  rw [Nat.testBit_xor, show (4294967295 : Nat) - n = 2 ^ 32 - (n + 1) by omega, e, show (4294967295 : Nat) = 2 ^ 32 - 1 by rfl, e2]
  by_cases hi : i < 32
  · simp [hi]
  · have : n.testBit i = false := Nat.testBit_lt_two_pow (Nat.lt_of_lt_of_le h (by
      have := Nat.pow_le_pow_right (show 0 < 2 by omega) (show 32 ≤ i by omega)
      simpa using this))
    simp [hi, this]

end Go.Proofs.Ytaabhnjikggomaa.Cyc
