/-
  Plain facts on bytes in pieces: what a piece is, how bytes are divided, what reading piece by piece gives; bytes come back of their pieces wherever these stand; what is accepted is the pieces of the result; a piece whose checksum does not fit is refused. No program is spoken of here; S is whatever gives a text its four bytes of checksum.
-/
import Derived.Test.YtaabhnjikggomaaLebMath
namespace Go.Proofs.Ytaabhnjikggomaa.Chunk
open Leb

/-- What a checksum's bytes are: four. -/
structure Sums (S : List Int → List Int) : Prop where
  len : ∀ p, (S p).length = 4
  byt : ∀ p, Bytes (S p)

/-- A piece: the number, the bytes, the checksum of both. -/
def piece (S : List Int → List Int) (c : List Int) : List Int := enc c.length ++ c ++ S (enc c.length ++ c)

/-- Part number k of l. -/
def part (l : List Int) (k : Nat) : List Int := (l.drop (256 * k)).take 256
/-- How many parts there are. -/
def many (l : List Int) : Nat := (l.length + 255) / 256
/-- The parts of l, and the empty one behind them. -/
def parts (l : List Int) : List (List Int) := (List.range (many l)).map (part l) ++ [[]]
/-- l in pieces. -/
def pack (S : List Int → List Int) (l : List Int) : List Int := ((parts l).map (piece S)).flatten

theorem part_drop (l : List Int) (k : Nat) : part (l.drop 256) k = part l (k + 1) := by
  simp only [part, List.drop_drop]
  congr 2
  omega
theorem part_length (l : List Int) (k : Nat) : (part l k).length = min 256 (l.length - 256 * k) := by simp [part]
theorem parts_nil : parts [] = [[]] := by simp [parts, many]
theorem parts_cons {l : List Int} (h : l ≠ []) : parts l = l.take 256 :: parts (l.drop 256) := by
  have hp : 0 < l.length := List.length_pos_iff.2 h
  have e : many l = many (l.drop 256) + 1 := by simp only [many, List.length_drop]; omega
  simp only [parts, e, List.range_succ_eq_map, List.map_cons, List.map_map, List.cons_append]
  congr 1
  congr 1
  apply List.map_congr_left
  intro k _
  exact (part_drop l k).symm

theorem pack_nil (S : List Int → List Int) : pack S [] = piece S [] := by simp [pack, parts_nil]
theorem pack_cons (S : List Int → List Int) {l : List Int} (h : l ≠ []) : pack S l = piece S (l.take 256) ++ pack S (l.drop 256) := by
  simp [pack, parts_cons h]

theorem piece_length {S : List Int → List Int} (hS : Sums S) (c : List Int) : (piece S c).length = (enc c.length).length + c.length + 4 := by simp [piece, hS.len]; omega
theorem piece_bytes {S : List Int → List Int} (hS : Sums S) {c : List Int} (hc : Bytes c) : Bytes (piece S c) := ((enc_bytes _).append hc).append (hS.byt _)
theorem enc_len256 {n : Nat} (h : n ≤ 256) : 1 ≤ (enc n).length ∧ (enc n).length ≤ 2 :=
  ⟨size_pos n, size_le 1 n (by omega)⟩

/-- Reading one piece at p: its bytes, the offset after it, the error's number. -/
def rd (S : List Int → List Int) (s : List Int) (p : Nat) (full : Bool) : List Int × Int × Int :=
  if (take s p).2.2 ≠ 0 then ([], 0, (take s p).2.2)
  else if 256 < (take s p).1 then ([], 0, 2)
  else if (take s p).1 ≠ 0 ∧ full = false then ([], 0, 9)
  else if s.length < (take s p).2.1.toNat + (take s p).1 + 4 then ([], 0, 7)
  else if S ((s.drop p).take ((take s p).2.1.toNat + (take s p).1 - p)) ≠ (s.drop ((take s p).2.1.toNat + (take s p).1)).take 4 then ([], 0, 6)
  else ((s.drop (take s p).2.1.toNat).take (take s p).1, ((take s p).2.1.toNat + (take s p).1 + 4 : Nat), 0)

/-- Reading piece by piece: the bytes, the offset after the last piece, the error's number. -/
def unp (S : List Int → List Int) (s : List Int) : Nat → Nat → Bool → List Int → List Int × Int × Int
  | 0, _, _, _ => ([], 0, 0)
  | f + 1, p, full, acc =>
    if (rd S s p full).2.2 ≠ 0 then ([], 0, (rd S s p full).2.2)
    else if (rd S s p full).1 = [] then (acc, (rd S s p full).2.1, 0)
    else unp S s f (rd S s p full).2.1.toNat (decide ((rd S s p full).1.length = 256)) (acc ++ (rd S s p full).1)

/-- What Unpack gives. -/
def unpack (S : List Int → List Int) (s : List Int) (p : Int) : List Int × Int × Int :=
  if p < 0 ∨ (s.length : Int) < p then ([], 0, 1) else unp S s (s.length + 1) p.toNat true []

/-- Where Take accepts, what it accepts stands there. -/
theorem take_fit {s : List Int} (hb : Bytes s) {p : Nat} (hp : p ≤ s.length) (h : (take s p).2.2 = 0) :
    p < (take s p).2.1.toNat ∧ (take s p).2.1.toNat ≤ s.length ∧ (take s p).2.1 = ((take s p).2.1.toNat : Int) ∧ (s.drop p).take ((take s p).2.1.toNat - p) = enc (take s p).1 := by
  have e0 : take s p = ((take (s.drop p) 0).1, (if (take (s.drop p) 0).2.2 = 0 then (p : Int) + (take (s.drop p) 0).2.1 else 0), (take (s.drop p) 0).2.2) := by
    have a1 : take s p = (if span (s.drop p) = 0 ∧ (s.drop p).length < 10 then (0, 0, 7) else if span (s.drop p) = 0 ∨ uniq ((s.drop p).take (span (s.drop p))) = false then (0, 0, 4) else (val ((s.drop p).take (span (s.drop p))), (p : Int) + span (s.drop p), 0)) := by
      unfold take
      rw [if_neg (by omega), Int.toNat_natCast]
    have a2 : take (s.drop p) 0 = (if span (s.drop p) = 0 ∧ (s.drop p).length < 10 then (0, 0, 7) else if span (s.drop p) = 0 ∨ uniq ((s.drop p).take (span (s.drop p))) = false then (0, 0, 4) else (val ((s.drop p).take (span (s.drop p))), (0 : Int) + span (s.drop p), 0)) := by
      unfold take
      rw [if_neg (by omega), Int.toNat_zero, List.drop_zero]
    rw [a1, a2]
    generalize s.drop p = z
    by_cases c1 : span z = 0 ∧ z.length < 10
    · simp only [if_pos c1]; simp
    · by_cases c2 : span z = 0 ∨ uniq (z.take (span z)) = false
      · simp only [if_neg c1, if_pos c2]; simp
      · simp only [if_neg c1, if_neg c2]; simp
  rw [e0] at h ⊢
  simp only at h ⊢
  have ht : take (s.drop p) 0 = ((take (s.drop p) 0).1, (take (s.drop p) 0).2.1, 0) := Prod.ext rfl (Prod.ext rfl h)
  obtain ⟨h1, h2, h3, _⟩ := take_only (hb.drop p) ht
  rw [if_pos h]
  have hl := congrArg List.length h3
  have hsp := size_pos (take (s.drop p) 0).1
  unfold size at hsp
  rw [List.length_take] at hl
  rw [List.length_drop] at h2 hl
  refine ⟨by omega, by omega, by omega, ?_⟩
  rw [h3]
  congr 1
  omega

/-- What reading a piece says where it accepts. -/
theorem rd_fit {S : List Int → List Int} {s : List Int} (hb : Bytes s) {p : Nat} (hp : p ≤ s.length) {full : Bool} {c : List Int} {q : Int} (h : rd S s p full = (c, q, 0)) :
    ∃ m : Nat, q = (m : Int) ∧ p + 5 ≤ m ∧ m ≤ s.length ∧ c.length ≤ 256 ∧ (full = false → c = []) ∧ (s.drop p).take (m - p) = piece S c ∧ (c = (s.drop (take s p).2.1.toNat).take (take s p).1 ∧ c.length = (take s p).1 ∧ m = (take s p).2.1.toNat + c.length + 4 ∧ (take s p).2.1.toNat ≤ s.length) := by
  unfold rd at h
  by_cases h1 : (take s p).2.2 = 0
  · rw [if_neg (by simpa using h1)] at h
    obtain ⟨f1, f2, f3, f4⟩ := take_fit hb hp h1
    by_cases h2 : 256 < (take s p).1
    · rw [if_pos h2] at h; simp at h
    rw [if_neg h2] at h
    by_cases h3 : (take s p).1 ≠ 0 ∧ full = false
    · rw [if_pos h3] at h; simp at h
    rw [if_neg h3] at h
    by_cases h4 : s.length < (take s p).2.1.toNat + (take s p).1 + 4
    · rw [if_pos h4] at h; simp at h
    rw [if_neg h4] at h
    by_cases h5 : S ((s.drop p).take ((take s p).2.1.toNat + (take s p).1 - p)) ≠ (s.drop ((take s p).2.1.toNat + (take s p).1)).take 4
    · rw [if_pos h5] at h; simp at h
    rw [if_neg h5] at h
    simp only [ne_eq, Decidable.not_not] at h5
    generalize (take s p).1 = n at *
    generalize (take s p).2.1.toNat = from_ at *
    injection h with hc hq
    injection hq with hq _
    have hcl : c.length = n := by rw [← hc, List.length_take, List.length_drop]; omega
    refine ⟨from_ + n + 4, hq.symm, ?_, by omega, by omega, fun hf => ?_, ?_, hc.symm, hcl, by omega, f2⟩
    · omega
    · have : n = 0 := by
        rcases Nat.eq_zero_or_pos n with h0 | h0
        · exact h0
        · exact absurd ⟨by omega, hf⟩ h3
      exact List.eq_nil_of_length_eq_zero (by omega)
    · have e1 : (s.drop p).take (from_ + n - p) = enc n ++ c := by
        rw [show from_ + n - p = (from_ - p) + n by omega, List.take_add, f4, List.drop_drop, show p + (from_ - p) = from_ by omega, hc]
      rw [show from_ + n + 4 - p = (from_ + n - p) + 4 by omega, List.take_add, List.drop_drop, show p + (from_ + n - p) = from_ + n by omega, ← h5, e1, piece, hcl]
  · rw [if_pos h1] at h
    injection h with _ h
    injection h with _ h
    exact absurd h h1

/-- A piece is read, whatever lies around it. -/
theorem rd_piece {S : List Int → List Int} (hS : Sums S) (a r : List Int) {c : List Int} {full : Bool} (hc : c.length ≤ 256) (hf : full = false → c = []) :
    rd S (a ++ piece S c ++ r) a.length full = (c, ((a ++ piece S c).length : Int), 0) := by
  have ht : take (a ++ piece S c ++ r) a.length = (c.length, ((a ++ enc c.length).length : Int), 0) := by
    have := take_enc a (c ++ S (enc c.length ++ c) ++ r) (n := c.length) (by omega)
    rw [← this]
    congr 1
    simp [piece]
  have hn : ((a ++ enc c.length).length : Int).toNat = (a ++ enc c.length).length := Int.toNat_natCast _
  unfold rd
  rw [ht]
  simp only [hn]
  have hl : (a ++ piece S c ++ r).length = (a ++ enc c.length).length + c.length + 4 + r.length := by simp [piece_length hS]; omega
  have e1 : ((a ++ piece S c ++ r).drop a.length).take ((a ++ enc c.length).length + c.length - a.length) = enc c.length ++ c := by
    rw [List.append_assoc, List.drop_left, show (a ++ enc c.length).length + c.length - a.length = (enc c.length ++ c).length by simp; omega, piece, List.append_assoc (enc c.length ++ c), List.take_left]
  have e2 : (a ++ piece S c ++ r).drop ((a ++ enc c.length).length + c.length) = S (enc c.length ++ c) ++ r := by
    rw [show (a ++ enc c.length).length + c.length = (a ++ (enc c.length ++ c)).length by simp; omega, show a ++ piece S c ++ r = (a ++ (enc c.length ++ c)) ++ (S (enc c.length ++ c) ++ r) by simp [piece], List.drop_left]
  have e3 : (a ++ piece S c ++ r).drop (a ++ enc c.length).length = c ++ (S (enc c.length ++ c) ++ r) := by
    rw [show a ++ piece S c ++ r = (a ++ enc c.length) ++ (c ++ (S (enc c.length ++ c) ++ r)) by simp [piece], List.drop_left]
  rw [if_neg (by simp), if_neg (by omega), if_neg (fun h => by have := hf h.2; subst this; exact h.1 rfl), if_neg (by omega), e1, e2]
  rw [if_neg (by
    have := hS.len (enc c.length ++ c)
    rw [List.take_append_of_le_length (by omega), List.take_of_length_le (by omega)]
    simp), e3]
  have e4 : (c ++ (S (enc c.length ++ c) ++ r)).take c.length = c := by simp
  rw [e4]
  congr 2
  simp [piece_length hS]
  omega

/-- Bytes come back of their pieces, whatever lies around. -/
theorem unp_pack {S : List Int → List Int} (hS : Sums S) (r : List Int) : ∀ (k f : Nat) (a b acc : List Int) (full : Bool), b.length ≤ k → (a ++ pack S b ++ r).length < a.length + f → (full = false → b = []) →
    unp S (a ++ pack S b ++ r) f a.length full acc = (acc ++ b, ((a ++ pack S b).length : Int), 0) := by
  intro k
  induction k with
  | zero =>
    intro f a b acc full hk hf hfull
    have hb : b = [] := List.eq_nil_of_length_eq_zero (by omega)
    subst hb
    cases f with
    | zero => simp at hf; omega
    | succ f =>
      unfold unp
      rw [pack_nil, rd_piece hS a r (by simp) (fun _ => rfl)]
      simp
  | succ k ih =>
    intro f a b acc full hk hf hfull
    by_cases hb : b = []
    · exact ih f a b acc full (by rw [hb]; simp) hf hfull
    · cases f with
      | zero => simp at hf; omega
      | succ f =>
        have hp : 0 < b.length := List.length_pos_iff.2 hb
        have hfull' : full = true := by
          cases full with
          | true => rfl
          | false => exact absurd (hfull rfl) hb
        have hpl := piece_length hS (b.take 256)
        have e0 : a ++ pack S b ++ r = a ++ piece S (b.take 256) ++ (pack S (b.drop 256) ++ r) := by rw [pack_cons S hb]; simp
        have hne : b.take 256 ≠ [] := fun h => by
          have := congrArg List.length h
          simp at this
          exact hb this
        have hr := rd_piece hS a (pack S (b.drop 256) ++ r) (c := b.take 256) (full := full) (by simp; omega) (fun h => by rw [hfull'] at h; cases h)
        unfold unp
        rw [e0, hr]
        simp only [ne_eq, not_true_eq_false, if_false, hne, Int.toNat_natCast]
        have e1 : a ++ piece S (b.take 256) ++ (pack S (b.drop 256) ++ r) = (a ++ piece S (b.take 256)) ++ pack S (b.drop 256) ++ r := by simp
        rw [e1, ih f (a ++ piece S (b.take 256)) (b.drop 256) (acc ++ b.take 256) _ (by rw [List.length_drop]; omega) ?_ ?_]
        · rw [pack_cons S hb]
          simp
        · rw [e0, e1] at hf
          simp only [List.length_append] at hf ⊢
          omega
        · intro h
          have h' : ¬ (b.take 256).length = 256 := by simpa using h
          rw [List.length_take] at h'
          exact List.drop_eq_nil_of_le (by omega)

theorem unpack_pack {S : List Int → List Int} (hS : Sums S) (a b r : List Int) : unpack S (a ++ pack S b ++ r) a.length = (b, ((a ++ pack S b).length : Int), 0) := by
  unfold unpack
  rw [if_neg (by simp; omega), Int.toNat_natCast]
  have := unp_pack hS r b.length ((a ++ pack S b ++ r).length + 1) a b [] true (Nat.le_refl _) (by omega) (fun h => by cases h)
  simpa using this

/-- What is accepted is the pieces of the result. -/
theorem unp_only {S : List Int → List Int} {s : List Int} (hb : Bytes s) : ∀ (f p : Nat) (full : Bool) (acc y : List Int) (q : Int), p ≤ s.length → s.length < p + f → unp S s f p full acc = (y, q, 0) →
    ∃ (y' : List Int) (m : Nat), y = acc ++ y' ∧ q = (m : Int) ∧ p ≤ m ∧ m ≤ s.length ∧ (s.drop p).take (m - p) = pack S y' ∧ (full = false → y' = []) := by
  intro f
  induction f with
  | zero => intro p full acc y q hp hf h; omega
  | succ f ih =>
    intro p full acc y q hp hf h
    unfold unp at h
    by_cases h1 : (rd S s p full).2.2 = 0
    · rw [if_neg (by simpa using h1)] at h
      obtain ⟨c, q1, hr⟩ : ∃ c q1, rd S s p full = (c, q1, 0) := ⟨_, _, Prod.ext rfl (Prod.ext rfl h1)⟩
      obtain ⟨m, rfl, g1, g2, g3, g4, g5, _⟩ := rd_fit hb hp hr
      rw [hr] at h
      simp only [Int.toNat_natCast] at h
      by_cases hc : c = []
      · rw [if_pos hc] at h
        subst hc
        injection h with ha hq
        injection hq with hq _
        exact ⟨[], m, by simp [ha], hq.symm, by omega, g2, by rw [g5, pack_nil], fun _ => rfl⟩
      · rw [if_neg hc] at h
        obtain ⟨y', m', rfl, rfl, k1, k2, k3, k4⟩ := ih m _ _ y q g2 (by omega) h
        have hcp : 0 < c.length := List.length_pos_iff.2 hc
        refine ⟨c ++ y', m', by simp, rfl, by omega, k2, ?_, fun hf => absurd (g4 hf) hc⟩
        have e1 : (c ++ y').take 256 = c ∧ (c ++ y').drop 256 = y' := by
          by_cases h256 : c.length = 256
          · exact ⟨by rw [← h256, List.take_left], by rw [← h256, List.drop_left]⟩
          · have hy : y' = [] := k4 (by simpa using h256)
            subst hy
            exact ⟨by rw [List.append_nil, List.take_of_length_le (by omega)], by rw [List.append_nil, List.drop_eq_nil_of_le (by omega)]⟩
        rw [pack_cons S (by simp [hc]), e1.1, e1.2, ← g5, ← k3, show m' - p = (m - p) + (m' - m) by omega, List.take_add, List.drop_drop, show p + (m - p) = m by omega]
    · rw [if_pos h1] at h
      injection h with _ h
      injection h with _ h
      exact absurd h h1

theorem unpack_only {S : List Int → List Int} {s : List Int} (hb : Bytes s) {y : List Int} {q : Int} (h : unpack S s 0 = (y, q, 0)) : ∃ m : Nat, q = (m : Int) ∧ m ≤ s.length ∧ pack S y = s.take m := by
  unfold unpack at h
  rw [if_neg (by omega)] at h
  obtain ⟨y', m, rfl, rfl, _, k2, k3, _⟩ := unp_only hb _ 0 true [] y q (by omega) (by omega) h
  exact ⟨m, rfl, k2, by simpa using k3.symm⟩

/-- Where there is an error, there is nothing else. -/
theorem unp_err {S : List Int → List Int} {s : List Int} : ∀ (f p : Nat) (full : Bool) (acc : List Int), (unp S s f p full acc).2.2 ≠ 0 → (unp S s f p full acc).1 = [] ∧ (unp S s f p full acc).2.1 = 0
  | 0, _, _, _, _ => ⟨rfl, rfl⟩
  | f + 1, p, full, acc, h => by
    unfold unp at h ⊢
    split
    · exact ⟨rfl, rfl⟩
    · rename_i h1
      rw [if_neg h1] at h
      split
      · rename_i h2
        rw [if_pos h2] at h
        exact absurd rfl h
      · rename_i h2
        rw [if_neg h2] at h
        exact unp_err f _ _ _ h
theorem unpack_err {S : List Int → List Int} {s : List Int} {p : Int} (h : (unpack S s p).2.2 ≠ 0) : (unpack S s p).1 = [] ∧ (unpack S s p).2.1 = 0 := by
  unfold unpack at h ⊢
  split
  · exact ⟨rfl, rfl⟩
  · rename_i h1
    rw [if_neg h1] at h
    exact unp_err _ _ _ _ h
end Go.Proofs.Ytaabhnjikggomaa.Chunk
