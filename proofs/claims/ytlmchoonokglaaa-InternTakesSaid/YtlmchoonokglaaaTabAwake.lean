/-
  Two of intern's Tables side by side; the law's fixed fact. Conditions: those that each theorem states.
-/
import Derived.Test.YtlmchoonokglaaaTabDuo
import Derived.Test.YtlmchoonokglaaaTabLen
namespace Go.Proofs.Ytlmchoonokglaaa
open Go.RowKit Go.Lib Go.Maps Go.WideMaps Leb

/-- Two Tables, apart, in memory from block B on. -/
structure Twin (B : Nat) (w : World) (b1 : Nat) (l1 : List (List UInt8)) (S1 : Nat → Prop) (b2 : Nat) (l2 : List (List UInt8)) (S2 : Nat → Prop) : Prop where
  p1 : PTab w b1 l1 S1
  p2 : PTab w b2 l2 S2
  ap : ∀ k, S1 k → ¬ S2 k
  lo1 : ∀ k, S1 k → B ≤ k
  lo2 : ∀ k, S2 k → B ≤ k
section
variable {B : Nat} {w w' : World} {b1 b2 : Nat} {l1 l2 l' : List (List UInt8)} {S1 S2 S' : Nat → Prop}
theorem Twin.later (h : Twin B w b1 l1 S1 b2 l2 S2) (hb : Below w.heap.size w w') : Twin B w' b1 l1 S1 b2 l2 S2 := ⟨h.p1.later hb, h.p2.later hb, h.ap, h.lo1, h.lo2⟩
theorem Twin.swap (h : Twin B w b1 l1 S1 b2 l2 S2) : Twin B w b2 l2 S2 b1 l1 S1 := ⟨h.p2, h.p1, fun k h2 h1 => h.ap k h1 h2, h.lo2, h.lo1⟩
theorem Twin.step1 (h : Twin B w b1 l1 S1 b2 l2 S2) (hs : PStep w w' b1 S1 S' l') (hB : B ≤ w.heap.size) : Twin B w' b1 l' S' b2 l2 S2 :=
  ⟨hs.tab, h.p2.alt hs.alt fun k h2 h1 => h.ap k h1 h2, fun k hk h2 => by
    rcases hs.new k hk with h1 | h1
    · exact h.ap k h1 h2
    · have := h.p2.low k h2; omega, fun k hk => by
    rcases hs.new k hk with h1 | h1
    · exact h.lo1 k h1
    · omega, h.lo2⟩
theorem Twin.step2 (h : Twin B w b1 l1 S1 b2 l2 S2) (hs : PStep w w' b2 S2 S' l') (hB : B ≤ w.heap.size) : Twin B w' b1 l1 S1 b2 l' S' := (h.swap.step1 hs hB).swap
theorem Bts.swap {v : Value} {X : List Int} (h : Bts w v X S1 S2) : Bts w v X S2 S1 := by
  obtain ⟨A, c, e, hX, h1, h2⟩ := h.rd
  exact ⟨A, c, e, hX, h2, h1⟩
theorem Bts.step2 {v : Value} {X : List Int} (h : Bts w v X S1 S2) (hs : PStep w w' b2 S2 S' l') : Bts w' v X S1 S' := (h.swap.stepP hs).swap
/-- What Put gives back, beside the other table. -/
theorem Twin.made {v : Value} {X : List Int} (h : Twin B w b1 l1 S1 b2 l2 S2) (hown : Owns w' w.heap.size 5 v X) (h1 : OffV S' v) : Bts w' v X S' S2 := bts_own hown h1 (hown.off h.p2.low)
theorem Duo.madeP {v : Value} {X : List Int} (h : Duo B w b1 l1 S1 b2 l2 S2) (hown : Owns w' w.heap.size 5 v X) (h1 : OffV S' v) : Bts w' v X S' S2 := bts_own hown h1 (hown.off h.r.low)
theorem Duo.madeR {v : Value} {X : List Int} (h : Duo B w b1 l1 S1 b2 l2 S2) (hown : Owns w' w.heap.size 5 v X) (h1 : OffV S' v) : Bts w' v X S1 S' := bts_own hown (hown.off h.p.low) h1
end

/-- The tables of two calls of New. -/
theorem twin_new {w w1 w2 : World} {b1 b2 : Nat} {S1 S2 : Nat → Prop} (h1 : PTab w1 b1 [] S1) (lo1 : ∀ k, S1 k → w.heap.size ≤ k) (hb1 : Below w.heap.size w w1) (h2 : PTab w2 b2 [] S2) (lo2 : ∀ k, S2 k → w1.heap.size ≤ k) (hb2 : Below w1.heap.size w1 w2) :
    Twin w.heap.size w2 b1 [] S1 b2 [] S2 := ⟨h1.later hb2, h2, fun k k1 k2 => by have := h1.low k k1; have := lo2 k k2; omega, lo1, fun k hk => Nat.le_trans hb1.size (lo2 k hk)⟩

def bA : List Int := [0, 1, 97]
def bB : List Int := [0, 1, 97, 0, 1, 98]
def bC : List Int := [0, 1, 97, 0, 1, 98, 1]
def tA : List (List UInt8) := [[97]]
def tB : List (List UInt8) := [[97], [98]]
theorem pA : ([] : List Int) ++ putB [] [97] = bA ∧ putL [] [97] = tA := by
  have e : numT [] [97] = 0 := rfl
  rw [putB_new e, putL_new e]
  exact ⟨by rw [show ([97] : List UInt8).length = 1 from rfl, enc_small (by omega)]; rfl, rfl⟩
theorem pB : bA ++ putB tA [98] = bB ∧ putL tA [98] = tB := by
  have e : numT tA [98] = 0 := by decide
  rw [putB_new e, putL_new e]
  exact ⟨by rw [show ([98] : List UInt8).length = 1 from rfl, enc_small (by omega)]; rfl, rfl⟩
theorem pC : bB ++ putB tB [97] = bC ∧ putL tB [97] = tB := by
  have e : numT tB [97] = 1 := by decide
  rw [putB_old (by omega), putL_old (by omega), e, enc_small (by omega)]
  exact ⟨rfl, rfl⟩
theorem kA : takeB [] bC 0 = ([97], 3, 0) ∧ takeL [] bC 0 = tA := by decide
theorem kB : takeB tA bC 3 = ([98], 6, 0) ∧ takeL tA bC 3 = tB := by decide
theorem kC : takeB tB bC 6 = ([97], 7, 0) ∧ takeL tB bC 6 = tB := by decide
theorem kD : takeB tB [3] 0 = ([], 0, 5) ∧ takeL tB [3] 0 = tB := by decide

theorem Bts.of {w : World} {v : Value} {X : List Int} {S1 S2 : Nat → Prop} (h : Bts w v X S1 S2) {n : Nat} (hn : X.length = n) : ∃ A c, v = .slice A n c ∧ Holds w A n c X ∧ Off S1 A n ∧ Off S2 A n := by
  subst hn
  exact h.rd

section
variable (W : World) (b : Nat) (S : Nat → Prop) (A : Option Addr) (c : Nat)
theorem putA (h : PTab W b [] S) : Calls Try.prog 8 #[.pointer (some ⟨b, 0, Option.none⟩), .slice Option.none 0 0, .string ⟨#[97]⟩] W (PutEnd W b S bA tA) := by
  have := putP_any b [] S Option.none 0 0 [] [97] W h (by simp) (holds_nil W) (fun _ _ e => by cases e) (by simp)
  rw [pA.1, pA.2] at this
  exact this
theorem putB9 (h : PTab W b tA S) (hX : Holds W A 3 c bA) (ho : Off S A 3) : Calls Try.prog 8 #[.pointer (some ⟨b, 0, Option.none⟩), .slice A (3 : Nat) c, .string ⟨#[98]⟩] W (PutEnd W b S bB tB) := by
  have := putP_any b tA S A 3 c bA [98] W h (by simp [tA]) hX ho (by simp)
  rw [pB.1, pB.2] at this
  exact this
theorem putC (h : PTab W b tB S) (hX : Holds W A 6 c bB) (ho : Off S A 6) : Calls Try.prog 8 #[.pointer (some ⟨b, 0, Option.none⟩), .slice A (6 : Nat) c, .string ⟨#[97]⟩] W (PutEnd W b S bC tB) := by
  have := putP_any b tB S A 6 c bB [97] W h (by simp [tB]) hX ho (by simp)
  rw [pC.1, pC.2] at this
  exact this
theorem takeA (h : PTab W b [] S) (hX : Holds W A 7 c bC) : Calls Try.prog 12 #[.pointer (some ⟨b, 0, Option.none⟩), .slice A (7 : Nat) c, .int .i64 0] W fun e w' => e = .returned (.tuple #[.string ⟨#[97]⟩, .int .i64 3, .int .i64 0]) ∧ ∃ S', PStep W w' b S S' tA := by
  have := takeP_any b [] S A 7 c bC 0 W h (by simp) hX (by simp)
  rw [kA.1, kA.2] at this
  exact this.mono fun e w' ⟨S', he, hs⟩ => ⟨he, S', hs⟩
theorem takeB9 (h : PTab W b tA S) (hX : Holds W A 7 c bC) : Calls Try.prog 12 #[.pointer (some ⟨b, 0, Option.none⟩), .slice A (7 : Nat) c, .int .i64 3] W fun e w' => e = .returned (.tuple #[.string ⟨#[98]⟩, .int .i64 6, .int .i64 0]) ∧ ∃ S', PStep W w' b S S' tB := by
  have := takeP_any b tA S A 7 c bC 3 W h (by simp [tA]) hX (by simp)
  rw [kB.1, kB.2] at this
  exact this.mono fun e w' ⟨S', he, hs⟩ => ⟨he, S', hs⟩
theorem takeC (h : PTab W b tB S) (hX : Holds W A 7 c bC) : Calls Try.prog 12 #[.pointer (some ⟨b, 0, Option.none⟩), .slice A (7 : Nat) c, .int .i64 6] W fun e w' => e = .returned (.tuple #[.string ⟨#[97]⟩, .int .i64 7, .int .i64 0]) ∧ ∃ S', PStep W w' b S S' tB := by
  have := takeP_any b tB S A 7 c bC 6 W h (by simp [tB]) hX (by simp)
  rw [kC.1, kC.2] at this
  exact this.mono fun e w' ⟨S', he, hs⟩ => ⟨he, S', hs⟩
theorem takeD (h : PTab W b tB S) (hX : Holds W A 1 c [3]) : Calls Try.prog 12 #[.pointer (some ⟨b, 0, Option.none⟩), .slice A (1 : Nat) c, .int .i64 0] W fun e w' => e = .returned (.tuple #[.string ⟨#[]⟩, .int .i64 0, .int .i64 5]) ∧ ∃ S', PStep W w' b S S' tB := by
  have := takeP_any b tB S A 1 c [3] 0 W h (by simp [tB]) hX (by simp)
  rw [kD.1, kD.2] at this
  exact this.mono fun e w' ⟨S', he, hs⟩ => ⟨he, S', hs⟩
theorem len2 (h : PTab W b tB S) : Calls Try.prog 10 #[.pointer (some ⟨b, 0, Option.none⟩)] W fun e w' => e = .returned (.int .i64 2) ∧ W = w' := lenP_any b tB S W h
end

theorem Twin.on {B : Nat} {w0 w w' : World} {b1 b2 : Nat} {l1 l2 l' : List (List UInt8)} {S1 S2 S' : Nat → Prop} (h : Twin B w b1 l1 S1 b2 l2 S2) (hb : Below B w0 w) (hs : PStep w w' b1 S1 S' l') (hB : B ≤ w.heap.size) : Below B w0 w' := below_alt hb hs.alt hB h.lo1

set_option maxHeartbeats 8000000 in
set_option maxRecDepth 100000 in
theorem awake19_any (w : World) : Calls Try.prog 11 #[] w fun e w' => e = .returned (.bool true) ∧ Below w.heap.size w w' := by
  have t1 : True := trivial
  have t2 : True := trivial
  have t3 : True := trivial
  have t4 : True := trivial
  have t5 : True := trivial
  have t6 : True := trivial
  have t7 : True := trivial
  have t8 : True := trivial
  have t9 : True := trivial
  have u1 : True := trivial
  have u2 : True := trivial
  have hlit := fun W => text_new (P := Try.prog) 22 9 5 Try.underlying22 Try.underlying5 Try.underlying9 W W.heap.size rfl #[.int .u8 0, .int .u8 1, .int .u8 97, .int .u8 0, .int .u8 1, .int .u8 98, .int .u8 1] bC 7 7 rfl (by unfold Bytes bC; decide) rfl rfl (by omega)
  have hthree := Lib.hid (fun W => holds_new W 5 #[.int .u8 3] [3] rfl (by intro x hx; simp at hx; omega) (by simp [maxLen]))
  obtain ⟨z, hz⟩ : ∃ z, z = strOfNums bC := ⟨_, rfl⟩
  simp only [← hz] at hlit
  have hz' := Lib.hid hz
  clear hz
  go_enter Try.func11, Try.ntmps11
  go_wp2_with (first
    | (go_at_call 6; have _t := t1; refine (newP_any w).mono ?_; rintro e w1 ⟨b1, S1, rfl, hp1, hlo1, hb1⟩; have hp1' := Lib.hid hp1; have hlo1' := Lib.hid hlo1; have hb1' := Lib.hid hb1; clear hp1 hlo1 hb1 t1)
    | (go_at_call 6; have _t := t2; refine (newP_any w1).mono ?_; rintro e w2 ⟨b2, S2, rfl, hp2, hlo2, hb2⟩; have hT2 := Lib.hid (twin_new hp1'.out hlo1'.out hb1'.out hp2 hlo2 hb2); have hB2 := Lib.hid (below_then hb1'.out hb2); clear hp2 hlo2 hb2 hp1' hlo1' hb1' t2)
    | (go_at_call 8; have _t := t3; refine (putA w2 b1 S1 hT2.out.p1).mono ?_; rintro e w3 ⟨r3, S3, rfl, ho3, hf3, hs3⟩; have hT3 := Lib.hid (hT2.out.step1 hs3 hB2.out.size); have hB3 := Lib.hid (hT2.out.on hB2.out hs3 hB2.out.size); obtain ⟨A3, c3, rfl, hX3, h3, _⟩ := (hT2.out.made ho3 hf3).of (n := 3) rfl; have hX3' := Lib.hid hX3; have h3' := Lib.hid h3; clear ho3 hf3 hs3 hX3 h3 t3)
    | (go_at_call 8; have _t := t4; refine (putB9 w3 b1 S3 A3 c3 hT3.out.p1 hX3'.out h3'.out).mono ?_; rintro e w4 ⟨r4, S4, rfl, ho4, hf4, hs4⟩; have hT4 := Lib.hid (hT3.out.step1 hs4 hB3.out.size); have hB4 := Lib.hid (hT3.out.on hB3.out hs4 hB3.out.size); obtain ⟨A4, c4, rfl, hX4, h4, _⟩ := (hT3.out.made ho4 hf4).of (n := 6) rfl; have hX4' := Lib.hid hX4; have h4' := Lib.hid h4; clear ho4 hf4 hs4 hX4 h4 t4)
    | (go_at_call 8; have _t := t5; refine (putC w4 b1 S4 A4 c4 hT4.out.p1 hX4'.out h4'.out).mono ?_; rintro e w5 ⟨r5, S5, rfl, ho5, hf5, hs5⟩; have hT5 := Lib.hid (hT4.out.step1 hs5 hB4.out.size); have hB5 := Lib.hid (hT4.out.on hB4.out hs5 hB4.out.size); have hY5 := Lib.hid (hT4.out.made ho5 hf5); obtain ⟨A5, c5, rfl, _⟩ := (hT4.out.made ho5 hf5).of (n := 7) rfl; clear ho5 hf5 hs5 t5)
    | (go_at_call 12; have _t := t6; refine (takeA w5 b2 S2 A5 c5 hT5.out.p2 (by obtain ⟨A9, c9, e9, h9, _⟩ := hY5.out.of (n := 7) rfl; injection e9 with e91 e92 e93; subst e91; subst e93; exact h9)).mono ?_; rintro e w6 ⟨rfl, S6, hs6⟩; have hT6 := Lib.hid (hT5.out.step2 hs6 hB5.out.size); have hB6 := Lib.hid (hT5.out.swap.on hB5.out hs6 hB5.out.size); have hY6 := Lib.hid (hY5.out.step2 hs6); clear hs6 t6)
    | (go_at_call 12; have _t := t7; refine (takeB9 w6 b2 S6 A5 c5 hT6.out.p2 (by obtain ⟨A9, c9, e9, h9, _⟩ := hY6.out.of (n := 7) rfl; injection e9 with e91 e92 e93; subst e91; subst e93; exact h9)).mono ?_; rintro e w7 ⟨rfl, S7, hs7⟩; have hT7 := Lib.hid (hT6.out.step2 hs7 hB6.out.size); have hB7 := Lib.hid (hT6.out.swap.on hB6.out hs7 hB6.out.size); have hY7 := Lib.hid (hY6.out.step2 hs7); clear hs7 t7)
    | (go_at_call 12; have _t := t8; refine (takeC w7 b2 S7 A5 c5 hT7.out.p2 (by obtain ⟨A9, c9, e9, h9, _⟩ := hY7.out.of (n := 7) rfl; injection e9 with e91 e92 e93; subst e91; subst e93; exact h9)).mono ?_; rintro e w8 ⟨rfl, S8, hs8⟩; have hT8 := Lib.hid ((hT7.out.step2 hs8 hB7.out.size).later (below_box w8 (.cells #[.int .u8 3] 5))); have hB8 := Lib.hid ((hT7.out.swap.on hB7.out hs8 hB7.out.size).alloc (Nat.le_trans hB7.out.size hs8.alt.size) (.cells #[.int .u8 3] 5)); have hY8 := Lib.hid ((hY7.out.step2 hs8).later (below_box w8 (.cells #[.int .u8 3] 5))); have hq8 := Lib.hid (Nat.le_trans hB7.out.size hs8.alt.size); clear hs8 t8)
    | (go_at_call 12; have _t := t9; refine (takeD _ b2 S8 _ _ hT8.out.p2 (hthree.out w8)).mono ?_; rintro e w9 ⟨rfl, S9, hs9⟩; have hT9 := Lib.hid (hT8.out.step2 hs9 hB8.out.size); have hB9 := Lib.hid (hT8.out.swap.on hB8.out hs9 hB8.out.size); have hY9 := Lib.hid (hY8.out.step2 hs9); have hT9s := Lib.hid hs9.alt.size; obtain ⟨A9, c9, e9, h9, _⟩ := hY9.out.of (n := 7) rfl; injection e9 with e91 e92 e93; subst e91; subst e93; have ht9 := run_text (P := Try.prog) 22 9 5 Try.underlying22 Try.underlying5 Try.underlying9 h9; rw [← hz'.out] at ht9; clear hs9 t9 h9)
    | (go_at_call 10; have _t := u1; refine (len2 _ b2 S9 (hT9.out.later (below_box w9 _)).p2).mono ?_; rintro e wa ⟨rfl, hw⟩; subst hw; clear u1)
    | (go_at_call 10; have _t := u2; refine (len2 _ b1 S5 (hT9.out.later (below_box w9 _)).p1).mono ?_; rintro e wa ⟨rfl, hw⟩; subst hw; clear u2))
  go_ret
  exact ⟨rfl, hB9.out.alloc (Nat.le_trans hB8.out.size hT9s.out) _⟩
end Go.Proofs.Ytlmchoonokglaaa
