/-
  The law's fixed fact of layer 20. Conditions: those that each theorem states.
-/
import Derived.Test.YtkjnpdnihfohoaaDelPut
import Derived.Test.YtkjnpdnihfohoaaDelTakeM
import Derived.Test.YtkjnpdnihfohoaaHeadRef
namespace Go.Proofs.Ytkjnpdnihfohoaa
open Go.RowKit Go.Lib Go.Maps Go.WideMaps Leb

def hA : Hd := (⟨#[97]⟩, ⟨#[]⟩)
def hB : Hd := (⟨#[98]⟩, ⟨#[]⟩)
def hC : Hd := (⟨#[99]⟩, ⟨#[]⟩)
def hX : Hd := (⟨#[120]⟩, ⟨#[]⟩)
def wasD : List Hd := [hA, hB, hC]
def listD : List Hd := [hA, hX, hC]
def bD : List Int := [1, 1, 1, 0, 1, 120, 0, 0]
def tD : List (List UInt8) := [[120], []]
theorem endsD : endA wasD listD = 1 ∧ endB wasD listD = 1 := by decide
theorem putD9 : ([] : List Int) ++ dputB [] wasD listD = bD ∧ dputL [] wasD listD = tD := by
  have e3 : txs (fresh wasD listD) = tD := by decide
  have e4 : numT [] [120] = 0 := rfl
  have e5 : numT [[120]] [] = 0 := rfl
  have l1 : putL [] [120] = [[120]] := by rw [putL_new e4]; rfl
  constructor
  · unfold dputB dputH
    rw [endsD.1, endsD.2, e3, show listD.length - 1 - 1 = 1 from rfl, enc_small (by omega)]
    show [] ++ ([1] ++ [1] ++ [1] ++ (putB [] [120] ++ (putB (putL [] [120]) [] ++ []))) = bD
    rw [l1, putB_new e4, putB_new e5, show ([120] : List UInt8).length = 1 from rfl, show ([] : List UInt8).length = 0 from rfl, enc_small (by omega), enc_small (by omega)]
    rfl
  · unfold dputL
    rw [e3]
    show putL (putL [] [120]) [] = tD
    rw [l1, putL_new e5]
    rfl
theorem takD : dtake [] bD 0 wasD = ((listD, 8, 0), tD) := by decide
theorem takE : dtake [] [0, 0, 0] 0 [] = (([], 3, 0), []) := by decide
theorem takF : dtake [] [1, 0, 0] 0 [] = (([], 0, 5), []) := by decide

/-- Memory behind a call that has changed blocks made since alone. -/
theorem below_step {B : Nat} {w0 w w' : World} {b : Nat} {S S' : Nat → Prop} {l' : List (List UInt8)} (hb : Below B w0 w) (hs : PStep w w' b S S' l') (hB : B ≤ w.heap.size) (hS : ∀ k, S k → B ≤ k) : Below B w0 w' := below_alt hb hs.alt hB hS
section
variable (W : World) (b : Nat) (S : Nat → Prop) (A Aw Al : Option Addr) (c cw cl : Nat)
theorem putD (h : PTab W b [] S) (hw : Hds W Aw 3 cw wasD) (hl : Hds W Al 3 cl listD) (ho : Off S Al 3) : Calls Try.prog 6 #[.slice Option.none 0 0, .pointer (some ⟨b, 0, Option.none⟩), .slice Aw 3 cw, .slice Al 3 cl] W (PutEnd W b S bD tD) := by
  have := dput_any b [] S Option.none 0 0 [] Aw 3 cw wasD Al 3 cl listD W h (by simp) (holds_nil W) (by omega) hw hl ho (by omega) (by omega) (by unfold Short listD; decide)
  rw [putD9.1, putD9.2] at this
  exact this
theorem takeD20 (h : PTab W b [] S) (hX : Holds W A 8 c bD) (ho : Off S A 8) (hw : Hds W Aw 3 cw wasD) (how : Off S Aw 3) : Calls Try.prog 10 #[.slice A (8 : Nat) c, .int .i64 0, .pointer (some ⟨b, 0, Option.none⟩), .slice Aw 3 cw] W fun e w' => ∃ v S', e = .returned (.tuple #[v, .int .i64 8, .int .i64 0]) ∧ OwnsH w' W.heap.size v listD ∧ PStep W w' b S S' tD := by
  have := dtake20_any b [] S A 8 c bD 0 Aw 3 cw wasD W h (by simp) hX (by omega) hw (by omega) how ho
  rw [takD] at this
  exact this
theorem takeE20 (h : PTab W b [] S) (hX : Holds W A 3 c [0, 0, 0]) (ho : Off S A 3) : Calls Try.prog 10 #[.slice A 3 c, .int .i64 0, .pointer (some ⟨b, 0, Option.none⟩), .slice Option.none 0 0] W fun e w' => ∃ v S', e = .returned (.tuple #[v, .int .i64 3, .int .i64 0]) ∧ PStep W w' b S S' [] := by
  have := dtake20_any b [] S A 3 c [0, 0, 0] 0 Option.none 0 0 [] W h (by simp) hX (by omega) (hds_empty W _ _ (Nat.zero_le _) (fun _ => rfl)) (by omega) (fun _ _ e => by cases e) ho
  rw [takE] at this
  exact this.mono fun e w' ⟨v, S', he, _, hs⟩ => ⟨v, S', he, hs⟩
theorem takeF20 (h : PTab W b [] S) (hX : Holds W A 3 c [1, 0, 0]) (ho : Off S A 3) : Calls Try.prog 10 #[.slice A 3 c, .int .i64 0, .pointer (some ⟨b, 0, Option.none⟩), .slice Option.none 0 0] W fun e w' => ∃ v S', e = .returned (.tuple #[v, .int .i64 0, .int .i64 5]) ∧ PStep W w' b S S' [] := by
  have := dtake20_any b [] S A 3 c [1, 0, 0] 0 Option.none 0 0 [] W h (by simp) hX (by omega) (hds_empty W _ _ (Nat.zero_le _) (fun _ => rfl)) (by omega) (fun _ _ e => by cases e) ho
  rw [takF] at this
  exact this.mono fun e w' ⟨v, S', he, _, hs⟩ => ⟨v, S', he, hs⟩
end
/-- Whatever lies in older memory is none of a new table's. -/
theorem off_old {W : World} {S : Nat → Prop} {A : Option Addr} {n c : Nat} {X : List Int} (h : Holds W A n c X) (hS : ∀ k, S k → W.heap.size ≤ k) : Off S A n := fun g off e h0 hs => by
  subst e
  have := h.block h0
  have := hS g hs
  omega

theorem hds_at (W : World) (g : Nat) (hg : g = W.heap.size) (cs : Array Value) (l : List Hd) (hcs : cs = (hcells l).toArray) (hm : l.length ≤ maxLen) : Hds (W.alloc (.cells cs 44)) (some ⟨g, 0, Option.none⟩) l.length l.length l := by
  subst hg
  exact hds_new W cs l hcs hm
theorem holds_at (W : World) (g : Nat) (hg : g = W.heap.size) (cs : Array Value) (l : List Int) (h : Holds (W.alloc (.cells cs 5)) (some ⟨W.heap.size, 0, Option.none⟩) l.length l.length l) : Holds (W.alloc (.cells cs 5)) (some ⟨g, 0, Option.none⟩) l.length l.length l := by
  subst hg
  exact h
theorem offH_old {W : World} {S : Nat → Prop} {A : Option Addr} {n c : Nat} {l : List Hd} (h : Hds W A n c l) (hS : ∀ k, S k → W.heap.size ≤ k) : Off S A n := off_below h hS

set_option maxHeartbeats 32000000 in
set_option maxRecDepth 100000 in
theorem awake20_any (w : World) : Calls Try.prog 5 #[] w fun e w' => e = .returned (.bool true) ∧ Below w.heap.size w w' := by
  have t1 : True := trivial
  have t2 : True := trivial
  have t3 : True := trivial
  have t4 : True := trivial
  have u1 : True := trivial
  have u2 : True := trivial
  have u3 : True := trivial
  have hlit := fun W => text_new (P := Try.prog) 22 9 5 Try.underlying22 Try.underlying5 Try.underlying9 W W.heap.size rfl #[.int .u8 1, .int .u8 1, .int .u8 1, .int .u8 0, .int .u8 1, .int .u8 120, .int .u8 0, .int .u8 0] bD 8 8 rfl (by unfold Leb.Bytes bD; decide) rfl rfl (by omega)
  have hE3 := Lib.hid (fun W => holds_new W 5 #[.int .u8 0, .int .u8 0, .int .u8 0] [0, 0, 0] rfl (by intro x hx; simp at hx; omega) (by simp [maxLen]))
  have hF3 := Lib.hid (fun W => holds_new W 5 #[.int .u8 1, .int .u8 0, .int .u8 0] [1, 0, 0] rfl (by intro x hx; simp at hx; omega) (by simp [maxLen]))
  have hw9 := Lib.hid (fun W g (hg : g = W.heap.size) => hds_at W g hg #[.string ⟨#[97]⟩, .string ⟨#[]⟩, .string ⟨#[98]⟩, .string ⟨#[]⟩, .string ⟨#[99]⟩, .string ⟨#[]⟩] wasD rfl (by simp [maxLen, wasD]))
  have hl9 := Lib.hid (fun W g (hg : g = W.heap.size) => hds_at W g hg #[.string ⟨#[97]⟩, .string ⟨#[]⟩, .string ⟨#[120]⟩, .string ⟨#[]⟩, .string ⟨#[99]⟩, .string ⟨#[]⟩] listD rfl (by simp [maxLen, listD]))
  obtain ⟨z, hz⟩ : ∃ z, z = strOfNums bD := ⟨_, rfl⟩
  simp only [← hz] at hlit
  have hz' := Lib.hid hz
  clear hz
  go_enter Try.func5, Try.ntmps5
  go_wp2_with (first
    | (go_at_call 7; have _t := t1; refine (newP_any _).mono ?_; rintro e w2 ⟨b1, S1, rfl, hp1, hlo1, hb1⟩; have hW1 := (hw9.out w w.heap.size rfl).later (below_box _ (.cells #[.string ⟨#[97]⟩, .string ⟨#[]⟩, .string ⟨#[120]⟩, .string ⟨#[]⟩, .string ⟨#[99]⟩, .string ⟨#[]⟩] 44)); have hL1 := hl9.out (w.alloc (.cells #[.string ⟨#[97]⟩, .string ⟨#[]⟩, .string ⟨#[98]⟩, .string ⟨#[]⟩, .string ⟨#[99]⟩, .string ⟨#[]⟩] 44)) (w.heap.size + 1) (by simp); have hp1' := Lib.hid hp1; have hlo2 := Lib.hid (off_below hL1 hlo1); have hwo2 := Lib.hid (off_below hW1 hlo1); have hW2 := Lib.hid (hW1.later hb1); have hL2 := Lib.hid (hL1.later hb1); have hB1 := Lib.hid (((below_box w _).alloc (below_box w _).size _).trans (hb1.mono (by simp; omega))); have hS1 := Lib.hid (fun k hk => Nat.le_trans (show w.heap.size ≤ _ by simp; omega) (hlo1 k hk)); clear hp1 hlo1 hb1 hW1 hL1 t1)
    | (go_at_call 6; refine (putD w2 b1 S1 _ _ 3 3 hp1'.out hW2.out hL2.out hlo2.out).mono ?_; rintro e w3 ⟨r3, S3, rfl, ho3, hf3, hs3⟩; have hB3 := Lib.hid (below_step hB1.out hs3 hB1.out.size hS1.out); have hW3 := Lib.hid (hW2.out.alt hs3.alt hwo2.out); have hL3 := Lib.hid (hL2.out.alt hs3.alt hlo2.out); obtain ⟨A3, c3, rfl, hX3⟩ := ho3.holds; have hX3' := Lib.hid hX3; clear ho3 hf3 hs3 hX3)
    | (go_at_call 7; have _t := t2; refine (newP_any w3).mono ?_; rintro e w4 ⟨b2, S2, rfl, hp2, hlo4, hb4⟩; have hp2' := Lib.hid hp2; have hlo4' := Lib.hid hlo4; have hb4' := Lib.hid hb4; clear hp2 hlo4 hb4 t2)
    | (go_at_call 10; have _t := u1; refine (takeD20 w4 b2 S2 A3 _ c3 3 hp2'.out (hX3'.out.later hb4'.out) (off_old hX3'.out hlo4'.out) (hW3.out.later hb4'.out) (off_below hW3.out hlo4'.out)).mono ?_; rintro e w5 ⟨v5, S5, rfl, ho5, hs5⟩; have hb5 := Lib.hid (below_step hb4'.out hs5 hb4'.out.size hlo4'.out); have hX5 := Lib.hid (hX3'.out.later hb5.out); have hL5 := Lib.hid (hL3.out.later hb5.out); have hB5 := Lib.hid (hB3.out.trans (hb5.out.mono hB3.out.size)); obtain ⟨A5, c5, rfl, hv5⟩ := ho5.hds; have hv5' := Lib.hid hv5; clear ho5 hs5 hv5 u1)
    | (go_at_call 7; have _t := t3; refine (newP_any _).mono ?_; rintro e w6 ⟨b3, S6, rfl, hp3, hlo6, hb6⟩; have hp3' := Lib.hid hp3; have hlo6' := Lib.hid hlo6; have hb6' := Lib.hid hb6; have hb56 := Lib.hid (below_then (below_box w5 (.cells #[.int .u8 0, .int .u8 0, .int .u8 0] 5)) hb6); clear hp3 hlo6 hb6 t3)
    | (go_at_call 10; have _t := u2; refine (takeE20 w6 b3 S6 _ _ hp3'.out ((hE3.out w5).later hb6'.out) (off_old (hE3.out w5) hlo6'.out)).mono ?_; rintro e w7 ⟨v7, S7, rfl, hs7⟩; have hb7 := Lib.hid (below_step hb56.out hs7 hb56.out.size fun k hk => Nat.le_trans (by simp) (hlo6'.out k hk)); have hX7 := Lib.hid (hX5.out.later hb7.out); have hL7 := Lib.hid (hL5.out.later hb7.out); have hv7 := Lib.hid (hv5'.out.later hb7.out); have hB7 := Lib.hid (hB5.out.trans (hb7.out.mono hB5.out.size)); clear hs7 u2)
    | (go_at_call 7; have _t := t4; refine (newP_any _).mono ?_; rintro e w8 ⟨b4, S8, rfl, hp4, hlo8, hb8⟩; have hp4' := Lib.hid hp4; have hlo8' := Lib.hid hlo8; have hb8' := Lib.hid hb8; have hb78 := Lib.hid (below_then (below_box w7 (.cells #[.int .u8 1, .int .u8 0, .int .u8 0] 5)) hb8); clear hp4 hlo8 hb8 t4)
    | (go_at_call 10; have _t := u3; refine (takeF20 w8 b4 S8 _ _ hp4'.out ((hF3.out w7).later hb8'.out) (off_old (hF3.out w7) hlo8'.out)).mono ?_; rintro e w9 ⟨v9, S9, rfl, hs9⟩; have hb9 := Lib.hid (below_step hb78.out hs9 hb78.out.size fun k hk => Nat.le_trans (by simp) (hlo8'.out k hk)); have hX9 := hX7.out.later hb9.out; have ht9 := run_text (P := Try.prog) 22 9 5 Try.underlying22 Try.underlying5 Try.underlying9 hX9; rw [← hz'.out] at ht9; have hL9 := Lib.hid (hL7.out.later hb9.out); have hv9 := Lib.hid (hv7.out.later hb9.out); have hB9 := Lib.hid (hB7.out.trans (hb9.out.mono hB7.out.size)); clear hs9 hX9 u3)
    | (go_at_call 12; refine (same9_any _ _ 3 3 _ _ listD _ (hv9.out.later (below_box w9 _)) (hL9.out.later (below_box w9 _))).mono ?_; rintro e w10 ⟨rfl, hb10⟩; have hB10 := Lib.hid (hB9.out.trans ((below_then (below_box w9 _) hb10).mono hB9.out.size)); clear hb10))
  go_ret
  exact ⟨rfl, hB10.out⟩
end Go.Proofs.Ytkjnpdnihfohoaa
