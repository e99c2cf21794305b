/-
  The fixed fact of layer 14. Condition: the library's variable that strings.Split may read holds an int.
-/
import Derived.Test.YtalnjlodldhfbaaGreatDoorPreAsk
import Derived.Test.YtalnjlodldhfbaaGreatDoorPreRead
import Derived.Test.YtalnjlodldhfbaaGreatDoorPreLets
namespace Go.Proofs.YtalnjlodldhfbaaGreatDoor
open Go.RowKit Go.Lib Go.Shelf

def LX : List Hd := [(⟨#[88, 45, 66]⟩, ⟨#[]⟩), (⟨#[88, 45, 65]⟩, ⟨#[]⟩)]
def OX : List (List UInt8) := [[120, 45, 97], [120, 45, 98]]
theorem namesX : namesOf LX = [[120, 45, 98], [120, 45, 97]] := by decide +kernel
theorem unsX : uns LX = OX := (uns_is (l := LX) (out := OX) (show OX.Pairwise (· < ·) by decide +kernel) (fun x => by rw [namesX]; simp [OX, or_comm])).symm
def AX : List Hd := [askA, (askM, ⟨#[80, 85, 84]⟩), (askH, ⟨#[120, 45, 97, 44, 120, 45, 98]⟩), (askO, ⟨#[104, 116, 116, 112, 58, 47, 47, 97]⟩)]
theorem askedX : asked ⟨#[104, 116, 116, 112, 58, 47, 47, 97]⟩ ⟨#[80, 85, 84]⟩ OX = AX := by decide +kernel
theorem shortX : Short maxLen LX := short_of (by decide) (by simp [maxLen])
def AskedX (w : World) (e : Ending) (w' : World) : Prop := ∃ b d, e = .returned (.slice (some ⟨b, 0, Option.none⟩) 4 d) ∧ w'.cell? ⟨b, 5, Option.none⟩ = some (.string ⟨#[120, 45, 97, 44, 120, 45, 98]⟩) ∧ w'.cell? ⟨b, 7, Option.none⟩ = some (.string ⟨#[104, 116, 116, 112, 58, 47, 47, 97]⟩) ∧ Below w.heap.size w w'
theorem fact14_ask (A : Option Addr) (c : Nat) (w : World) (h : Hds w A 2 c LX) : Calls Tryz.prog 11 #[.string ⟨#[104, 116, 116, 112, 58, 47, 47, 97]⟩, .string ⟨#[80, 85, 84]⟩, .slice A 2 c] w (AskedX w) := by
  have h1 := ask_any A 2 c LX ⟨#[104, 116, 116, 112, 58, 47, 47, 97]⟩ ⟨#[80, 85, 84]⟩ w h (by omega) shortX (by decide)
  rw [unsX, askedX] at h1
  refine h1.mono ?_
  rintro e w' ⟨v, rfl, ho, hb⟩
  have hS : OwnsH w' w.heap.size v AX := ho
  rcases hS.2 with ⟨_, h0⟩ | ⟨g, cap, cur, rfl, hB, hg, hn, hm, hs, ht⟩
  · exact absurd h0 (by decide)
  · have hc := fun j hj => World.ownsRow.cellAt hS j hj
    exact ⟨g, cap, rfl, (hc 5 (by decide)).trans rfl, (hc 7 (by decide)).trans rfl, hb⟩

def LR : List Hd := [(⟨#[65, 99, 99, 101, 115, 115, 45, 67, 111, 110, 116, 114, 111, 108, 45, 65, 108, 108, 111, 119, 45, 79, 114, 105, 103, 105, 110]⟩, ⟨#[42]⟩), (⟨#[65, 99, 99, 101, 115, 115, 45, 67, 111, 110, 116, 114, 111, 108, 45, 65, 108, 108, 111, 119, 45, 77, 101, 116, 104, 111, 100, 115]⟩, ⟨#[80, 85, 84, 44, 32, 80, 65, 84, 67, 72]⟩), (⟨#[65, 99, 99, 101, 115, 115, 45, 67, 111, 110, 116, 114, 111, 108, 45, 77, 97, 120, 45, 65, 103, 101]⟩, ⟨#[54, 48]⟩)]
theorem shortR : Short maxLen LR := short_of (by decide) (by simp [maxLen])
theorem okR : readOk 204 LR ⟨#[104, 116, 116, 112, 58, 47, 47, 97]⟩ 1 = true := by unfold readOk seen seenOf; simp only [ByteArray.toList_eq]; decide +kernel
theorem mR : mOf true LR = [[80, 85, 84], [80, 65, 84, 67, 72]] := by decide +kernel
theorem hR : hOf true LR = [] := by decide +kernel
theorem aR : aOf true LR = 60 := by decide +kernel
def MR : List ByteArray := [⟨#[80, 85, 84]⟩, ⟨#[80, 65, 84, 67, 72]⟩]
def ReadR (w : World) (e : Ending) (w' : World) : Prop := ∃ A n c B m d, e = .returned (.tuple #[.agg #[.slice A n c, .slice B m d, .int .i64 60], .bool true]) ∧ Hid (Strs w' A n c MR) ∧ Hid (Strs w' B m d []) ∧ Below w.heap.size w w'
theorem fact14_read (A : Option Addr) (c : Nat) (w : World) (h : Hds w A 3 c LR) (hm : Lim w) : Calls Tryz.prog 13 #[.agg #[.int .i64 204, .slice A 3 c, .string ⟨#[]⟩], .string ⟨#[104, 116, 116, 112, 58, 47, 47, 97]⟩, .int .i64 1] w (ReadR w) := by
  have h1 := read_any A 3 c LR ⟨#[]⟩ ⟨#[104, 116, 116, 112, 58, 47, 47, 97]⟩ 204 1 w h (by omega) shortR (by decide) hm
  rw [okR, mR, hR, aR] at h1
  refine h1.mono ?_
  rintro e w' ⟨v, rfl, ⟨A1, n1, c1, B1, m1, d1, rfl, _, _, h3, h4⟩, hb⟩
  exact ⟨A1, n1, c1, B1, m1, d1, rfl, Lib.hid h3, Lib.hid h4, hb⟩
theorem lets14_a : lets MR [] ⟨#[80, 85, 84]⟩ [] 1 = true := by unfold lets letsM letsH; simp only [ByteArray.toList_eq]; decide +kernel
theorem fact14_a (A B C : Option Addr) (n c m d j e : Nat) (w : World) (hM : Strs w A n c MR) (hH : Strs w B m d []) (hN : Strs w C j e []) : Calls Tryz.prog 16 #[.agg #[.slice A n c, .slice B m d, .int .i64 60], .string ⟨#[80, 85, 84]⟩, .slice C j e, .int .i64 1] w fun en w' => en = .returned (.bool true) ∧ Below w.heap.size w w' := by
  have h1 := lets_any A B C n c m d j e 60 MR [] [] ⟨#[80, 85, 84]⟩ 1 w hM hH hN
  rw [lets14_a] at h1
  exact h1
theorem lets14_b : lets MR [] ⟨#[68, 69, 76, 69, 84, 69]⟩ [] 1 = false := by unfold lets letsM letsH; simp only [ByteArray.toList_eq]; decide +kernel
theorem fact14_b (A B C : Option Addr) (n c m d j e : Nat) (w : World) (hM : Strs w A n c MR) (hH : Strs w B m d []) (hN : Strs w C j e []) : Calls Tryz.prog 16 #[.agg #[.slice A n c, .slice B m d, .int .i64 60], .string ⟨#[68, 69, 76, 69, 84, 69]⟩, .slice C j e, .int .i64 1] w fun en w' => en = .returned (.bool false) ∧ Below w.heap.size w w' := by
  have h1 := lets_any A B C n c m d j e 60 MR [] [] ⟨#[68, 69, 76, 69, 84, 69]⟩ 1 w hM hH hN
  rw [lets14_b] at h1
  exact h1
theorem lets14_c : lets MR [] ⟨#[80, 85, 84]⟩ [⟨#[120, 45, 97]⟩] 1 = false := by unfold lets letsM letsH; simp only [ByteArray.toList_eq]; decide +kernel
theorem fact14_c (A B C : Option Addr) (n c m d j e : Nat) (w : World) (hM : Strs w A n c MR) (hH : Strs w B m d []) (hN : Strs w C j e [⟨#[120, 45, 97]⟩]) : Calls Tryz.prog 16 #[.agg #[.slice A n c, .slice B m d, .int .i64 60], .string ⟨#[80, 85, 84]⟩, .slice C j e, .int .i64 1] w fun en w' => en = .returned (.bool false) ∧ Below w.heap.size w w' := by
  have h1 := lets_any A B C n c m d j e 60 MR [] [⟨#[120, 45, 97]⟩] ⟨#[80, 85, 84]⟩ 1 w hM hH hN
  rw [lets14_c] at h1
  exact h1
theorem needs14_y : needs ⟨#[80, 85, 84]⟩ [] = true := by unfold needs; rw [uns_none]; decide +kernel
theorem fact14_y (w : World) : Calls Tryz.prog 7 #[.string ⟨#[80, 85, 84]⟩, .slice Option.none 0 0] w fun e w' => e = .returned (.bool true) ∧ Below w.heap.size w w' := by
  have h1 := needs_any Option.none 0 0 [] ⟨#[80, 85, 84]⟩ w (hds_empty w _ _ (Nat.zero_le _) (fun _ => rfl)) (by omega) (fun x hx => by cases hx)
  rw [needs14_y] at h1
  exact h1
theorem needs14_n : needs ⟨#[71, 69, 84]⟩ [] = false := by unfold needs; rw [uns_none]; decide +kernel
theorem fact14_n (w : World) : Calls Tryz.prog 7 #[.string ⟨#[71, 69, 84]⟩, .slice Option.none 0 0] w fun e w' => e = .returned (.bool false) ∧ Below w.heap.size w w' := by
  have h1 := needs_any Option.none 0 0 [] ⟨#[71, 69, 84]⟩ w (hds_empty w _ _ (Nat.zero_le _) (fun _ => rfl)) (by omega) (fun x hx => by cases hx)
  rw [needs14_n] at h1
  exact h1

set_option maxHeartbeats 8000000 in
set_option maxRecDepth 100000 in
theorem awake14_any (w : World) (hm : Lim w) : Calls Tryz.prog 6 #[] w (Yes w) := by
  have hX0 := Lib.hid (hds_new w _ LX rfl (tiny (by decide)))
  have hb0 := Lib.hid (below_box w (.cells (hcells LX).toArray 45))
  obtain ⟨w0, hw0⟩ : ∃ w0, w0 = w.alloc (.cells (hcells LX).toArray 45) := ⟨_, rfl⟩
  rw [← hw0] at hX0 hb0
  have hw0' : Hid (w.alloc (.cells #[.string ⟨#[88, 45, 66]⟩, .string ⟨#[]⟩, .string ⟨#[88, 45, 65]⟩, .string ⟨#[]⟩] 45) = w0) := Lib.hid hw0.symm
  clear hw0
  go_enter Tryz.func6, Tryz.ntmps6
  go_wp2_with fail
  rw [hw0'.out]
  go_wp2_with (go_at_call 11; (with_reducible refine (fact14_ask _ _ _ hX0.out).mono ?_); rintro e w1 ⟨b1, d1, rfl, hv5, hv7, hb1⟩; have B1 := Lib.hid (below_then hb0.out hb1); have V5 := Lib.hid hv5; have V7 := Lib.hid hv7; clear hv5 hv7 hb1)
  have hR1 := Lib.hid (hds_new w1 _ LR rfl (tiny (by decide)))
  obtain ⟨w2, hw2⟩ : ∃ w2, w2 = (w1.alloc (.cells (hcells LR).toArray 45)).alloc (.cells #[.int .i64 204, .slice (some ⟨w1.heap.size, 0, Option.none⟩) 3 3, .string ⟨#[]⟩] 30) := ⟨_, rfl⟩
  have hb12 := Lib.hid (hw2 ▸ below_then (below_box w1 (.cells (hcells LR).toArray 45)) (below_box _ (.cells #[.int .i64 204, .slice (some ⟨w1.heap.size, 0, Option.none⟩) 3 3, .string ⟨#[]⟩] 30)))
  have hR2 := Lib.hid (hw2 ▸ hR1.out.later (below_box _ (.cells #[.int .i64 204, .slice (some ⟨w1.heap.size, 0, Option.none⟩) 3 3, .string ⟨#[]⟩] 30)))
  have hw2' : Hid ((w1.alloc (.cells #[.string ⟨#[65, 99, 99, 101, 115, 115, 45, 67, 111, 110, 116, 114, 111, 108, 45, 65, 108, 108, 111, 119, 45, 79, 114, 105, 103, 105, 110]⟩, .string ⟨#[42]⟩, .string ⟨#[65, 99, 99, 101, 115, 115, 45, 67, 111, 110, 116, 114, 111, 108, 45, 65, 108, 108, 111, 119, 45, 77, 101, 116, 104, 111, 100, 115]⟩, .string ⟨#[80, 85, 84, 44, 32, 80, 65, 84, 67, 72]⟩, .string ⟨#[65, 99, 99, 101, 115, 115, 45, 67, 111, 110, 116, 114, 111, 108, 45, 77, 97, 120, 45, 65, 103, 101]⟩, .string ⟨#[54, 48]⟩] 45)).alloc (.cells #[.int .i64 204, .slice (some ⟨w1.heap.size, 0, Option.none⟩) 3 3, .string ⟨#[]⟩] 30) = w2) := Lib.hid hw2.symm
  have B2 := Lib.hid (below_then B1.out hb12.out)
  have hv5' := Lib.hid (cell_later hb12.out V5.out)
  have hv7' := Lib.hid (cell_later hb12.out V7.out)
  clear hw2 hR1
  rw [hw2'.out]
  go_wp2_with (go_at_call 13; (with_reducible refine (fact14_read _ _ _ hR2.out (hm.later B2.out)).mono ?_); rintro e w3 ⟨A, n, c, B, m, d, rfl, hM3, hH3, hb3⟩; have hb34 := Lib.hid (below_then hb3 (below_box w3 (.cells #[.slice A n c, .slice B m d, .int .i64 60] 33))); have v54 := cell_later hb34.out hv5'.out; have v74 := cell_later hb34.out hv7'.out; clear hb3)
  have hbx := box_three w3 (.slice A n c) (.slice B m d) (.int .i64 60) 33
  have hM4 := Lib.hid (hM3.out.later (below_box w3 (.cells #[.slice A n c, .slice B m d, .int .i64 60] 33)))
  have hH4 := Lib.hid (hH3.out.later (below_box w3 (.cells #[.slice A n c, .slice B m d, .int .i64 60] 33)))
  have B4 := Lib.hid (below_then B2.out hb34.out)
  clear v54 v74 hb34 hM3 hH3
  generalize w3.alloc (.cells #[.slice A n c, .slice B m d, .int .i64 60] 33) = w4 at hbx hM4 hH4 B4 ⊢
  have hX := Lib.hid hbx
  clear hbx
  have hnil := Lib.hid (fun W => strs_none W)
  have hxa := Lib.hid (fun W => strs_one W ⟨#[120, 45, 97]⟩ W.heap.size rfl)
  go_wp2_with (first
    | (go_at_call 16; (with_reducible refine (fact14_a _ _ _ _ _ _ _ _ _ _ hM4.out hH4.out (hnil.out _)).mono ?_); rintro e w5 ⟨rfl, hb5⟩; have B5 := Lib.hid (below_then B4.out hb5); have M5 := Lib.hid (hM4.out.later hb5); have H5 := Lib.hid (hH4.out.later hb5); obtain ⟨x50, x51, x52⟩ := hX.out; replace x50 := cell_later hb5 x50; replace x51 := cell_later hb5 x51; replace x52 := cell_later hb5 x52)
    | (go_at_call 16; (with_reducible refine (fact14_b _ _ _ _ _ _ _ _ _ _ M5.out H5.out (hnil.out _)).mono ?_); rintro e w6 ⟨rfl, hb6⟩; have B6 := Lib.hid (below_then B5.out hb6); have M6 := Lib.hid (M5.out.later hb6); have H6 := Lib.hid (H5.out.later hb6); replace x50 := cell_later hb6 x50; replace x51 := cell_later hb6 x51; replace x52 := cell_later hb6 x52)
    | (go_at_call 16; (with_reducible refine (fact14_c _ _ _ _ _ _ _ _ _ _ (M6.out.later (below_box _ _)) (H6.out.later (below_box _ _)) (hxa.out _)).mono ?_); rintro e w7 ⟨rfl, hb7⟩; have B7 := Lib.hid (below_then (below_then B6.out (below_box _ _)) hb7))
    | (go_at_call 7; (with_reducible refine (fact14_y _).mono ?_); rintro e w8 ⟨rfl, hb8⟩; have B8 := Lib.hid (below_then B7.out hb8))
    | (go_at_call 7; (with_reducible refine (fact14_n _).mono ?_); rintro e w9 ⟨rfl, hb9⟩; have B9 := Lib.hid (below_then B8.out hb9)))
  go_ret
  exact ⟨rfl, B9.out⟩
end Go.Proofs.YtalnjlodldhfbaaGreatDoor
