/-
  Texts of one sort, one behind the other: numbers, memory, regions, strings, headers. Conditions: those that each theorem states.
-/
import Derived.Test.YtodncamohimmmaaDelShelf
import Derived.Test.YtodncamohimmmaaLow4
import Derived.Test.YtodncamohimmmaaLow12
import Derived.Test.YtodncamohimmmaaDelNum
import Derived.Test.YtodncamohimmmaaLow16
import Derived.Test.YtodncamohimmmaaLow1

namespace Go.Proofs.Ytodncamohimmmaa
open Go.RowKit Go.Lib Go.Shelf

theorem grow20_pos (m : Nat) (h1 : 0 < m) (hm : m ≤ 100000) (w : World) :
    Calls Try.prog 95 #[.slice Option.none 0 0, .int .i64 m] w (GivesH w []) := by
  obtain ⟨i0, hi, hz0, hz1, hz2⟩ := info_parts Try.infoHd
  refine (Any8.slices_Grow_grow Try.laysGrow i0 _ hi hz0 (by rw [hz1]; omega) Option.none 0 0 m [] w (Nat.le_refl _) (by omega) (by rw [hz2]; omega) (by omega) (by rw [Nat.zero_mul]; rfl) (fun _ => rfl) (fun a e => by cases e)).mono ?_
  rintro e w' ⟨rfl, rfl⟩
  refine ⟨_, rfl, ?_, (Below.refl _ _).drew.alloc (Nat.le_refl _) _⟩
  have hG := grownCap_ge w (0 + m) 0 (Try.laysGrow_ren.t 25)
  have hG2 := grownCap_le_maxLen w (0 + m) 0 (Try.laysGrow_ren.t 25) (by unfold maxLen; omega)
  generalize grownCap w (0 + m) 0 (Try.laysGrow_ren.t 25) = G at hG hG2
  refine World.ownsRow_made w.drew _ G (Nat.le_refl _) hG2 ?_
  have hc : (Value.agg #[.string ByteArray.empty, .string ByteArray.empty]).cells.size = 2 := rfl
  simp only [Array.size_append, size_zeroCells, hc, List.size_toArray, List.length_nil]
  omega

theorem grow20_any (m : Nat) (hm : m ≤ 100000) (w : World) :
    Calls Try.prog 95 #[.slice Option.none 0 0, .int .i64 m] w (GivesH w []) := by
  by_cases h : 0 < m
  · exact grow20_pos m h hm w
  · obtain rfl : m = 0 := by omega
    refine (Any8.slices_Grow_room Try.laysGrow Option.none 0 0 0 w (Nat.le_refl _) (by omega) (by omega) (by omega)).mono ?_
    rintro e w' ⟨rfl, rfl⟩
    exact ⟨_, rfl, World.ownsRow_nil _ _ _ _, Below.refl _ _⟩

structure Tri20 (w : World) (g : Nat) (v1 v2 v3 : Value) (l1 l2 l3 : List Hd) : Prop where
  c1 : w.cell? ⟨g, 0, Option.none⟩ = some v1
  c2 : w.cell? ⟨g, 1, Option.none⟩ = some v2
  c3 : w.cell? ⟨g, 2, Option.none⟩ = some v3
  h1 : HH l1 v1 w
  h2 : HH l2 v2 w
  h3 : HH l3 v3 w

def CatRel20 (w : World) (ls : Nat → List Hd) (v i : Value) (wr : World) : Prop :=
  ∃ k : Nat, k ≤ 3 ∧ i = .int .i64 k ∧ OwnsH wr w.heap.size v (ls k) ∧ Below w.heap.size w wr

set_option maxHeartbeats 4000000 in
set_option maxRecDepth 100000 in
theorem concat20_any (g : Nat) (v1 v2 v3 : Value) (l1 l2 l3 : List Hd) (w : World) (h : Tri20 w g v1 v2 v3 l1 l2 l3) (b1 : l1.length ≤ 1000) (b2 : l2.length ≤ 1000) (b3 : l3.length ≤ 1000) :
    Calls Try.prog 93 #[.slice (some ⟨g, 0, Option.none⟩) 3 3] w (GivesH w (l1 ++ l2 ++ l3)) := by
  obtain ⟨i0, hi, hz0, hz1, hz2⟩ := info_parts Try.infoHd
  obtain ⟨c1, c2, c3, ⟨A1, n1, d1, rfl, H1⟩, ⟨A2, n2, d2, rfl, H2⟩, ⟨A3, n3, d3, rfl, H3⟩⟩ := h
  have e1 := H1.len
  have e2 := H2.len
  have e3 := H3.len
  have k1 := Lib.hid H1
  have k2 := Lib.hid H2
  have k3 := Lib.hid H3
  rw [e1] at b1
  rw [e2] at b2
  rw [e3] at b3
  have e1' := Lib.hid e1
  have e2' := Lib.hid e2
  have e3' := Lib.hid e3
  clear H1 H2 H3 e1 e2 e3
  have hgr := Lib.hid (fun (m : Nat) (h2 : m ≤ 100000) W => grow20_any m h2 W)
  go_enter Try.func93, Try.ntmps93
  go_wp2
  go_loop [3, 11] (fun s i => ∃ k : Nat, k ≤ 3 ∧ i = .int .i64 k ∧ ∃ m : Nat, s = .int .i64 m ∧ m = (if k = 0 then 0 else if k = 1 then n1 else if k = 2 then n1 + n2 else n1 + n2 + n3)) (fun _ i => 3 - (RowKit.intOf i).toNat)
  case atStart => exact ⟨0, by omega, rfl, 0, rfl, rfl⟩
  case round =>
    obtain ⟨k, hk, rfl, m, rfl, hm⟩ := hrel
    have hm' := Lib.hid hm
    have hmb : m ≤ 3000 := by rw [hm]; split <;> (try split) <;> (try split) <;> omega
    clear hm
    rcases (show k = 0 ∨ k = 1 ∨ k = 2 ∨ k = 3 by omega) with rfl | rfl | rfl | rfl
    · go_wp2
      go_round
      case rel => exact ⟨1, by omega, rfl, m + n1, by go_num, by have := hm'.out; simp at this ⊢; omega⟩
      case measure => simp [RowKit.intOf]
    · go_wp2
      go_round
      case rel => exact ⟨2, by omega, rfl, m + n2, by go_num, by have := hm'.out; simp at this ⊢; omega⟩
      case measure => simp [RowKit.intOf]
    · go_wp2
      go_round
      case rel => exact ⟨3, by omega, rfl, m + n3, by go_num, by have := hm'.out; simp at this ⊢; omega⟩
      case measure => simp [RowKit.intOf]
    · clear hm'
      go_wp2_with (go_at_call 95; refine (hgr.out m (by omega) _).mono ?_; rintro e w1 ⟨v, rfl, hown0, hb0⟩)
      obtain ⟨ls, hls⟩ : ∃ ls : Nat → List Hd, ls = fun k => if k = 0 then [] else if k = 1 then [] ++ l1 else if k = 2 then [] ++ l1 ++ l2 else [] ++ l1 ++ l2 ++ l3 := ⟨_, rfl⟩
      have hl0 := Lib.hid (show ls 0 = [] by rw [hls]; rfl)
      have hl1 := Lib.hid (show ls 1 = ls 0 ++ l1 by rw [hls]; rfl)
      have hl2 := Lib.hid (show ls 2 = ls 1 ++ l2 by rw [hls]; rfl)
      have hl3 := Lib.hid (show ls 3 = ls 2 ++ l3 by rw [hls]; rfl)
      have hle := Lib.hid (show ls 3 = l1 ++ l2 ++ l3 by rw [hls]; rfl)
      have hlen : Hid (∀ k, k ≤ 3 → (ls k).length ≤ 3000) := Lib.hid (fun k hk => by
        have q1 := e1'.out; have q2 := e2'.out; have q3 := e3'.out
        rw [hls]
        rcases (show k = 0 ∨ k = 1 ∨ k = 2 ∨ k = 3 by omega) with rfl | rfl | rfl | rfl <;> simp <;> omega)
      clear hls
      go_loopw [6, 27] (fun v i wr => CatRel20 w ls v i wr) (fun _ i _ => 3 - (RowKit.intOf i).toNat)
      case atStart => exact ⟨0, by omega, rfl, by rw [hl0.out]; exact hown0, hb0⟩
      case round =>
        obtain ⟨k, hk, rfl, hown, hb⟩ := hrel
        have hB := hb.size
        have hlk := hlen.out k hk
        rcases (show k = 0 ∨ k = 1 ∨ k = 2 ∨ k = 3 by omega) with rfl | rfl | rfl | rfl
        · have hck := cell_later hb c1
          go_wp2_with (at_builtin; refine wpList_append_hds rfl (.tmp 31) (.tmp 32) 22 rfl w.heap.size i0 Try.underlying22 hi hz0 hz1 hz2 _ _ rfl hown _ _ _ _ rfl (k1.out.later hb) (by omega) hB ?_; intro v1 w3 hown1 hg1)
          go_roundw
          case rel => exact ⟨1, by omega, rfl, by rw [hl1.out]; exact hown1, hown.below hb hg1 hB⟩
          case measure => simp [RowKit.intOf]
        · have hck := cell_later hb c2
          go_wp2_with (at_builtin; refine wpList_append_hds rfl (.tmp 31) (.tmp 32) 22 rfl w.heap.size i0 Try.underlying22 hi hz0 hz1 hz2 _ _ rfl hown _ _ _ _ rfl (k2.out.later hb) (by omega) hB ?_; intro v1 w3 hown1 hg1)
          go_roundw
          case rel => exact ⟨2, by omega, rfl, by rw [hl2.out]; exact hown1, hown.below hb hg1 hB⟩
          case measure => simp [RowKit.intOf]
        · have hck := cell_later hb c3
          go_wp2_with (at_builtin; refine wpList_append_hds rfl (.tmp 31) (.tmp 32) 22 rfl w.heap.size i0 Try.underlying22 hi hz0 hz1 hz2 _ _ rfl hown _ _ _ _ rfl (k3.out.later hb) (by omega) hB ?_; intro v1 w3 hown1 hg1)
          go_roundw
          case rel => exact ⟨3, by omega, rfl, by rw [hl3.out]; exact hown1, hown.below hb hg1 hB⟩
          case measure => simp [RowKit.intOf]
        · go_wp2
          go_ret
          exact ⟨_, rfl, by rw [← hle.out]; exact hown, hb⟩
theorem owns_noneB20 (W : World) (B : Nat) (hB : B ≤ W.heap.size) : Owns (W.alloc (.cells #[] 5)) B 5 (.slice (some ⟨W.heap.size, 0, Option.none⟩) 0 0) [] := owns_lit W B 5 #[] [] rfl Leb.Bytes.nil (by simp) hB
set_option maxHeartbeats 4000000 in
set_option maxRecDepth 100000 in
theorem cloneB20_any (A : Option Addr) (n c : Nat) (X : List Int) (w : World) (h : Holds w A n c X) (hn : n ≤ 1000000000) :
    Calls Try.prog 32 #[.slice A n c] w fun e w' => ∃ v, e = .returned v ∧ Owns w' w.heap.size 5 v X ∧ Below w.heap.size w w' := by
  obtain ⟨i0, hi, hz0, hz1, hz2⟩ := info_parts Try.info8
  have qnil : ∀ (w : World) (a : Option Addr) (n c n' c' : Nat), (binOp .eql 43 (.slice a n c) (.slice Option.none n' c')).run Try.prog w = .ok (.bool a.isNone) w := fun w a n c n' c' => Lib.run_eql_slice_nil w _ _ a n c n' c' Try.underlying43
  cases A with
  | none =>
    have h0 : n = 0 := by have h1 := h.bare rfl; have h2 := h.cap; omega
    subst h0
    have hX : X = [] := List.eq_nil_of_length_eq_zero h.len
    subst hX
    have hc := h.bare rfl
    subst hc
    clear h
    go_enter Try.func32, Try.ntmps32
    go_wp2
    go_ret
    exact ⟨_, rfl, ⟨Leb.Bytes.nil, World.ownsRow_nil _ _ _ _⟩, Below.refl _ _⟩
  | some ad =>
    have hXl := h.len
    have h00 := Lib.hid (owns_noneB20 w w.heap.size (Nat.le_refl _))
    have hb0 := Lib.hid (below_box w (.cells #[] 5))
    have hE := Lib.hid (h.later hb0.out)
    clear h
    go_enter Try.func32, Try.ntmps32
    go_wp2_with (at_builtin; refine wpList_append_bytes rfl (.tmp 5) (.tmp 6) 43 rfl w.heap.size 5 i0 Try.underlying43 hi hz0 hz1 hz2 _ [] rfl h00.out _ _ _ _ rfl hE.out (by simp; omega) (by simp) ?_; intro v2 w2 hown2 hg2 _; have hb2 := Lib.hid (below_own hb0.out h00.out hg2 (by simp)); rw [List.nil_append] at hown2; replace hown2 := Lib.hid hown2)
    go_ret
    exact ⟨_, rfl, hown2.out, hb2.out⟩
theorem run_frontHU (w : World) (A : Option Addr) (n c k : Nat) (h : k ≤ n) (hc : n ≤ c) : (Instr.sliceAt 22 (.slice A n c) Option.none (some (.int .u64 (k : Int))) Option.none).run Try.prog w = .ok (.slice A k c) w := by
  have f3 : (0 : Int) ≤ (k : Int) := by omega
  have f5 : (k : Int) ≤ (c : Int) := by omega
  go_simp
theorem run_backHU (w : World) (A : Option Addr) (n c k : Nat) (h : k ≤ n) (hc : n ≤ c) : (Instr.sliceAt 22 (.slice A n c) (some (.int .u64 (k : Int))) Option.none Option.none).run Try.prog w = .ok (.slice (if c = k then A else A.map (·.add (k * 2))) (n - k) (c - k)) w := by
  have f3 : (0 : Int) ≤ (k : Int) := by omega
  have f4 : (k : Int) ≤ (n : Int) := by omega
  have f5 : (n : Int) ≤ (c : Int) := by omega
  go_simp
end Go.Proofs.Ytodncamohimmmaa

namespace Go.Proofs.Ytodncamohimmmaa
open Go.RowKit Go.Lib Go.Maps Go.WideMaps Leb

set_option maxRecDepth 100000 in
theorem run_ix0 (w : World) (x y z : Int) : (Instr.index 150 (.agg #[.int .u64 x, .int .u64 y, .int .u64 z]) (.int .i64 0)).run Try.prog w = .ok (.int .u64 x) w := by kernel_rfl
set_option maxRecDepth 100000 in
theorem run_ix1 (w : World) (x y z : Int) : (Instr.index 150 (.agg #[.int .u64 x, .int .u64 y, .int .u64 z]) (.int .i64 1)).run Try.prog w = .ok (.int .u64 y) w := by kernel_rfl
set_option maxRecDepth 100000 in
theorem run_ix2 (w : World) (x y z : Int) : (Instr.index 150 (.agg #[.int .u64 x, .int .u64 y, .int .u64 z]) (.int .i64 2)).run Try.prog w = .ok (.int .u64 z) w := by kernel_rfl
theorem off_back {S : Nat → Prop} {A : Option Addr} {m k c n : Nat} {w : World} {l : List Hd} (h : Hds w A m c l) (ho : Off S A m) (hk : k ≤ m) (hn : n ≤ m - k) : Off S (if c = k then A else A.map (·.add (k * 2))) n := fun g off e h0 hs => by
  have hc := h.cap
  obtain ⟨b, off', e', _⟩ := h.cell (by omega)
  subst e'
  rw [if_neg (by omega)] at e
  simp only [Option.map_some, addr_add, Option.some.injEq, Addr.mk.injEq] at e
  obtain ⟨rfl, _⟩ := e
  exact ho _ off' rfl (by omega) hs
structure PW (W1 wr : World) (b : Nat) (S S1 : Nat → Prop) (T : List (List UInt8)) (out : Value) (Y : List Int) (A1 : Option Addr) (cnt c1 : Nat) (L : List Hd) (g : Nat) (x y : ByteArray) : Prop where
  st : PStep W1 wr b S S1 T
  bt : BtO wr W1.heap.size out Y S1
  hds : HdO wr A1 cnt c1 L S1
  box : Bx wr g x y
  apart : ¬ S1 g
  own : ∀ k, out.ownBlock = some k → k ≠ g
  high : W1.heap.size ≤ g
section
variable {W1 wr w5 w6 : World} {b : Nat} {S S1 S2 : Nat → Prop} {T T2 : List (List UInt8)} {out v' : Value} {Y Z : List Int} {A1 : Option Addr} {cnt c1 : Nat} {L : List Hd} {g : Nat} {x y : ByteArray}
theorem PW.start (hR : PStep W1 wr b S S1 T) (hO : BtO wr W1.heap.size out Y S1) (hH : HdO wr A1 cnt c1 L S1) (x y : ByteArray) : PW W1 (wr.alloc (.cells #[.string x, .string y] 59)) b S S1 T out Y A1 cnt c1 L wr.heap.size x y :=
  ⟨hR.later (below_box wr _), hO.later (below_box wr _), hH.later (below_box wr _), bx_new wr x y, fun hk => Nat.lt_irrefl _ (hR.tab.low _ hk), fun k e => by
    have := (hO.own.2.lt k e).2
    omega, hR.alt.size⟩
theorem PW.put (h : PW W1 wr b S S1 T out Y A1 cnt c1 L g x y) (hs : PStep wr w5 b S1 S2 T2) : PW W1 w5 b S S2 T2 out Y A1 cnt c1 L g x y :=
  ⟨h.st.trans hs, h.bt.step hs.alt hs.new, h.hds.step hs.alt hs.new, h.box.alt hs.alt h.apart, fun hk => (hs.new _ hk).elim h.apart fun h1 => absurd h.box.lt (by omega), h.own, h.high⟩
theorem PW.app (h : PW W1 w5 b S S1 T out Y A1 cnt c1 L g x y) (hL : Hds W1 A1 cnt c1 L) (hown : Owns w6 W1.heap.size 5 v' (Y ++ Z)) (hg : w5.grownBy w6 out.ownBlock) (hat : v'.ownBlock = out.ownBlock ∨ v'.ownBlock = some w5.heap.size) : PW W1 w6 b S S1 T v' (Y ++ Z) A1 cnt c1 L g x y := by
  have hlt : ∀ k, out.ownBlock = some k → W1.heap.size ≤ k := fun k e => (h.bt.own.2.lt k e).1
  refine ⟨h.st.grown hg h.bt.off hlt, ⟨hown, fun k e hs => ?_⟩, h.hds.grown hg fun k off e h0 e2 => ?_, h.box.alt (alt_grown hg (S := fun k => out.ownBlock = some k) fun _ hk => hk) fun e => h.own _ e rfl, h.apart, fun k e => ?_, h.high⟩
  · rcases hat with hat | hat
    · exact h.bt.off k (by rw [← hat, e]) hs
    · rw [hat] at e
      injection e with e
      have h1 := h.st.tab.low k hs
      omega
  · subst e
    have h1 := hL.block h0
    have h2 := hlt k e2
    omega
  · rcases hat with hat | hat
    · exact h.own k (by rw [← hat, e])
    · rw [hat] at e
      injection e with e
      have := h.box.lt
      omega
end

set_option maxHeartbeats 32000000 in
set_option maxRecDepth 100000 in
theorem dput_any (b : Nat) (T : List (List UInt8)) (S : Nat → Prop) (A : Option Addr) (n c : Nat) (X : List Int) (Aw : Option Addr) (nw cw : Nat) (was : List Hd) (Al : Option Addr) (m cl : Nat) (list : List Hd) (w : World)
    (h : PTab w b T S) (hT : T.length ≤ 300000) (hX : Holds w A n c X) (hn : n ≤ 1000000000) (hw : Hds w Aw nw cw was) (hl : Hds w Al m cl list) (hlo : Off S Al m) (hnw : nw ≤ 1000) (hm : m ≤ 1000) (hsh : Short 2048 list) :
    Calls Try.prog 81 #[.slice A n c, .pointer (some ⟨b, 0, Option.none⟩), .slice Aw nw cw, .slice Al m cl] w (PutEnd w b S (X ++ dputB T was list) (dputL T was list)) := by
  obtain ⟨i0, hi, hz0, hz1, hz2⟩ := info_parts Try.info8
  obtain ⟨u3, hu3⟩ := und3
  replace hu3 := Lib.hid hu3
  have hle := ends_le was list
  have hwl := hw.len
  have hll := hl.len
  rw [hwl, hll] at hle
  have hlcap := hl.cap
  have hends := Lib.hid (diff20_any Aw Al nw m cw cl was list w hw hl hnw hm)
  have hlast := Lib.hid (fun k hk => put_last (t := T) (w := was) (l := list) (k := k) hk)
  have hstep := Lib.hid (fun k x y hk hxy => put_step (t := T) (w := was) (l := list) (k := k) (x := x) (y := y) hk hxy)
  have hfl := fresh_len was list
  have hfa := Lib.hid (fun k hk => fresh_at (w := was) (l := list) (k := k) hk)
  have hy0 := putY_zero T was list
  unfold dputH at hy0
  rw [hll] at hlast hstep hy0 hfl hfa
  have hfr : (list.drop (endA was list)).take (m - endA was list - endB was list) = fresh was list := by
    unfold fresh
    rw [hll]
  obtain ⟨xa, hxa⟩ : ∃ xa, xa = endA was list := ⟨_, rfl⟩
  obtain ⟨yb, hyb⟩ : ∃ yb, yb = endB was list := ⟨_, rfl⟩
  rw [← hxa, ← hyb] at hle hends hlast hstep hy0 hfl hfa hfr
  have hy0' := Lib.hid hy0
  obtain ⟨cnt, hcnt⟩ : ∃ cnt, cnt = m - xa - yb := ⟨_, rfl⟩
  rw [← hcnt] at hends hlast hstep hy0' hfl hfa hfr
  obtain ⟨mx, hmx⟩ : ∃ mx, mx = m - xa := ⟨_, rfl⟩
  have hxm : xa ≤ m := by omega
  have hcm : cnt ≤ mx := by omega
  have hUx : U64 xa := by unfold U64; omega
  have hUy : U64 yb := by unfold U64; omega
  have hUc : U64 cnt := by unfold U64; omega
  have hsx := Lib.hid (show (enc xa).length ≤ 10 from size_le10 hUx)
  have hsy := Lib.hid (show (enc yb).length ≤ 10 from size_le10 hUy)
  have hsc := Lib.hid (show (enc cnt).length ≤ 10 from size_le10 hUc)
  have hUx' := Lib.hid hUx
  have hUy' := Lib.hid hUy
  have hUc' := Lib.hid hUc
  have hXn := Lib.hid hX.len
  have hX' := Lib.hid hX
  have hR0 := Lib.hid h
  have hsh' := Lib.hid hsh
  have hlow := Lib.hid h.low
  have hfl' := Lib.hid hfl
  have hcb : cnt ≤ 1000 := by omega
  have hs1 := Lib.hid (fun W => run_backHU W Al m cl xa hxm hlcap)
  have hback := hl.backAny hxm
  have hoff := off_back hl hlo hxm (n := cnt) (by omega)
  obtain ⟨A1, hA1⟩ : ∃ A1, A1 = (if cl = xa then Al else Al.map (·.add (xa * 2))) := ⟨_, rfl⟩
  obtain ⟨c1, hc1⟩ : ∃ c1, c1 = cl - xa := ⟨_, rfl⟩
  rw [← hA1, ← hc1, ← hmx] at hs1 hback
  rw [← hA1] at hoff
  have hs2 := Lib.hid (fun W => run_frontHU W A1 mx c1 cnt hcm hback.cap)
  have hF1 := hback.front hcm
  rw [hfr] at hF1
  have hF1' := Lib.hid hF1
  have hoff' := Lib.hid hoff
  have hnil := Lib.hid (fun W => holds_nil W)
  clear h hX hw hl hlo hsh hUx hUy hUc hwl hll hxa hyb hy0 hcnt hfl hfr hle hback hoff hF1 hmx hA1 hc1 hlcap
  go_enter Try.func81, Try.ntmps81
  go_wp2_with (first
    | (go_at_call 83; refine hends.out.mono ?_; rintro e w1 ⟨rfl, hb1⟩; have hb1' := Lib.hid hb1; clear hb1; dsimp only [d3]; obtain ⟨W1, hW1⟩ : ∃ W1, W1 = (w1.alloc (.cells #[.int .u64 0, .int .u64 0, .int .u64 0] 150)).setRow w1.heap.size #[.int .u64 (xa : Int), .int .u64 (yb : Int), .int .u64 (cnt : Int)] := ⟨_, rfl⟩; have hNa := Lib.hid (heap_alloc_new w1 (.cells #[.int .u64 0, .int .u64 0, .int .u64 0] 150)); have hi3 := Lib.hid (show (Try.prog.info? 150).map (·.size) = some (#[.int .u64 (xa : Int), .int .u64 (yb : Int), .int .u64 (cnt : Int)] : Array Value).size from info3); have hone := Lib.hid (one3 xa yb cnt); have hN1 := Lib.hid (show N3 W1 w1.heap.size xa yb cnt by rw [hW1]; exact setRow_heap _ _ _ _ _ _ hNa.out); have hBW := Lib.hid (show Below w.heap.size w W1 by rw [hW1]; exact below_setRow (below_then hb1'.out (below_box w1 _)) hb1'.out.size _); have hsz1 := Lib.hid (show w1.heap.size < W1.heap.size from hN1.out.lt); have hW1' := Lib.hid hW1; clear hW1)
    | (with_reducible refine wpList_store_row rfl _ _ _ rfl w1.heap.size #[.int .u64 (xa : Int), .int .u64 (yb : Int), .int .u64 (cnt : Int)] rfl rfl 150 #[.int .u64 0, .int .u64 0, .int .u64 0] hNa.out hi3.out (Eq.refl _) hone.out ?_; rw [← hW1'.out]; clear hNa hW1')
    | (go_at_call 32; refine (cloneB20_any A n c X W1 (hX'.out.later hBW.out) hn).mono ?_; rintro e w2 ⟨v2, rfl, own2, hb2⟩; have own2' := Lib.hid own2; have hb2' := Lib.hid hb2; have hNb := Lib.hid (show w2.heap[w1.heap.size]? = some (.cells #[.int .u64 (xa : Int), .int .u64 (yb : Int), .int .u64 (cnt : Int)] 150 (0, 0)) from hN1.out.later hb2); clear own2 hb2)
    | (with_reducible refine wpList_load_row rfl _ _ rfl w1.heap.size rfl 150 #[.int .u64 (xa : Int), .int .u64 (yb : Int), .int .u64 (cnt : Int)] (0, 0) (.array u3 23) hNb.out hu3.out rfl hi3.out ?_))
  go_loopw [10, 21] (fun bv i wr => ∃ k : Nat, k ≤ 3 ∧ i = .int .i64 k ∧ Below W1.heap.size W1 wr ∧ Owns wr W1.heap.size 5 bv (X ++ ([xa, yb, cnt].take k).flatMap enc)) (fun _ i _ => 3 - (RowKit.intOf i).toNat)
  case atStart => exact ⟨0, by omega, rfl, hb2'.out, by simpa using own2'.out⟩
  case round =>
    obtain ⟨k, hk, rfl, hB, hown⟩ := hrel
    have hB := Lib.hid hB
    have hlen : (X ++ ([xa, yb, cnt].take k).flatMap enc).length ≤ n + 30 := by
      have h0 := hXn.out
      have h1 := hsx.out
      have h2 := hsy.out
      have h3 := hsc.out
      obtain rfl | rfl | rfl | rfl : k = 0 ∨ k = 1 ∨ k = 2 ∨ k = 3 := by omega
      all_goals simp only [List.take_succ_cons, List.take_zero, List.flatMap_cons, List.flatMap_nil, List.length_append, List.length_nil]; omega
    obtain ⟨Yk, hYk⟩ : ∃ Yk, Yk = X ++ ([xa, yb, cnt].take k).flatMap enc := ⟨_, rfl⟩
    rw [← hYk] at hlen hown
    have hYk' := Lib.hid hYk
    have hown' := Lib.hid hown
    have hlen' := Lib.hid hlen
    clear hYk hown hlen
    have hk' : k = 0 ∨ k = 1 ∨ k = 2 ∨ k = 3 := by omega
    clear hk
    rcases hk' with rfl | rfl | rfl | rfl
    · have hput := Lib.hid (put_any Option.none 0 0 [] xa wr hUx'.out (hnil.out wr) (by omega))
      have hix := run_ix0 wr xa yb cnt
      go_wp2_with (first
        | (go_at_call 57; refine hput.out.mono ?_; rintro e w3 ⟨v3, rfl, own3, hb3⟩; rw [List.nil_append] at own3; have hb3' := Lib.hid hb3; obtain ⟨A3, c3, rfl, hH3⟩ := own3.holds; have hH3' := Lib.hid hH3; clear own3 hb3 hH3)
        | (at_builtin; refine wpList_append_bytes rfl (.tmp 24) (.tmp 26) 43 rfl W1.heap.size 5 i0 Try.underlying43 hi hz0 hz1 hz2 _ Yk rfl (hown'.out.kept hb3'.out (Nat.le_refl _)) A3 _ c3 (enc xa) rfl hH3'.out (by have := hlen'.out; have := hsx.out; omega) (Nat.le_trans hB.out.size hb3'.out.size) ?_; intro v4 w4 hown4 hg4 _; have hb4' := Lib.hid (below_own (below_then hB.out hb3'.out) (hown'.out.kept hb3'.out (Nat.le_refl _)) hg4 (Nat.le_trans hB.out.size hb3'.out.size)); have hown4' := Lib.hid hown4; clear hown4 hg4))
      have hz := Lib.hid (show Yk ++ enc xa = X ++ ([xa, yb, cnt].take 1).flatMap enc by rw [hYk'.out]; simp)
      go_roundw
      case rel => exact ⟨1, by omega, by go_num, hb4'.out, by rw [← hz.out]; exact hown4'.out⟩
      case measure => simp [RowKit.intOf]
    · have hput := Lib.hid (put_any Option.none 0 0 [] yb wr hUy'.out (hnil.out wr) (by omega))
      have hix := run_ix1 wr xa yb cnt
      go_wp2_with (first
        | (go_at_call 57; refine hput.out.mono ?_; rintro e w3 ⟨v3, rfl, own3, hb3⟩; rw [List.nil_append] at own3; have hb3' := Lib.hid hb3; obtain ⟨A3, c3, rfl, hH3⟩ := own3.holds; have hH3' := Lib.hid hH3; clear own3 hb3 hH3)
        | (at_builtin; refine wpList_append_bytes rfl (.tmp 24) (.tmp 26) 43 rfl W1.heap.size 5 i0 Try.underlying43 hi hz0 hz1 hz2 _ Yk rfl (hown'.out.kept hb3'.out (Nat.le_refl _)) A3 _ c3 (enc yb) rfl hH3'.out (by have := hlen'.out; have := hsy.out; omega) (Nat.le_trans hB.out.size hb3'.out.size) ?_; intro v4 w4 hown4 hg4 _; have hb4' := Lib.hid (below_own (below_then hB.out hb3'.out) (hown'.out.kept hb3'.out (Nat.le_refl _)) hg4 (Nat.le_trans hB.out.size hb3'.out.size)); have hown4' := Lib.hid hown4; clear hown4 hg4))
      have hz := Lib.hid (show Yk ++ enc yb = X ++ ([xa, yb, cnt].take 2).flatMap enc by rw [hYk'.out]; simp)
      go_roundw
      case rel => exact ⟨2, by omega, by go_num, hb4'.out, by rw [← hz.out]; exact hown4'.out⟩
      case measure => simp [RowKit.intOf]
    · have hput := Lib.hid (put_any Option.none 0 0 [] cnt wr hUc'.out (hnil.out wr) (by omega))
      have hix := run_ix2 wr xa yb cnt
      go_wp2_with (first
        | (go_at_call 57; refine hput.out.mono ?_; rintro e w3 ⟨v3, rfl, own3, hb3⟩; rw [List.nil_append] at own3; have hb3' := Lib.hid hb3; obtain ⟨A3, c3, rfl, hH3⟩ := own3.holds; have hH3' := Lib.hid hH3; clear own3 hb3 hH3)
        | (at_builtin; refine wpList_append_bytes rfl (.tmp 24) (.tmp 26) 43 rfl W1.heap.size 5 i0 Try.underlying43 hi hz0 hz1 hz2 _ Yk rfl (hown'.out.kept hb3'.out (Nat.le_refl _)) A3 _ c3 (enc cnt) rfl hH3'.out (by have := hlen'.out; have := hsc.out; omega) (Nat.le_trans hB.out.size hb3'.out.size) ?_; intro v4 w4 hown4 hg4 _; have hb4' := Lib.hid (below_own (below_then hB.out hb3'.out) (hown'.out.kept hb3'.out (Nat.le_refl _)) hg4 (Nat.le_trans hB.out.size hb3'.out.size)); have hown4' := Lib.hid hown4; clear hown4 hg4))
      have hz := Lib.hid (show Yk ++ enc cnt = X ++ ([xa, yb, cnt].take 3).flatMap enc by rw [hYk'.out]; simp)
      go_roundw
      case rel => exact ⟨3, by omega, by go_num, hb4'.out, by rw [← hz.out]; exact hown4'.out⟩
      case measure => simp [RowKit.intOf]
    · have hO8 := Lib.hid (show BtO wr W1.heap.size u10 (X ++ putY T was list 0) S from ⟨by
        have := hown'.out
        rw [hYk'.out] at this
        rw [hy0'.out]
        simpa using this, hown'.out.off fun j hj => Nat.lt_of_lt_of_le (hlow.out j hj) hBW.out.size⟩)
      have hYl0 := Lib.hid (show (X ++ putY T was list 0).length ≤ n + 30 + 4118 * 0 by
        have h1 := hlen'.out
        rw [hYk'.out] at h1
        rw [hy0'.out]
        simpa using h1)
      have hR8 := Lib.hid (PStep.same (hR0.out.later hBW.out) hB.out)
      have hFW := Lib.hid (hF1'.out.later hBW.out)
      have hH8 := Lib.hid (HdO.mk (hFW.out.later hB.out) hoff'.out)
      obtain ⟨i3, hi3'⟩ : ∃ i3 : Int, i3 = ((3 : Nat) : Int) := ⟨_, rfl⟩
      rw [← hi3']
      have hd3 : decide (i3 < 3) = false := decide_eq_false (by omega)
      have hd4 : ¬ i3 < 3 := by omega
      have hN8 := hN1.out.later hB.out
      have c0 := hN8.c0
      have c2 := hN8.c2
      have hs1 := hs1.out
      have hs2 := hs2.out
      clear hi3' hlen' hN8
      go_wp2
      go_region
      all_goals go_wp2
      obtain ⟨V, hV⟩ : ∃ V, V = wr := ⟨_, rfl⟩
      subst hV
      go_loopw [10, 37] (fun ov i wr => ∃ (k : Nat) (T1 : List (List UInt8)) (Y1 : List Int) (S1 : Nat → Prop), k ≤ cnt ∧ i = .int .i64 k ∧ PStep W1 wr b S S1 T1 ∧ BtO wr W1.heap.size ov Y1 S1 ∧ HdO wr A1 cnt c1 (fresh was list) S1 ∧ Hid (T1 = putT T was list k) ∧ Hid (Y1 = X ++ putY T was list k) ∧ T1.length ≤ 300000 + 2 * k ∧ Y1.length ≤ n + 30 + 4118 * k) (fun _ i _ => cnt - (RowKit.intOf i).toNat)
      case atStart => exact ⟨0, T, _, S, Nat.zero_le _, rfl, hR8.out.later (Below.refl _ _).drew, hO8.out.later (Below.refl _ _).drew, hH8.out.later (Below.refl _ _).drew, Lib.hid (putT_zero T was list).symm, Lib.hid rfl, by omega, hYl0.out⟩
      case round =>
        obtain ⟨k, T1, Y1, S1, hk, rfl, hR, hO, hH, hT1, hY1, hTl1, hYl1⟩ := hrel
        have hR := Lib.hid hR
        have hO := Lib.hid hO
        have hH := Lib.hid hH
        by_cases hkc : k < cnt
        · obtain ⟨gl, ol, hA1, c1x, c1y⟩ := hH.out.rd.at hkc
          subst hA1
          have hkl : k < (fresh was list).length := by rw [hfl'.out]; exact hkc
          obtain ⟨⟨x, y⟩, hxy0⟩ : ∃ q, (fresh was list)[k]? = some q := ⟨_, List.getElem?_eq_getElem hkl⟩
          have hxe : (fresh was list)[k] = (x, y) := by rw [List.getElem?_eq_getElem hkl] at hxy0; injection hxy0
          rw [hxe] at c1x c1y
          have hmem : (x, y) ∈ list := by
            have := List.mem_of_getElem? hxy0
            unfold fresh at this
            exact List.mem_of_mem_drop (List.mem_of_mem_take this)
          have hs9 := hsh'.out (x, y) hmem
          have hst := hstep.out k x y hkc (by rw [← hfa.out k hkc]; exact hxy0)
          rw [← hT1.out] at hst
          have hlx : x.data.toList.length ≤ 2048 := by rw [← size_len]; exact hs9.1
          have hly : y.data.toList.length ≤ 2048 := by rw [← size_len]; exact hs9.2
          have q1 := putL_len T1 x.data.toList
          have q2 := putL_len (putL T1 x.data.toList) y.data.toList
          have q3 := putB_len T1 x.data.toList (by omega) (by omega)
          have q4 := putB_len (putL T1 x.data.toList) y.data.toList (by omega) (by omega)
          have hput1 := fun W S (h : PTab W b T1 S) => putP_any b T1 S Option.none 0 0 [] x.data.toList W h (by omega) (hnil.out W) (fun g off e => by cases e) (by omega)
          have hput2 := fun W S (h : PTab W b (putL T1 x.data.toList) S) => putP_any b (putL T1 x.data.toList) S Option.none 0 0 [] y.data.toList W h (by omega) (hnil.out W) (fun g off e => by cases e) (by omega)
          rw [mk_of] at hput1 hput2
          simp only [List.nil_append] at hput1 hput2
          obtain ⟨T2, hT2⟩ : ∃ T2, T2 = putL T1 x.data.toList := ⟨_, rfl⟩
          obtain ⟨Z1, hZ1⟩ : ∃ Z1, Z1 = putB T1 x.data.toList := ⟨_, rfl⟩
          rw [← hT2] at hst q1 q2 q4 hput1 hput2
          rw [← hZ1] at q3 hput1 hst
          obtain ⟨T3, hT3⟩ : ∃ T3, T3 = putL T2 y.data.toList := ⟨_, rfl⟩
          obtain ⟨Z2, hZ2⟩ : ∃ Z2, Z2 = putB T2 y.data.toList := ⟨_, rfl⟩
          rw [← hT3] at q2 hput2 hst
          rw [← hZ2] at q4 hput2 hst
          have hTe := Lib.hid (show T3 = putT T was list (k + 1) from hst.1.symm)
          have hYe := Lib.hid (show Y1 ++ Z1 ++ Z2 = X ++ putY T was list (k + 1) by rw [hst.2, hY1.out]; simp only [List.append_assoc])
          have hTl3 := Lib.hid (show T3.length ≤ 300000 + 2 * (k + 1) by omega)
          have hYl3 := Lib.hid (show (Y1 ++ Z1 ++ Z2).length ≤ n + 30 + 4118 * (k + 1) by rw [List.length_append, List.length_append]; omega)
          have hlim1 := Lib.hid (show Y1.length + Z1.length ≤ 140737488355328 by omega)
          have hlim2 := Lib.hid (show (Y1 ++ Z1).length + Z2.length ≤ 140737488355328 by rw [List.length_append]; omega)
          replace hput1 := Lib.hid hput1
          replace hput2 := Lib.hid hput2
          have hP0 := Lib.hid (PW.start hR.out hO.out hH.out x y)
          have d0 := hP0.out.box.cell0
          clear hxy0 hs9 hst hlx hly q1 q2 q3 q4 hT2 hT3 hZ1 hZ2 hTl1 hYl1 hT1 hY1 hmem hxe hkl
          have tok1 : True := trivial
          have tok2 : True := trivial
          have tok3 : True := trivial
          have tok4 : True := trivial
          go_wp2_with (first
            | (go_at_call 82; have _t := tok1; refine (hput1.out _ S1 hP0.out.st.tab).mono ?_; rintro e w5 ⟨r5, S2, rfl, own5, _, hs5⟩; have hP5 := Lib.hid (hP0.out.put hs5); obtain ⟨A5, c5, rfl, hH5⟩ := own5.holds; have hH5' := Lib.hid hH5; clear tok1 hs5 own5 hH5)
            | (at_builtin; have _t := tok2; refine wpList_append_bytes rfl (.tmp 41) (.tmp 45) 43 rfl W1.heap.size 5 i0 Try.underlying43 hi hz0 hz1 hz2 _ Y1 rfl hP5.out.bt.own A5 _ c5 Z1 rfl hH5'.out hlim1.out (Nat.le_trans hP5.out.high (Nat.le_of_lt hP5.out.box.lt)) ?_; intro v6 w6 hown6 hg6 hat6; have hP6 := Lib.hid (hP5.out.app hFW.out hown6 hg6 hat6); have d1 := hP6.out.box.cell1; clear tok2 hown6 hg6 hat6)
            | (go_at_call 82; have _t := tok3; refine (hput2.out _ S2 hP6.out.st.tab).mono ?_; rintro e w7 ⟨r7, S3, rfl, own7, _, hs7⟩; have hP7 := Lib.hid (hP6.out.put hs7); obtain ⟨A7, c7, rfl, hH7⟩ := own7.holds; have hH7' := Lib.hid hH7; clear tok3 hs7 own7 hH7)
            | (at_builtin; have _t := tok4; refine wpList_append_bytes rfl (.tmp 47) (.tmp 51) 43 rfl W1.heap.size 5 i0 Try.underlying43 hi hz0 hz1 hz2 _ (Y1 ++ Z1) rfl hP7.out.bt.own A7 _ c7 Z2 rfl hH7'.out hlim2.out (Nat.le_trans hP7.out.high (Nat.le_of_lt hP7.out.box.lt)) ?_; intro v8 w8 hown8 hg8 hat8; have hP8 := Lib.hid (hP7.out.app hFW.out hown8 hg8 hat8); clear tok4 hown8 hg8 hat8))
          go_roundw
          case rel => exact ⟨k + 1, T3, Y1 ++ Z1 ++ Z2, S3, by omega, by go_num, hP8.out.st, hP8.out.bt, hP8.out.hds, hTe, hYe, hTl3.out, hYl3.out⟩
          case measure => simp [RowKit.intOf]; omega
        · obtain rfl : k = cnt := by omega
          have hl9 := hlast.out k (Nat.le_refl _)
          rw [← hT1.out] at hl9
          have hYe : Y1 = X ++ dputB T was list := by rw [hY1.out, hl9.2]
          have hTe : T1 = dputL T was list := hl9.1
          subst hYe
          subst hTe
          clear hl9
          go_wp2
          go_ret
          exact ⟨_, S1, rfl, hO.out.own.low hBW.out.size, hO.out.off, PStep.ahead hBW.out hR.out⟩

end Go.Proofs.Ytodncamohimmmaa

namespace Go.Proofs.Ytodncamohimmmaa
open Go.RowKit Go.Lib Leb

theorem ownsH_none (W : World) (B : Nat) (hB : B ≤ W.heap.size) : OwnsH (W.alloc (.cells #[] 59)) B (.slice (some ⟨W.heap.size, 0, Option.none⟩) 0 0) [] := by
  have := World.ownsRow_lit (base := B) (size := 2) (e := 59) W #[] 0 hB (by simp) (by simp)
  simpa [OwnsH, hcells] using this
set_option maxHeartbeats 4000000 in
set_option maxRecDepth 100000 in
theorem cloneH21_any (A : Option Addr) (n c : Nat) (l : List Hd) (w : World) (h : Hds w A n c l) (hn : n ≤ 1000000) :
    Calls Try.prog 22 #[.slice A n c] w fun e w' => ∃ v, e = .returned v ∧ OwnsH w' w.heap.size v l ∧ Below w.heap.size w w' := by
  obtain ⟨i0, hi, hz0, hz1, hz2⟩ := info_parts Try.infoHd
  have qnil : ∀ (w : World) (a : Option Addr) (n c n' c' : Nat), (binOp .eql 22 (.slice a n c) (.slice Option.none n' c')).run Try.prog w = .ok (.bool a.isNone) w := fun w a n c n' c' => Lib.run_eql_slice_nil w _ _ a n c n' c' Try.underlying22
  cases A with
  | none =>
    have h0 : n = 0 := by have h1 := h.bare rfl; have h2 := h.cap; omega
    subst h0
    have hX : l = [] := List.eq_nil_of_length_eq_zero h.len
    subst hX
    have hc := h.bare rfl
    subst hc
    clear h
    go_enter Try.func22, Try.ntmps22
    go_wp2
    go_ret
    exact ⟨_, rfl, World.ownsRow_nil _ _ _ _, Below.refl _ _⟩
  | some ad =>
    have h00 := Lib.hid (ownsH_none w w.heap.size (Nat.le_refl _))
    have hb0 := Lib.hid (below_box w (.cells #[] 59))
    have hE := Lib.hid (h.later hb0.out)
    clear h
    go_enter Try.func22, Try.ntmps22
    go_wp2_with (at_builtin; refine wpList_append_hds rfl (.tmp 5) (.tmp 6) 22 rfl w.heap.size i0 Try.underlying22 hi hz0 hz1 hz2 _ [] rfl h00.out _ _ _ _ rfl hE.out (by simp; omega) (by simp) ?_; intro v2 w2 hown2 hg2; have hb2 := Lib.hid (h00.out.below hb0.out hg2 (by simp)); rw [List.nil_append] at hown2; replace hown2 := Lib.hid hown2)
    go_ret
    exact ⟨_, rfl, hown2.out, hb2.out⟩
end Go.Proofs.Ytodncamohimmmaa
