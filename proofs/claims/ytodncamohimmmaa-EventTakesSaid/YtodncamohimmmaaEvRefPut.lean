/-
  The reference's Put of layer 21, where the event may be. Conditions: those that each theorem states.
-/
import Derived.Test.YtodncamohimmmaaLow15
import Derived.Test.YtodncamohimmmaaLow22
import Derived.Deep.CutBlock
namespace Go.Proofs.Ytodncamohimmmaa
open Go.RowKit Go.Lib Go.Maps Leb

def f5e (A : Option Addr) (n c g : Nat) (kd : Int) (j : Nat) (v : Value) (_ : World) : Prop :=
  match j with
  | 0 => True
  | 1 => v = .slice A n c
  | 2 => True
  | 3 => v = .pointer (some ⟨g, 0, Option.none⟩)
  | 4 => v = .int .i64 kd
  | 5 => v = .int .u8 kd
  | 6 => True
  | _ => True
theorem f5e_any {A : Option Addr} {n c g : Nat} {kd : Int} {j : Nat} {v : Value} {w w' : World} (h : f5e A n c g kd j v w) : f5e A n c g kd j v w' := by
  unfold f5e at h ⊢
  split at h
  all_goals exact h
def f6e (b g : Nat) (ov : Value) (ses tk tick dd : Int) (j : Nat) (v : Value) (_ : World) : Prop :=
  match j with
  | 0 => v = ov
  | 1 => v = .pointer (some ⟨g, 1, Option.none⟩)
  | 2 => v = .int .i64 ses
  | 3 => v = .int .u64 ses
  | 4 => True
  | 5 => True
  | 6 => v = .pointer (some ⟨g, 2, Option.none⟩)
  | 7 => v = .int .i64 tk
  | 8 => v = .pointer (some ⟨b, 0, Option.none⟩)
  | 9 => v = .pointer (some ⟨b, 0, Option.none⟩)
  | 10 => v = .pointer (some ⟨b, 1, Option.none⟩)
  | 11 => v = .int .i64 tick
  | 12 => v = .int .i64 dd
  | 13 => v = .int .u64 dd
  | 14 => True
  | _ => True
theorem f6e_any {b g : Nat} {ov : Value} {ses tk tick dd : Int} {j : Nat} {v : Value} {w w' : World} (h : f6e b g ov ses tk tick dd j v w) : f6e b g ov ses tk tick dd j v w' := by
  unfold f6e at h ⊢
  split at h
  all_goals exact h
def f18e (b t g : Nat) (ov : Value) (x1 x2 : ByteArray) (j : Nat) (v : Value) (_ : World) : Prop :=
  match j with
  | 0 => v = .pointer (some ⟨b, 0, Option.none⟩)
  | 1 => v = .pointer (some ⟨b, 0, Option.none⟩)
  | 2 => v = .pointer (some ⟨b, 0, Option.none⟩)
  | 3 => v = .pointer (some ⟨t, 0, Option.none⟩)
  | 4 => v = .pointer (some ⟨b, 0, Option.none⟩)
  | 5 => v = .pointer (some ⟨b, 0, Option.none⟩)
  | 6 => v = .pointer (some ⟨b, 0, Option.none⟩)
  | 7 => v = .pointer (some ⟨t, 0, Option.none⟩)
  | 8 => v = ov
  | 9 => v = .pointer (some ⟨g, 3, Option.none⟩)
  | 10 => v = .string x1
  | 11 => True
  | 12 => v = .pointer (some ⟨g, 4, Option.none⟩)
  | 13 => v = .string x2
  | 14 => True
  | _ => True
theorem f18e_any {b t g : Nat} {ov : Value} {x1 x2 : ByteArray} {j : Nat} {v : Value} {w w' : World} (h : f18e b t g ov x1 x2 j v w) : f18e b t g ov x1 x2 j v w' := by
  unfold f18e at h ⊢
  split at h
  all_goals exact h
def f20e (b t g : Nat) (ov : Value) (x1 : ByteArray) (j : Nat) (v : Value) (_ : World) : Prop :=
  match j with
  | 0 => v = .pointer (some ⟨b, 0, Option.none⟩)
  | 1 => v = .pointer (some ⟨b, 0, Option.none⟩)
  | 2 => v = .pointer (some ⟨b, 0, Option.none⟩)
  | 3 => v = .pointer (some ⟨t, 0, Option.none⟩)
  | 4 => v = ov
  | 5 => v = .pointer (some ⟨g, 10, Option.none⟩)
  | 6 => v = .string x1
  | 7 => True
  | _ => True
theorem f20e_any {b t g : Nat} {ov : Value} {x1 : ByteArray} {j : Nat} {v : Value} {w w' : World} (h : f20e b t g ov x1 j v w) : f20e b t g ov x1 j v w' := by
  unfold f20e at h ⊢
  split at h
  all_goals exact h
def f22e (b t g : Nat) (ov : Value) (x1 : ByteArray) (j : Nat) (v : Value) (_ : World) : Prop :=
  match j with
  | 0 => v = .pointer (some ⟨b, 0, Option.none⟩)
  | 1 => v = .pointer (some ⟨b, 0, Option.none⟩)
  | 2 => v = .pointer (some ⟨b, 0, Option.none⟩)
  | 3 => v = .pointer (some ⟨t, 0, Option.none⟩)
  | 4 => v = ov
  | 5 => v = .pointer (some ⟨g, 6, Option.none⟩)
  | 6 => v = .string x1
  | 7 => True
  | _ => True
theorem f22e_any {b t g : Nat} {ov : Value} {x1 : ByteArray} {j : Nat} {v : Value} {w w' : World} (h : f22e b t g ov x1 j v w) : f22e b t g ov x1 j v w' := by
  unfold f22e at h ⊢
  split at h
  all_goals exact h
def f23e (b t g : Nat) (ov : Value) (ses kd : Int) (A : Option Addr) (m c : Nat) (j : Nat) (v : Value) (_ : World) : Prop :=
  match j with
  | 0 => v = ov
  | 1 => v = .pointer (some ⟨b, 0, Option.none⟩)
  | 2 => v = .pointer (some ⟨b, 0, Option.none⟩)
  | 3 => v = .pointer (some ⟨b, 0, Option.none⟩)
  | 4 => v = .pointer (some ⟨t, 0, Option.none⟩)
  | 5 => v = .pointer (some ⟨b, 0, Option.none⟩)
  | 6 => v = .pointer (some ⟨g, 1, Option.none⟩)
  | 7 => v = .int .i64 ses
  | 8 => v = .pointer (some ⟨g, 0, Option.none⟩)
  | 9 => v = .int .i64 kd
  | 10 => v = .bool (decide (kd = 3))
  | 11 => True
  | 12 => v = .pointer (some ⟨g, 5, Option.none⟩)
  | 13 => v = .slice A m c
  | 14 => True
  | _ => True
theorem f23e_any {b t g : Nat} {ov : Value} {ses kd : Int} {A : Option Addr} {m c : Nat} {j : Nat} {v : Value} {w w' : World} (h : f23e b t g ov ses kd A m c j v w) : f23e b t g ov ses kd A m c j v w' := by
  unfold f23e at h ⊢
  split at h
  all_goals exact h

set_option maxHeartbeats 64000000 in
set_option maxRecDepth 100000 in
theorem refPutE_ok (b t : Nat) (T0 : Nat → Prop) (u : Value) (ls : List Ln) (T : List (List UInt8)) (tick : Int) (A : Option Addr) (n c : Nat) (X : List Int) (x : Ev) (Ax : Option Addr) (m cx : Nat) (w : World)
    (h : RBk w b t T0 u ls T tick) (hX : Holds w A n c X) (hx : HdO w Ax m cx x.hs (inB b T0 u)) (hg : GoodE x) (h64 : U64 x.n) (h0 : 0 ≤ tick) (ht : tick ≤ x.tick) (hT : T.length ≤ 200000) (hn : n ≤ 900000000) (hls : ls.length ≤ 1000000) (hfew : (findL ls x.ses (decide (x.kind = 3))).length ≤ 1000) :
    Calls Try.prog 17 #[.pointer (some ⟨b, 0, Option.none⟩), .slice A n c, evv x Ax m cx] w fun e w' => ∃ r, e = .returned (.tuple #[r, .int .i64 0]) ∧ PutEE w b t T0 u ls x Ax m (headL ⟨T, tick, findL ls⟩ x) (X ++ encB ⟨T, tick, findL ls⟩ x) r w' := by
  obtain ⟨i0, hi8, hz0, hz1, hz2⟩ := info_parts Try.info8
  obtain ⟨kn, sn, dn, cn, stn, ek, es, ed, ec, est, bk1, bk7, bs, bd, bc, bst⟩ := goodE_nums hg h0 ht
  have hkd0 : 1 ≤ x.kind := by omega
  have hkd1 : x.kind ≤ 7 := by omega
  have hcode : x.code ≤ 9223372036854775807 := by omega
  have ek' := Lib.hid ek
  have es' := Lib.hid es
  have ed' := Lib.hid ed
  have ec' := Lib.hid ec
  have est' := Lib.hid est
  clear ek es ed ec est
  have hgood := Lib.hid (fun W (hW : Below w.heap.size w W) => refGoodE_any x Ax m cx W (hx.rd.later hW) hcode)
  rw [decide_eq_true hg] at hgood
  have hbe := Lib.hid (below_box w (.cells (ecell12 x Ax m cx) 25))
  have hev := Lib.hid (evAt_new w x Ax m cx 25)
  have hbs := Lib.hid (show w.heap.size < (w.alloc (.cells (ecell12 x Ax m cx) 25)).heap.size by simp)
  have hB := Lib.hid h
  have hX' := Lib.hid hX
  have hx' := Lib.hid hx
  have hlt : decide (x.tick < tick) = false := decide_eq_false (by omega)
  have hg' := Lib.hid hg
  have hT' := Lib.hid hT
  have hfew' := Lib.hid hfew
  have hls' := Lib.hid hls
  have ht' := Lib.hid ht
  have h0' := Lib.hid h0
  have h64' := Lib.hid h64
  have hap1 := Lib.hid (show ¬ inB b T0 u w.heap.size from fun hh => by have := h.low _ hh; omega)
  clear h hX hx hg hT hfew hls hcode h0 ht h64
  unfold evv at *
  unfold ecell12 at *
  go_enter Try.func17, Try.ntmps17
  go_wp2_with (first
    | (go_at_call 12; refine (hgood.out _ hbe.out).mono ?_; rintro e w2 ⟨rfl, hb2⟩; have hbw := Lib.hid (below_then hbe.out hb2); have hb2' := Lib.hid hb2; have y2 := (hev.out.later hb2).c2; have b1 := (hB.out.later hbw.out).cell.2.1; clear hb2))
  go_quiet (fail)
  go_upto_region 5 with fail
  have hev1 := Lib.hid (show (w2.drewN nq).heap[w.heap.size]? = some (.cells (ecell12 x Ax m cx) 25 (0, 0)) from (hb2'.out.block w.heap.size hbs.out).trans (heap_alloc_new w _))
  have hlt1 : w.heap.size < (w2.drewN nq).heap.size := Nat.lt_of_lt_of_le hbs.out (Nat.le_trans hb2'.out.size (below_drewN (Below.refl w2.heap.size w2) nq).size)
  have hbw1 := Lib.hid (below_drewN hbw.out nq)
  clear hgood hev hbw hb2' y2 b1 hbe hlt hbs
  obtain ⟨w1, hw1⟩ : ∃ w1, w1 = w2.drewN nq := ⟨_, rfl⟩
  rw [← hw1] at hev1 hlt1 hbw1
  rw [← hw1]
  clear hw1
  have hB1 := Lib.hid (hB.out.later hbw1.out)
  have hX1 := Lib.hid (hX'.out.later hbw1.out)
  have hx1 := Lib.hid (hx'.out.later hbw1.out)
  have hl5 := pY5_len (k := (⟨T, tick, findL ls⟩ : Bk)) (X := X) hg'.out h0'.out ht'.out h64'.out
  rw [hX'.out.len] at hl5
  obtain ⟨hl0, hl1, hl2, hl3, hl4, hl5⟩ := hl5
  have hl6 := pY7_len (k := (⟨T, tick, findL ls⟩ : Bk)) (X := X) hg'.out h0'.out ht'.out h64'.out hT'.out
  rw [hX'.out.len] at hl6
  replace hl6 := Lib.hid (show _ ∧ _ ≤ T.length + 2 ∧ _ ∧ _ ≤ T.length + 3 from hl6)
  have htx := Lib.hid (txts hg'.out (T := T) hT'.out)
  have hl8 := bodyLen (k := (⟨T, tick, findL ls⟩ : Bk)) (X := X) hg'.out h0'.out ht'.out h64'.out hT'.out
  rw [hX'.out.len] at hl8
  replace hl8 := Lib.hid (show _ ∧ _ ≤ T.length + 4 from hl8)
  have hm1 := Lib.hid (show m ≤ 25 by have h1 := hx'.out.rd.len; have h2 := hg'.out.1.2.2.2.2.2.2.2.2.1; omega)
  have hsh := Lib.hid (shortE hg'.out)
  replace hl0 := Lib.hid hl0
  replace hl1 := Lib.hid hl1
  replace hl2 := Lib.hid hl2
  replace hl3 := Lib.hid hl3
  replace hl4 := Lib.hid hl4
  replace hl5 := Lib.hid hl5
  have hle1 := Lib.hid (encLen x.ses.toNat (by have := es'.out; omega))
  have hle2 := Lib.hid (encLen dn (by omega))
  have hle3 := Lib.hid (encLen x.code.toNat (by have := ec'.out; omega))
  have hle4 := Lib.hid (encLen x.status.toNat (by have := est'.out; omega))
  have hle5 := Lib.hid (encLen x.n h64'.out)
  have hse0 : 0 ≤ x.ses := by have := es'.out; omega
  have hse1 : x.ses ≤ 9223372036854775807 := by have := es'.out; omega
  have hco0 : 0 ≤ x.code := by have := ec'.out; omega
  have hst0 : 0 ≤ x.status := by have := est'.out; omega
  have hwco : IntKind.u64.wrap x.code = x.code := IntWalk.u64_in _ ⟨hco0, by have := ec'.out; omega⟩
  have hwst : IntKind.u64.wrap x.status = x.status := IntWalk.u64_in _ ⟨hst0, by have := est'.out; omega⟩
  have hcs := Lib.hid (fun W => bytes_any x.ses.toNat W (by unfold U64; have := es'.out; omega))
  rw [show ((x.ses.toNat : Nat) : Int) = x.ses by omega] at hcs
  have hcc := Lib.hid (fun W => bytes_any x.code.toNat W (by unfold U64; have := ec'.out; omega))
  rw [show ((x.code.toNat : Nat) : Int) = x.code by omega] at hcc
  have hct := Lib.hid (fun W => bytes_any x.status.toNat W (by unfold U64; have := est'.out; omega))
  rw [show ((x.status.toNat : Nat) : Int) = x.status by omega] at hct
  have hcd := Lib.hid (fun W => bytes_any dn W (by unfold U64; omega))
  have hcn := Lib.hid (fun W => bytes_any x.n W h64'.out)
  go_cut [8] from 9 to 173 (fun out wr => Hid (PutS w1 b t T0 u ls tick w.heap.size x Ax m cx T (pY0 x X) out wr))
  case first =>
    as_aux_lemma =>
      refine wp_region_tail 7 10 (by decide) (by kernel_rfl) (RInv 174 [19, 20, 21, 22, 23, 24, 25] _ (f5e A n c w.heap.size x.kind) w1 (BX w1.heap.size X x.kind)) (by kernel_rfl) (by kernel_rfl) (RInv.start rfl (BX.start (Nat.le_refl _)) (Below.refl _ _).drew) ?_ ?_
      · intro i hi D a wy hI hcl hnd hpre
        have hi' : i < 7 := hi
        have hcase : i = 0 ∨ i = 1 ∨ i = 2 ∨ i = 3 ∨ i = 4 ∨ i = 5 ∨ i = 6 := by omega
        have hF := hI.fact
        rcases hcase with rfl | rfl | rfl | rfl | rfl | rfl | rfl
        · exact wpOp_build rfl (wanted_free rfl) _ _ _ rfl #[] (by simp) _ (run_build0B wy) (hI.put (by decide) (by decide) (fun j _ _ h => f5e_any h) trivial (hI.more.op0 (fun h2 => hnd (hcl 2 h2 0 (by kernel_rfl))) (by rw [hI.size]; decide)) (below_then hI.below (below_box wy _)))
        · exact wpOp_move rfl (wanted_free rfl) _ rfl _ (hI.same 1 (by decide)) (hI.put (by decide) (by decide) (fun j _ _ h => f5e_any h) rfl (hI.more.pure _ (by decide) (by decide)) (hI.below))
        · have h19 := hI.more.e0 (hpre 0 (by kernel_rfl)) hnd
          obtain ⟨v9, w9, hrun, hO9, hg9, hm9⟩ := run_append_bytes (P := Try.prog) w1.heap.size 43 43 5 i0 Try.underlying43 hi8 hz0 hz1 hz2 h19 (hX1.out.later hI.below) (by simp only [List.length_nil]; omega) hI.more.low
          rw [List.nil_append] at hO9
          exact wpOp_appendL rfl (wanted_free rfl) _ _ _ rfl _ _ _ rfl (hF 1 (hpre 1 (by kernel_rfl))) hrun (hI.put (by decide) (by decide) (fun j _ _ h => f5e_any h) trivial (hI.more.op2 (hpre 0 (by kernel_rfl)) hnd hO9 hg9 (by rw [hI.size]; decide)) (below_own hI.below h19 hg9 hI.more.low))
        · exact wpOp_field rfl (wanted_free rfl) _ _ _ rfl _ _ (hI.same 5 (by decide)) (run_fieldE0 wy w.heap.size) (hI.put (by decide) (by decide) (fun j _ _ h => f5e_any h) rfl (hI.more.pure _ (by decide) (by decide)) (hI.below))
        · exact wpOp_load rfl (wanted_free rfl) _ _ rfl _ _ (hF 3 (hpre 3 (by kernel_rfl))) (run_loadI9 wy w.heap.size 0 x.kind ((EvAt.row hev1.out : EvAt w1 w.heap.size x Ax m cx).later hI.below).c0) (hI.put (by decide) (by decide) (fun j _ _ h => f5e_any h) rfl (hI.more.pure _ (by decide) (by decide)) (hI.below))
        · exact wpOp_convert rfl (wanted_free rfl) _ _ _ rfl _ _ (hF 4 (hpre 4 (by kernel_rfl))) (run_conv8 wy x.kind (by omega) (by omega)) (hI.put (by decide) (by decide) (fun j _ _ h => f5e_any h) rfl (hI.more.pure _ (by decide) (by decide)) (hI.below))
        · refine wpOp_build rfl (wanted_free rfl) _ _ _ rfl #[(0, .int .u8 x.kind)] ?_ _ (run_build1B wy x.kind) (hI.put (by decide) (by decide) (fun j _ _ h => f5e_any h) trivial (hI.more.op6 ⟨by omega, by omega⟩ (by rw [hI.size]; decide)) (below_then hI.below (below_box wy _)))
          have e24 : a.eval (.tmp 24) = .int .u8 x.kind := (hF 5 (hpre 5 (by kernel_rfl)))
          simp [e24]
      · intro D a w5 hI hall
        have hO := hI.more.e2 (hall 2 (by decide))
        obtain ⟨g6, e25, hH6, _⟩ := hI.more.e6 (hall 6 (by decide))
        have hlow := hI.more.low
        have hbl := hI.below
        have hsz := hI.size
        have hdone := hI.done (by decide) rfl (fun i hi => hall i hi)
        clear hI hall
        show wpOps _ _ _ [7, 8] a w5
        rw [wpOps_cons]
        obtain ⟨v9, w9, hrun, hO9, hg9, hm9⟩ := run_append_bytes (P := Try.prog) w1.heap.size 43 43 5 i0 Try.underlying43 hi8 hz0 hz1 hz2 hO hH6 (by have := hX1.out.len; omega) hlow
        refine wpOp_appendL rfl (wanted_free rfl) _ _ _ rfl _ _ _ rfl e25 hrun ?_
        have hP := Lib.hid (PutS.start hB1.out hx1.out hev1.out hlt1 hap1.out (below_own hbl hO hg9 hlow) hO9)
        clear hO hH6 e25 hrun hO9 hg9 hm9 hbl hlow
        show wpOps _ _ _ _ (a.put (some 26) v9) w9
        rw [wpOps_cons]
        refine wpOp_assign rfl (wanted_free rfl) _ rfl v9 (eval_put_same _ _ _ (by rw [hsz]; decide)) ?_
        show wpOps _ _ _ _ ((a.put (some 26) v9).put (some 8) v9) w9
        rw [wpOps]
        obtain ⟨fs, ha, _⟩ := hdone
        subst ha
        simp only [putAll, List.map_cons, List.map_nil, Act.put, List.setIfInBounds_toArray, List.set_cons_zero, List.set_cons_succ]
        generalize fs 19 = y19
        generalize fs 20 = y20
        generalize fs 21 = y21
        generalize fs 22 = y22
        generalize fs 23 = y23
        generalize fs 24 = y24
        generalize fs 25 = y25
        go_wp2_with fail
        go_meet
        case rel => rw [pY0_is ⟨by omega, by omega⟩]; exact hP
  clear hB1 hX1 hx1 hev1 hap1
  have hP := hcut
  clear hcut
  go_upto_region 6 with fail
  go_cut [8] from 9 to 173 (fun out wr => Hid (PutS w1 b t T0 u ls tick w.heap.size x Ax m cx T (pY1 (⟨T, tick, findL ls⟩ : Bk) x X) out wr))
  case first =>
    as_aux_lemma =>
      refine wp_region_tail 15 18 (by decide) (by kernel_rfl) (RInv 174 [27, 28, 29, 30, 31, 32, 33, 34, 35, 36, 37, 38, 39, 40, 41] _ (f6e b w.heap.size u8 x.ses x.tick tick (dn : Int)) { w1 with heap := #[] } (IQF (PutK w1 b t T0 u ls tick w.heap.size x Ax m cx T T T (pY0 x X) (pY0 x X ++ enc x.ses.toNat) []) (ReadsB (enc x.ses.toNat)) (ReadsB (enc dn)) u8 5 32 4 31 99 173 14 41)) (by kernel_rfl) (by kernel_rfl) (RInv.start rfl (IQF.start (PutS.later hP.out (Below.refl _ _).drew)) ((PutS.none hP.out).drew)) ?_ ?_
      · intro i hi D a wy hI hcl hnd hpre
        have hi' : i < 15 := hi
        have hcase : i = 0 ∨ i = 1 ∨ i = 2 ∨ i = 3 ∨ i = 4 ∨ i = 5 ∨ i = 6 ∨ i = 7 ∨ i = 8 ∨ i = 9 ∨ i = 10 ∨ i = 11 ∨ i = 12 ∨ i = 13 ∨ i = 14 := by omega
        have hF := hI.fact
        rcases hcase with rfl | rfl | rfl | rfl | rfl | rfl | rfl | rfl | rfl | rfl | rfl | rfl | rfl | rfl | rfl
        · exact wpOp_move rfl (wanted_free rfl) _ rfl _ (hI.same 8 (by decide)) (hI.put (by decide) (by decide) (fun j _ _ h => f6e_any h) rfl (hI.more.pure _ (by decide) (by decide)) (hI.below))
        · exact wpOp_field rfl (wanted_free rfl) _ _ _ rfl _ _ (hI.same 5 (by decide)) (run_fieldE_1 wy w.heap.size) (hI.put (by decide) (by decide) (fun j _ _ h => f6e_any h) rfl (hI.more.pure _ (by decide) (by decide)) (hI.below))
        · exact wpOp_load rfl (wanted_free rfl) _ _ rfl _ _ (hF 1 (hpre 1 (by kernel_rfl))) (run_loadI9 wy w.heap.size 1 x.ses (iqf_ev hI.more).c1) (hI.put (by decide) (by decide) (fun j _ _ h => f6e_any h) rfl (hI.more.pure _ (by decide) (by decide)) (hI.below))
        · exact wpOp_convert rfl (wanted_free rfl) _ _ _ rfl _ _ (hF 2 (hpre 2 (by kernel_rfl))) (run_convU wy x.ses hse0 hse1) (hI.put (by decide) (by decide) (fun j _ _ h => f6e_any h) rfl (hI.more.pure _ (by decide) (by decide)) (hI.below))
        · exact wpOp_call1 rfl (wanted_free rfl) 37 _ _ rfl _ (hF 3 (hpre 3 (by kernel_rfl))) (enters_bytes21 _ _) (hcs.out wy) (fun e w' hq => by
            obtain ⟨r, rfl, hown, hb⟩ := hq
            exact ⟨_, rfl, (hI.put (by decide) (by decide) (fun j _ _ h => f6e_any h) trivial (IQF.call1 hI.more (fun k v hk => PutS.later hk hb) (fun v hv => ReadsB.later hv hb) hown.reads (by rw [hI.size]; decide) (by decide) (by decide)) (below_then hI.below hb))⟩)
        · have hK0 := hI.more.n1 hnd (fun h9 => absurd (hI.few 99 h9) (by decide))
          obtain ⟨A3, c3, e31, hH3⟩ := hI.more.e1 (hpre 4 (by kernel_rfl)) hnd
          obtain ⟨v9, w9, hrun, hO9, hg9, hm9⟩ := run_append_bytes (P := Try.prog) w1.heap.size 43 43 5 i0 Try.underlying43 hi8 hz0 hz1 hz2 (PutS.own hK0) hH3 (by show (pY0 x X).length + (enc x.ses.toNat).length ≤ _; have := hl0.out; have := hle1.out; omega) (PutS.size hK0)
          have hK1 := PutS.app hK0 hO9 hg9 hm9
          exact wpOp_appendL rfl (wanted_free rfl) _ _ _ rfl _ _ _ (hF 0 (hpre 0 (by kernel_rfl))) e31 hrun (hI.put (by decide) (by decide) (fun j _ _ h => f6e_any h) trivial (IQF.first hK1 (fun h9 => absurd (hI.few 99 h9) (by decide)) (fun h9 => hnd (hcl 14 h9 5 (by kernel_rfl))) (by rw [hI.size]; decide) (by decide) (by decide)) (PutS.none hK1))
        · exact wpOp_field rfl (wanted_free rfl) _ _ _ rfl _ _ (hI.same 5 (by decide)) (run_fieldE_2 wy w.heap.size) (hI.put (by decide) (by decide) (fun j _ _ h => f6e_any h) rfl (hI.more.pure _ (by decide) (by decide)) (hI.below))
        · exact wpOp_load rfl (wanted_free rfl) _ _ rfl _ _ (hF 6 (hpre 6 (by kernel_rfl))) (run_loadI9 wy w.heap.size 2 x.tick (iqf_ev hI.more).c2) (hI.put (by decide) (by decide) (fun j _ _ h => f6e_any h) rfl (hI.more.pure _ (by decide) (by decide)) (hI.below))
        · exact wpOp_move rfl (wanted_free rfl) _ rfl _ (hI.same 0 (by decide)) (hI.put (by decide) (by decide) (fun j _ _ h => f6e_any h) rfl (hI.more.pure _ (by decide) (by decide)) (hI.below))
        · exact wpOp_nil9 rfl (wanted_free rfl) _ rfl _ (hF 8 (hpre 8 (by kernel_rfl))) (hI.put (by decide) (by decide) (fun j _ _ h => f6e_any h) rfl (hI.more.pure _ (by decide) (by decide)) (hI.below))
        · exact wpOp_field rfl (wanted_free rfl) _ _ _ rfl _ _ (hF 9 (hpre 9 (by kernel_rfl))) (run_fieldB1 wy b) (hI.put (by decide) (by decide) (fun j _ _ h => f6e_any h) rfl (hI.more.pure _ (by decide) (by decide)) (hI.below))
        · exact wpOp_load rfl (wanted_free rfl) _ _ rfl _ _ (hF 10 (hpre 10 (by kernel_rfl))) (run_loadI9 wy b 1 tick (iqf_book hI.more).2) (hI.put (by decide) (by decide) (fun j _ _ h => f6e_any h) rfl (hI.more.pure _ (by decide) (by decide)) (hI.below))
        · exact wpOp_bin rfl (wanted_free rfl) _ _ _ _ _ rfl _ _ _ (hF 7 (hpre 7 (by kernel_rfl))) (hF 11 (hpre 11 (by kernel_rfl))) (run_subI wy x.tick tick dn ed'.out (by omega) (by omega)) (hI.put (by decide) (by decide) (fun j _ _ h => f6e_any h) rfl (hI.more.pure _ (by decide) (by decide)) (hI.below))
        · exact wpOp_convert rfl (wanted_free rfl) _ _ _ rfl _ _ (hF 12 (hpre 12 (by kernel_rfl))) (run_convU wy dn (by omega) (by omega)) (hI.put (by decide) (by decide) (fun j _ _ h => f6e_any h) rfl (hI.more.pure _ (by decide) (by decide)) (hI.below))
        · exact wpOp_call1 rfl (wanted_free rfl) 37 _ _ rfl _ (hF 13 (hpre 13 (by kernel_rfl))) (enters_bytes21 _ _) (hcd.out wy) (fun e w' hq => by
            obtain ⟨r, rfl, hown, hb⟩ := hq
            exact ⟨_, rfl, (hI.put (by decide) (by decide) (fun j _ _ h => f6e_any h) trivial (IQF.call2 hI.more (fun k v hk => PutS.later hk hb) (fun v hv => ReadsB.later hv hb) hown.reads (by rw [hI.size]; decide) (by decide) (by decide)) (below_then hI.below hb))⟩)
      · intro D a w5 hI hall
        have hK1 := hI.more.d1 (hall 5 (by decide)) (fun h9 => absurd (hI.few 99 h9) (by decide))
        obtain ⟨A3, c3, e41, hH3⟩ := hI.more.e2 (hall 14 (by decide)) (fun h9 => absurd (hI.few 99 h9) (by decide))
        have hsz := hI.size
        have hdone := hI.done (by decide) rfl (fun i hi => hall i hi)
        clear hI hall
        show wpOps _ _ _ [15, 16] a w5
        rw [wpOps_cons]
        obtain ⟨v9, w9, hrun, hO9, hg9, hm9⟩ := run_append_bytes (P := Try.prog) w1.heap.size 43 43 5 i0 Try.underlying43 hi8 hz0 hz1 hz2 (PutS.own hK1) hH3 (by show (pY0 x X ++ enc x.ses.toNat).length + (enc dn).length ≤ _; rw [List.length_append]; have := hl0.out; have := hle1.out; have := hle2.out; omega) (PutS.size hK1)
        refine wpOp_appendL rfl (wanted_free rfl) _ _ _ rfl _ _ _ rfl e41 hrun ?_
        have hS := Lib.hid (PutS.app hK1 hO9 hg9 hm9)
        clear hK1 hH3 e41 hrun hO9 hg9 hm9
        show wpOps _ _ _ _ (a.put (some 42) v9) w9
        rw [wpOps_cons]
        refine wpOp_assign rfl (wanted_free rfl) _ rfl v9 (eval_put_same _ _ _ (by rw [hsz]; decide)) ?_
        show wpOps _ _ _ _ ((a.put (some 42) v9).put (some 8) v9) w9
        rw [wpOps]
        obtain ⟨fs, ha, _⟩ := hdone
        subst ha
        simp only [putAll, List.map_cons, List.map_nil, Act.put, List.setIfInBounds_toArray, List.set_cons_zero, List.set_cons_succ]
        generalize fs 27 = y27 at *
        generalize fs 28 = y28 at *
        generalize fs 29 = y29 at *
        generalize fs 30 = y30 at *
        generalize fs 31 = y31 at *
        generalize fs 32 = y32 at *
        generalize fs 33 = y33 at *
        generalize fs 34 = y34 at *
        generalize fs 35 = y35 at *
        generalize fs 36 = y36 at *
        generalize fs 37 = y37 at *
        generalize fs 38 = y38 at *
        generalize fs 39 = y39 at *
        generalize fs 40 = y40 at *
        generalize fs 41 = y41 at *
        go_wp2_with fail
        go_meet
        case rel =>
          have e : (pY1 (⟨T, tick, findL ls⟩ : Bk) x X) = pY0 x X ++ enc x.ses.toNat ++ enc dn := by unfold pY1; rw [show (x.tick - (⟨T, tick, findL ls⟩ : Bk).tick).toNat = dn by show (x.tick - tick).toNat = dn; rw [ed'.out]; simp]
          rw [e]
          exact hS
  clear hP
  have hP := hcut
  clear hcut
  go_upto_region 7 with fail
  have e0 := (PutS.ev hP.out).c0
  go_cut [55] from 9 to 173 (fun s wr => (∃ d : Bool, s = .bool d ∧ Hid (d = decide (x.kind = 1 ∨ x.kind = 2 ∨ x.kind = 7))) ∧ Hid (PutS w1 b t T0 u ls tick w.heap.size x Ax m cx T (pY1 (⟨T, tick, findL ls⟩ : Bk) x X) u8 wr))
  case first =>
    as_aux_lemma =>
      by_cases q1 : x.kind = 1
      · have b1 : (x.kind == 1) = true := by simp [q1]
        have d1 : decide (x.kind = 1) = true := decide_eq_true q1
        replace q1 := Lib.hid q1
        go_wp2
        go_meet
        case rel => exact ⟨⟨_, rfl, Lib.hid (decide_eq_true (by have := q1.out; first | omega | simp_all)).symm⟩, hP⟩
      · by_cases q2 : x.kind = 2
        · have b1 : (x.kind == 1) = false := by simp [q1]
          have d1 : decide (x.kind = 1) = false := decide_eq_false q1
          have b2 : (x.kind == 2) = true := by simp [q2]
          have d2 : decide (x.kind = 2) = true := decide_eq_true q2
          replace q1 := Lib.hid q1
          replace q2 := Lib.hid q2
          go_wp2
          go_meet
          case rel => exact ⟨⟨_, rfl, Lib.hid (decide_eq_true (by have := q1.out; have := q2.out; first | omega | simp_all)).symm⟩, hP⟩
        · by_cases q7 : x.kind = 7
          · have b1 : (x.kind == 1) = false := by simp [q1]
            have d1 : decide (x.kind = 1) = false := decide_eq_false q1
            have b2 : (x.kind == 2) = false := by simp [q2]
            have d2 : decide (x.kind = 2) = false := decide_eq_false q2
            have b7 : (x.kind == 7) = true := by simp [q7]
            have d7 : decide (x.kind = 7) = true := decide_eq_true q7
            replace q1 := Lib.hid q1
            replace q2 := Lib.hid q2
            replace q7 := Lib.hid q7
            go_wp2
            go_meet
            case rel => exact ⟨⟨_, rfl, Lib.hid (decide_eq_true (by have := q1.out; have := q2.out; have := q7.out; first | omega | simp_all)).symm⟩, hP⟩
          · have b1 : (x.kind == 1) = false := by simp [q1]
            have d1 : decide (x.kind = 1) = false := decide_eq_false q1
            have b2 : (x.kind == 2) = false := by simp [q2]
            have d2 : decide (x.kind = 2) = false := decide_eq_false q2
            have b7 : (x.kind == 7) = false := by simp [q7]
            have d7 : decide (x.kind = 7) = false := decide_eq_false q7
            replace q1 := Lib.hid q1
            replace q2 := Lib.hid q2
            replace q7 := Lib.hid q7
            go_wp2
            go_meet
            case rel => exact ⟨⟨_, rfl, Lib.hid (decide_eq_false (by have := q1.out; have := q2.out; have := q7.out; first | omega | simp_all)).symm⟩, hP⟩
  clear hP
  clear e0
  obtain ⟨⟨d, rfl, hd⟩, hP⟩ := hcut
  go_upto_if 55 with fail
  go_cut [8] from 9 to 173 (fun out wr => Hid (PutS w1 b t T0 u ls tick w.heap.size x Ax m cx T (pY2 (⟨T, tick, findL ls⟩ : Bk) x X) out wr))
  case first =>
    as_aux_lemma =>
      cases d
      · have hc := of_decide_eq_false hd.out.symm
        replace hc := Lib.hid hc
        clear hd
        go_wp2
        go_meet
        case rel =>
          rw [show (pY2 (⟨T, tick, findL ls⟩ : Bk) x X) = (pY1 (⟨T, tick, findL ls⟩ : Bk) x X) by unfold pY2; rw [if_neg (by have := hc.out; omega)]; simp]
          exact hP
      · have hc := of_decide_eq_true hd.out.symm
        replace hc := Lib.hid hc
        clear hd
        have e8 := (PutS.ev hP.out).c8
        go_wp2_with (first
          | (go_at_call 37; refine (hcc.out _).mono ?_; rintro e w3 ⟨v3, rfl, own3, hb3⟩; obtain ⟨A3, c3, rfl, hH3⟩ := own3.holds; have hP3 := Lib.hid (PutS.later hP.out hb3); have hH3' := Lib.hid hH3; clear own3 hb3 hH3)
          | (at_builtin; refine wpList_append_bytes rfl (.tmp 56) (.tmp 60) 43 rfl w1.heap.size 5 i0 Try.underlying43 hi8 hz0 hz1 hz2 _ (pY1 (⟨T, tick, findL ls⟩ : Bk) x X) rfl (PutS.own hP3.out) A3 _ c3 (enc x.code.toNat) rfl hH3'.out (by have := hl1.out; have := hle3.out; omega) (PutS.size hP3.out) ?_; intro v4 w4 hown4 hg4 hat4; have hP4 := Lib.hid (PutS.app hP3.out hown4 hg4 hat4); clear hown4 hg4 hat4))
        go_meet
        case rel =>
          rw [show (pY2 (⟨T, tick, findL ls⟩ : Bk) x X) = (pY1 (⟨T, tick, findL ls⟩ : Bk) x X) ++ enc x.code.toNat by unfold pY2; rw [if_pos hc.out]]
          exact hP4
  clear hP hd
  replace hP := hcut
  go_upto_region 9 with fail
  have e0 := (PutS.ev hP.out).c0
  go_cut [69] from 9 to 173 (fun s wr => (∃ d : Bool, s = .bool d ∧ Hid (d = decide (x.kind = 3 ∨ x.kind = 7))) ∧ Hid (PutS w1 b t T0 u ls tick w.heap.size x Ax m cx T (pY2 (⟨T, tick, findL ls⟩ : Bk) x X) u8 wr))
  case first =>
    as_aux_lemma =>
      by_cases q3 : x.kind = 3
      · have b3 : (x.kind == 3) = true := by simp [q3]
        have d3 : decide (x.kind = 3) = true := decide_eq_true q3
        replace q3 := Lib.hid q3
        go_wp2
        go_meet
        case rel => exact ⟨⟨_, rfl, Lib.hid (decide_eq_true (by have := q3.out; first | omega | simp_all)).symm⟩, hP⟩
      · by_cases q7 : x.kind = 7
        · have b3 : (x.kind == 3) = false := by simp [q3]
          have d3 : decide (x.kind = 3) = false := decide_eq_false q3
          have b7 : (x.kind == 7) = true := by simp [q7]
          have d7 : decide (x.kind = 7) = true := decide_eq_true q7
          replace q3 := Lib.hid q3
          replace q7 := Lib.hid q7
          go_wp2
          go_meet
          case rel => exact ⟨⟨_, rfl, Lib.hid (decide_eq_true (by have := q3.out; have := q7.out; first | omega | simp_all)).symm⟩, hP⟩
        · have b3 : (x.kind == 3) = false := by simp [q3]
          have d3 : decide (x.kind = 3) = false := decide_eq_false q3
          have b7 : (x.kind == 7) = false := by simp [q7]
          have d7 : decide (x.kind = 7) = false := decide_eq_false q7
          replace q3 := Lib.hid q3
          replace q7 := Lib.hid q7
          go_wp2
          go_meet
          case rel => exact ⟨⟨_, rfl, Lib.hid (decide_eq_false (by have := q3.out; have := q7.out; first | omega | simp_all)).symm⟩, hP⟩
  clear hP
  clear e0
  obtain ⟨⟨d, rfl, hd⟩, hP⟩ := hcut
  go_upto_if 69 with fail
  go_cut [8] from 9 to 173 (fun out wr => Hid (PutS w1 b t T0 u ls tick w.heap.size x Ax m cx T (pY3 (⟨T, tick, findL ls⟩ : Bk) x X) out wr))
  case first =>
    as_aux_lemma =>
      cases d
      · have hc := of_decide_eq_false hd.out.symm
        replace hc := Lib.hid hc
        clear hd
        go_wp2
        go_meet
        case rel =>
          rw [show (pY3 (⟨T, tick, findL ls⟩ : Bk) x X) = (pY2 (⟨T, tick, findL ls⟩ : Bk) x X) by unfold pY3; rw [if_neg (by have := hc.out; omega)]; simp]
          exact hP
      · have hc := of_decide_eq_true hd.out.symm
        replace hc := Lib.hid hc
        clear hd
        have e7 := (PutS.ev hP.out).c7
        go_wp2_with (first
          | (go_at_call 37; refine (hct.out _).mono ?_; rintro e w3 ⟨v3, rfl, own3, hb3⟩; obtain ⟨A3, c3, rfl, hH3⟩ := own3.holds; have hP3 := Lib.hid (PutS.later hP.out hb3); have hH3' := Lib.hid hH3; clear own3 hb3 hH3)
          | (at_builtin; refine wpList_append_bytes rfl (.tmp 70) (.tmp 74) 43 rfl w1.heap.size 5 i0 Try.underlying43 hi8 hz0 hz1 hz2 _ (pY2 (⟨T, tick, findL ls⟩ : Bk) x X) rfl (PutS.own hP3.out) A3 _ c3 (enc x.status.toNat) rfl hH3'.out (by have := hl2.out; have := hle4.out; omega) (PutS.size hP3.out) ?_; intro v4 w4 hown4 hg4 hat4; have hP4 := Lib.hid (PutS.app hP3.out hown4 hg4 hat4); clear hown4 hg4 hat4))
        go_meet
        case rel =>
          rw [show (pY3 (⟨T, tick, findL ls⟩ : Bk) x X) = (pY2 (⟨T, tick, findL ls⟩ : Bk) x X) ++ enc x.status.toNat by unfold pY3; rw [if_pos hc.out]]
          exact hP4
  clear hP hd
  replace hP := hcut
  go_upto_region 11 with fail
  have e0 := (PutS.ev hP.out).c0
  have e9 := (PutS.ev hP.out).c9
  go_cut [82] from 9 to 173 (fun s wr => (∃ d : Bool, s = .bool d ∧ Hid (d = decide (x.kind = 2 ∧ x.cred = true))) ∧ Hid (PutS w1 b t T0 u ls tick w.heap.size x Ax m cx T (pY3 (⟨T, tick, findL ls⟩ : Bk) x X) u8 wr))
  case first =>
    as_aux_lemma =>
      by_cases q2 : x.kind = 2
      · have b2 : (x.kind == 2) = true := by simp [q2]
        have d2 : decide (x.kind = 2) = true := decide_eq_true q2
        replace q2 := Lib.hid q2
        go_wp2
        go_meet
        case rel => exact ⟨⟨_, rfl, Lib.hid (by simp [q2.out])⟩, hP⟩
      · have b2 : (x.kind == 2) = false := by simp [q2]
        have d2 : decide (x.kind = 2) = false := decide_eq_false q2
        replace q2 := Lib.hid q2
        go_wp2
        go_meet
        case rel => exact ⟨⟨_, rfl, Lib.hid (decide_eq_false (fun h9 => q2.out h9.1)).symm⟩, hP⟩
  clear hP
  clear e0 e9
  obtain ⟨⟨d, rfl, hd⟩, hP⟩ := hcut
  go_upto_if 82 with fail
  go_cut [8] from 9 to 173 (fun out wr => Hid (PutS w1 b t T0 u ls tick w.heap.size x Ax m cx T (pY4 (⟨T, tick, findL ls⟩ : Bk) x X) out wr))
  case first =>
    as_aux_lemma =>
      cases d
      · have hc := of_decide_eq_false hd.out.symm
        replace hc := Lib.hid hc
        clear hd
        have e0 := (PutS.ev hP.out).c0
        by_cases q2 : x.kind = 2
        · have b2 : (x.kind == 2) = true := by simp [q2]
          have d2 : decide (x.kind = 2) = true := decide_eq_true q2
          replace q2 := Lib.hid q2
          have hP5 := Lib.hid (PutS.later hP.out (below_box wc (.cells #[.int .u8 0] 5)))
          have hZ := Lib.hid (holds_new wc 5 #[.int .u8 0] [0] rfl (fun y hy => by simp at hy; omega) (by simp [maxLen]))
          go_wp2_with (at_builtin; refine wpList_append_bytes rfl (.tmp 89) (.tmp 90) 43 rfl w1.heap.size 5 i0 Try.underlying43 hi8 hz0 hz1 hz2 _ (pY3 (⟨T, tick, findL ls⟩ : Bk) x X) rfl (PutS.own hP5.out) (some ⟨wc.heap.size, 0, Option.none⟩) 1 1 [0] rfl hZ.out (by have := hl3.out; omega) (PutS.size hP5.out) ?_; intro v4 w4 hown4 hg4 hat4; have hP4 := Lib.hid (PutS.app hP5.out hown4 hg4 hat4); clear hown4 hg4 hat4)
          go_meet
          case rel =>
            rw [show (pY4 (⟨T, tick, findL ls⟩ : Bk) x X) = (pY3 (⟨T, tick, findL ls⟩ : Bk) x X) ++ [0] by unfold pY4; rw [if_pos q2.out, if_neg (fun h9 => hc.out ⟨q2.out, h9⟩)]]
            exact hP4
        · have b2 : (x.kind == 2) = false := by simp [q2]
          have d2 : decide (x.kind = 2) = false := decide_eq_false q2
          replace q2 := Lib.hid q2
          go_wp2
          go_meet
          case rel =>
            rw [show (pY4 (⟨T, tick, findL ls⟩ : Bk) x X) = (pY3 (⟨T, tick, findL ls⟩ : Bk) x X) by unfold pY4; rw [if_neg q2.out]; simp]
            exact hP
      · have hc := of_decide_eq_true hd.out.symm
        replace hc := Lib.hid hc
        clear hd
        have hP5 := Lib.hid (PutS.later hP.out (below_box wc (.cells #[.int .u8 1] 5)))
        have hZ := Lib.hid (holds_new wc 5 #[.int .u8 1] [1] rfl (fun y hy => by simp at hy; omega) (by simp [maxLen]))
        go_wp2_with (at_builtin; refine wpList_append_bytes rfl (.tmp 83) (.tmp 84) 43 rfl w1.heap.size 5 i0 Try.underlying43 hi8 hz0 hz1 hz2 _ (pY3 (⟨T, tick, findL ls⟩ : Bk) x X) rfl (PutS.own hP5.out) (some ⟨wc.heap.size, 0, Option.none⟩) 1 1 [1] rfl hZ.out (by have := hl3.out; omega) (PutS.size hP5.out) ?_; intro v4 w4 hown4 hg4 hat4; have hP4 := Lib.hid (PutS.app hP5.out hown4 hg4 hat4); clear hown4 hg4 hat4)
        go_meet
        case rel =>
          rw [show (pY4 (⟨T, tick, findL ls⟩ : Bk) x X) = (pY3 (⟨T, tick, findL ls⟩ : Bk) x X) ++ [1] by unfold pY4; rw [if_pos hc.out.1, if_pos hc.out.2]]
          exact hP4
  clear hP hd
  replace hP := hcut
  go_upto_region 15 with fail
  have e0 := (PutS.ev hP.out).c0
  go_cut [104] from 9 to 173 (fun s wr => (∃ d : Bool, s = .bool d ∧ Hid (d = decide (x.kind = 2 ∨ x.kind = 5 ∨ x.kind = 6))) ∧ Hid (PutS w1 b t T0 u ls tick w.heap.size x Ax m cx T (pY4 (⟨T, tick, findL ls⟩ : Bk) x X) u8 wr))
  case first =>
    as_aux_lemma =>
      by_cases q2 : x.kind = 2
      · have b2 : (x.kind == 2) = true := by simp [q2]
        have d2 : decide (x.kind = 2) = true := decide_eq_true q2
        replace q2 := Lib.hid q2
        go_wp2
        go_meet
        case rel => exact ⟨⟨_, rfl, Lib.hid (decide_eq_true (by have := q2.out; first | omega | simp_all)).symm⟩, hP⟩
      · by_cases q5 : x.kind = 5
        · have b2 : (x.kind == 2) = false := by simp [q2]
          have d2 : decide (x.kind = 2) = false := decide_eq_false q2
          have b5 : (x.kind == 5) = true := by simp [q5]
          have d5 : decide (x.kind = 5) = true := decide_eq_true q5
          replace q2 := Lib.hid q2
          replace q5 := Lib.hid q5
          go_wp2
          go_meet
          case rel => exact ⟨⟨_, rfl, Lib.hid (decide_eq_true (by have := q2.out; have := q5.out; first | omega | simp_all)).symm⟩, hP⟩
        · by_cases q6 : x.kind = 6
          · have b2 : (x.kind == 2) = false := by simp [q2]
            have d2 : decide (x.kind = 2) = false := decide_eq_false q2
            have b5 : (x.kind == 5) = false := by simp [q5]
            have d5 : decide (x.kind = 5) = false := decide_eq_false q5
            have b6 : (x.kind == 6) = true := by simp [q6]
            have d6 : decide (x.kind = 6) = true := decide_eq_true q6
            replace q2 := Lib.hid q2
            replace q5 := Lib.hid q5
            replace q6 := Lib.hid q6
            go_wp2
            go_meet
            case rel => exact ⟨⟨_, rfl, Lib.hid (decide_eq_true (by have := q2.out; have := q5.out; have := q6.out; first | omega | simp_all)).symm⟩, hP⟩
          · have b2 : (x.kind == 2) = false := by simp [q2]
            have d2 : decide (x.kind = 2) = false := decide_eq_false q2
            have b5 : (x.kind == 5) = false := by simp [q5]
            have d5 : decide (x.kind = 5) = false := decide_eq_false q5
            have b6 : (x.kind == 6) = false := by simp [q6]
            have d6 : decide (x.kind = 6) = false := decide_eq_false q6
            replace q2 := Lib.hid q2
            replace q5 := Lib.hid q5
            replace q6 := Lib.hid q6
            go_wp2
            go_meet
            case rel => exact ⟨⟨_, rfl, Lib.hid (decide_eq_false (by have := q2.out; have := q5.out; have := q6.out; first | omega | simp_all)).symm⟩, hP⟩
  clear hP
  clear e0
  obtain ⟨⟨d, rfl, hd⟩, hP⟩ := hcut
  go_upto_if 104 with fail
  go_cut [8] from 9 to 173 (fun out wr => Hid (PutS w1 b t T0 u ls tick w.heap.size x Ax m cx T (pY5 (⟨T, tick, findL ls⟩ : Bk) x X) out wr))
  case first =>
    as_aux_lemma =>
      cases d
      · have hc := of_decide_eq_false hd.out.symm
        replace hc := Lib.hid hc
        clear hd
        go_wp2
        go_meet
        case rel =>
          rw [show (pY5 (⟨T, tick, findL ls⟩ : Bk) x X) = (pY4 (⟨T, tick, findL ls⟩ : Bk) x X) by unfold pY5; rw [if_neg (by have := hc.out; omega)]; simp]
          exact hP
      · have hc := of_decide_eq_true hd.out.symm
        replace hc := Lib.hid hc
        clear hd
        have e11 := (PutS.ev hP.out).c11
        go_wp2_with (first
          | (go_at_call 37; refine (hcn.out _).mono ?_; rintro e w3 ⟨v3, rfl, own3, hb3⟩; obtain ⟨A3, c3, rfl, hH3⟩ := own3.holds; have hP3 := Lib.hid (PutS.later hP.out hb3); have hH3' := Lib.hid hH3; clear own3 hb3 hH3)
          | (at_builtin; refine wpList_append_bytes rfl (.tmp 105) (.tmp 108) 43 rfl w1.heap.size 5 i0 Try.underlying43 hi8 hz0 hz1 hz2 _ (pY4 (⟨T, tick, findL ls⟩ : Bk) x X) rfl (PutS.own hP3.out) A3 _ c3 (enc x.n) rfl hH3'.out (by have := hl4.out; have := hle5.out; omega) (PutS.size hP3.out) ?_; intro v4 w4 hown4 hg4 hat4; have hP4 := Lib.hid (PutS.app hP3.out hown4 hg4 hat4); clear hown4 hg4 hat4))
        go_meet
        case rel =>
          rw [show (pY5 (⟨T, tick, findL ls⟩ : Bk) x X) = (pY4 (⟨T, tick, findL ls⟩ : Bk) x X) ++ enc x.n by unfold pY5; rw [if_pos hc.out]]
          exact hP4
  clear hP hd
  replace hP := hcut
  go_upto_region 17 with fail
  have e0 := (PutS.ev hP.out).c0
  go_cut [117] from 9 to 173 (fun s wr => (∃ d : Bool, s = .bool d ∧ Hid (d = decide (x.kind = 1 ∨ x.kind = 2))) ∧ Hid (PutS w1 b t T0 u ls tick w.heap.size x Ax m cx T (pY5 (⟨T, tick, findL ls⟩ : Bk) x X) u8 wr))
  case first =>
    as_aux_lemma =>
      by_cases q1 : x.kind = 1
      · have b1 : (x.kind == 1) = true := by simp [q1]
        have d1 : decide (x.kind = 1) = true := decide_eq_true q1
        replace q1 := Lib.hid q1
        go_wp2
        go_meet
        case rel => exact ⟨⟨_, rfl, Lib.hid (decide_eq_true (by have := q1.out; first | omega | simp_all)).symm⟩, hP⟩
      · by_cases q2 : x.kind = 2
        · have b1 : (x.kind == 1) = false := by simp [q1]
          have d1 : decide (x.kind = 1) = false := decide_eq_false q1
          have b2 : (x.kind == 2) = true := by simp [q2]
          have d2 : decide (x.kind = 2) = true := decide_eq_true q2
          replace q1 := Lib.hid q1
          replace q2 := Lib.hid q2
          go_wp2
          go_meet
          case rel => exact ⟨⟨_, rfl, Lib.hid (decide_eq_true (by have := q1.out; have := q2.out; first | omega | simp_all)).symm⟩, hP⟩
        · have b1 : (x.kind == 1) = false := by simp [q1]
          have d1 : decide (x.kind = 1) = false := decide_eq_false q1
          have b2 : (x.kind == 2) = false := by simp [q2]
          have d2 : decide (x.kind = 2) = false := decide_eq_false q2
          replace q1 := Lib.hid q1
          replace q2 := Lib.hid q2
          go_wp2
          go_meet
          case rel => exact ⟨⟨_, rfl, Lib.hid (decide_eq_false (by have := q1.out; have := q2.out; first | omega | simp_all)).symm⟩, hP⟩
  clear hP
  clear e0
  obtain ⟨⟨d, rfl, hd⟩, hP⟩ := hcut
  go_upto_if 117 with fail
  go_cut [8] from 9 to 173 (fun out wr => Hid (PutS w1 b t T0 u ls tick w.heap.size x Ax m cx (pT6 (⟨T, tick, findL ls⟩ : Bk) x) (pY6 (⟨T, tick, findL ls⟩ : Bk) x X) out wr))
  case first =>
    as_aux_lemma =>
      cases d
      · have hc := of_decide_eq_false hd.out.symm
        replace hc := Lib.hid hc
        clear hd
        go_wp2
        go_meet
        case rel =>
          rw [show (pT6 (⟨T, tick, findL ls⟩ : Bk) x) = T by unfold pT6; rw [if_neg (by have := hc.out; omega)]]
          rw [show (pY6 (⟨T, tick, findL ls⟩ : Bk) x X) = (pY5 (⟨T, tick, findL ls⟩ : Bk) x X) by unfold pY6; rw [if_neg (by have := hc.out; omega)]; simp]
          exact hP
      · have hc := of_decide_eq_true hd.out.symm
        replace hc := Lib.hid hc
        clear hd
        go_upto_region 18 with fail
        refine wp_region_tail 15 17 (by decide) (by kernel_rfl) (RInv 174 [118, 119, 120, 121, 122, 123, 124, 125, 126, 127, 128, 129, 130, 131, 132] _ (f18e b t w.heap.size u8 x.me x.url) { w1 with heap := #[] } (IQF (PutK w1 b t T0 u ls tick w.heap.size x Ax m cx T (putL T x.me.data.toList) (putL (putL T x.me.data.toList) x.url.data.toList) (pY5 (⟨T, tick, findL ls⟩ : Bk) x X) ((pY5 (⟨T, tick, findL ls⟩ : Bk) x X) ++ putB T x.me.data.toList) (((pY5 (⟨T, tick, findL ls⟩ : Bk) x X) ++ putB T x.me.data.toList) ++ putB (putL T x.me.data.toList) x.url.data.toList)) (fun _ _ => True) (fun _ _ => True) u8 11 129 98 173 14 132 97 172)) (by kernel_rfl) (by kernel_rfl) (RInv.start rfl (IQF.start (PutS.later hP.out (Below.refl _ _).drew)) ((PutS.none hP.out).drew)) ?_ ?_
        · intro i hi D a wy hI hcl hnd hpre
          have hi' : i < 15 := hi
          have hcase : i = 0 ∨ i = 1 ∨ i = 2 ∨ i = 3 ∨ i = 4 ∨ i = 5 ∨ i = 6 ∨ i = 7 ∨ i = 8 ∨ i = 9 ∨ i = 10 ∨ i = 11 ∨ i = 12 ∨ i = 13 ∨ i = 14 := by omega
          have hF := hI.fact
          rcases hcase with rfl | rfl | rfl | rfl | rfl | rfl | rfl | rfl | rfl | rfl | rfl | rfl | rfl | rfl | rfl
          · exact wpOp_move rfl (wanted_free rfl) _ rfl _ (hI.same 0 (by decide)) (hI.put (by decide) (by decide) (fun j _ _ h => f18e_any h) rfl (hI.more.pure _ (by decide) (by decide)) (hI.below))
          · exact wpOp_nil9 rfl (wanted_free rfl) _ rfl _ (hF 0 (hpre 0 (by kernel_rfl))) (hI.put (by decide) (by decide) (fun j _ _ h => f18e_any h) rfl (hI.more.pure _ (by decide) (by decide)) (hI.below))
          · exact wpOp_field rfl (wanted_free rfl) _ _ _ rfl _ _ (hF 1 (hpre 1 (by kernel_rfl))) (run_fieldB0 wy b) (hI.put (by decide) (by decide) (fun j _ _ h => f18e_any h) rfl (hI.more.pure _ (by decide) (by decide)) (hI.below))
          · exact wpOp_load rfl (wanted_free rfl) _ _ rfl _ _ (hF 2 (hpre 2 (by kernel_rfl))) (run_loadT wy b 0 t (iqf_book hI.more).1) (hI.put (by decide) (by decide) (fun j _ _ h => f18e_any h) rfl (hI.more.pure _ (by decide) (by decide)) (hI.below))
          · exact wpOp_move rfl (wanted_free rfl) _ rfl _ (hI.same 0 (by decide)) (hI.put (by decide) (by decide) (fun j _ _ h => f18e_any h) rfl (hI.more.pure _ (by decide) (by decide)) (hI.below))
          · exact wpOp_nil9 rfl (wanted_free rfl) _ rfl _ (hF 4 (hpre 4 (by kernel_rfl))) (hI.put (by decide) (by decide) (fun j _ _ h => f18e_any h) rfl (hI.more.pure _ (by decide) (by decide)) (hI.below))
          · exact wpOp_field rfl (wanted_free rfl) _ _ _ rfl _ _ (hF 5 (hpre 5 (by kernel_rfl))) (run_fieldB0 wy b) (hI.put (by decide) (by decide) (fun j _ _ h => f18e_any h) rfl (hI.more.pure _ (by decide) (by decide)) (hI.below))
          · exact wpOp_load rfl (wanted_free rfl) _ _ rfl _ _ (hF 6 (hpre 6 (by kernel_rfl))) (run_loadT wy b 0 t (iqf_book hI.more).1) (hI.put (by decide) (by decide) (fun j _ _ h => f18e_any h) rfl (hI.more.pure _ (by decide) (by decide)) (hI.below))
          · exact wpOp_move rfl (wanted_free rfl) _ rfl _ (hI.same 8 (by decide)) (hI.put (by decide) (by decide) (fun j _ _ h => f18e_any h) rfl (hI.more.pure _ (by decide) (by decide)) (hI.below))
          · exact wpOp_field rfl (wanted_free rfl) _ _ _ rfl _ _ (hI.same 5 (by decide)) (run_fieldE_3 wy w.heap.size) (hI.put (by decide) (by decide) (fun j _ _ h => f18e_any h) rfl (hI.more.pure _ (by decide) (by decide)) (hI.below))
          · exact wpOp_load rfl (wanted_free rfl) _ _ rfl _ _ (hF 9 (hpre 9 (by kernel_rfl))) (run_load9 wy w.heap.size 3 x.me (iqf_ev hI.more).c3) (hI.put (by decide) (by decide) (fun j _ _ h => f18e_any h) rfl (hI.more.pure _ (by decide) (by decide)) (hI.below))
          · have hK := hI.more.n1 hnd (fun h9 => hnd (hcl 14 h9 11 (by kernel_rfl)))
            exact wpOp_call3t rfl (wanted_free rfl) 38 _ _ _ _ rfl _ _ _ (hF 7 (hpre 7 (by kernel_rfl))) (hF 8 (hpre 8 (by kernel_rfl))) (hF 10 (hpre 10 (by kernel_rfl))) (enters_putR _ _) (PutS.callPut hK x.me (by show T.length ≤ _; have := hT'.out; omega) (by show (pY5 (⟨T, tick, findL ls⟩ : Bk) x X).length + x.me.data.toList.length ≤ _; have := hl5.out; have := htx.out.1; omega)) (fun e w' hq => by
              obtain ⟨r, rfl, hS⟩ := hq
              exact ⟨_, rfl, (hI.put (by decide) (by decide) (fun j _ _ h => f18e_any h) trivial (IQF.first hS (fun h9 => hnd (hcl 14 h9 11 (by kernel_rfl))) (fun h9 => absurd (hI.few 97 h9) (by decide)) (by rw [hI.size]; decide) (by decide) (by decide)) (PutS.none hS))⟩)
          · exact wpOp_field rfl (wanted_free rfl) _ _ _ rfl _ _ (hI.same 5 (by decide)) (run_fieldE_4 wy w.heap.size) (hI.put (by decide) (by decide) (fun j _ _ h => f18e_any h) rfl (hI.more.pure _ (by decide) (by decide)) (hI.below))
          · exact wpOp_load rfl (wanted_free rfl) _ _ rfl _ _ (hF 12 (hpre 12 (by kernel_rfl))) (run_load9 wy w.heap.size 4 x.url (iqf_ev hI.more).c4) (hI.put (by decide) (by decide) (fun j _ _ h => f18e_any h) rfl (hI.more.pure _ (by decide) (by decide)) (hI.below))
          · have hK := hI.more.d1 (hpre 11 (by kernel_rfl)) hnd
            exact wpOp_call3t rfl (wanted_free rfl) 38 _ _ _ _ rfl _ _ _ (hF 3 (hpre 3 (by kernel_rfl))) rfl (hF 13 (hpre 13 (by kernel_rfl))) (enters_putR _ _) (PutS.callPut hK x.url (by show (putL T x.me.data.toList).length ≤ _; have := hT'.out; have := htx.out.2.2.2.2.1; omega) (by show ((pY5 (⟨T, tick, findL ls⟩ : Bk) x X) ++ putB T x.me.data.toList).length + x.url.data.toList.length ≤ _; rw [List.length_append]; have := hl5.out; have := htx.out.1; have := htx.out.2.1; have := htx.out.2.2.2.2.2; omega)) (fun e w' hq => by
              obtain ⟨r, rfl, hS⟩ := hq
              exact ⟨_, rfl, (hI.put (by decide) (by decide) (fun j _ _ h => f18e_any h) trivial (IQF.second hS (hpre 11 (by kernel_rfl)) (by rw [hI.size]; decide)) (PutS.none hS))⟩)
        · intro D a w5 hI hall
          have hS := Lib.hid (show PutS w1 b t T0 u ls tick w.heap.size x Ax m cx (putL (putL T x.me.data.toList) x.url.data.toList) (((pY5 (⟨T, tick, findL ls⟩ : Bk) x X) ++ putB T x.me.data.toList) ++ putB (putL T x.me.data.toList) x.url.data.toList) (a.eval (.tmp 132)) w5 from hI.more.d2 (hall 14 (by decide)))
          have hsz := hI.size
          have hdone := hI.done (by decide) rfl (fun i hi => hall i hi)
          clear hI hall

          show wpOps _ _ _ [15] a w5
          rw [wpOps_cons]
          refine wpOp_assign rfl (wanted_free rfl) _ rfl (a.eval (.tmp 132)) rfl ?_
          show wpOps _ _ _ _ (a.put (some 8) (a.eval (.tmp 132))) w5
          rw [wpOps]
          obtain ⟨fs, ha, _⟩ := hdone
          have hN : ∀ t ∈ [118, 119, 120, 121, 122, 123, 124, 125, 126, 127, 128, 129, 130, 131, 132], t < 174 := by decide
          rw [putAll_eval20 ha (by decide) (fun t ht => hN t ht) (t := 132) (by decide)] at hS ⊢
          clear hN
          subst ha
          simp only [putAll, List.map_cons, List.map_nil, Act.put, List.setIfInBounds_toArray, List.set_cons_zero, List.set_cons_succ]
          generalize fs 118 = y118 at *
          generalize fs 119 = y119 at *
          generalize fs 120 = y120 at *
          generalize fs 121 = y121 at *
          generalize fs 122 = y122 at *
          generalize fs 123 = y123 at *
          generalize fs 124 = y124 at *
          generalize fs 125 = y125 at *
          generalize fs 126 = y126 at *
          generalize fs 127 = y127 at *
          generalize fs 128 = y128 at *
          generalize fs 129 = y129 at *
          generalize fs 130 = y130 at *
          generalize fs 131 = y131 at *
          generalize fs 132 = y132 at *
          go_wp2_with fail
          go_meet
          case rel =>
            rw [show pT6 (⟨T, tick, findL ls⟩ : Bk) x = (putL (putL T x.me.data.toList) x.url.data.toList) by unfold pT6; rw [if_pos hc.out], show (pY6 (⟨T, tick, findL ls⟩ : Bk) x X) = (((pY5 (⟨T, tick, findL ls⟩ : Bk) x X) ++ putB T x.me.data.toList) ++ putB (putL T x.me.data.toList) x.url.data.toList) by unfold pY6; rw [if_pos hc.out, ← List.append_assoc]]
            exact hS
  clear hP hd
  replace hP := hcut
  go_upto_region 19 with fail
  have e0 := (PutS.ev hP.out).c0
  go_cut [135] from 9 to 173 (fun s wr => (∃ d : Bool, s = .bool d ∧ Hid (d = decide (x.kind = 1))) ∧ Hid (PutS w1 b t T0 u ls tick w.heap.size x Ax m cx (pT6 (⟨T, tick, findL ls⟩ : Bk) x) (pY6 (⟨T, tick, findL ls⟩ : Bk) x X) u8 wr))
  case first =>
    as_aux_lemma =>
      by_cases q1 : x.kind = 1
      · have b1 : (x.kind == 1) = true := by simp [q1]
        have d1 : decide (x.kind = 1) = true := decide_eq_true q1
        replace q1 := Lib.hid q1
        go_wp2
        go_meet
        case rel => exact ⟨⟨_, rfl, Lib.hid (decide_eq_true (by have := q1.out; first | omega | simp_all)).symm⟩, hP⟩
      · have b1 : (x.kind == 1) = false := by simp [q1]
        have d1 : decide (x.kind = 1) = false := decide_eq_false q1
        replace q1 := Lib.hid q1
        go_wp2
        go_meet
        case rel => exact ⟨⟨_, rfl, Lib.hid (decide_eq_false (by have := q1.out; first | omega | simp_all)).symm⟩, hP⟩
  clear hP
  clear e0
  obtain ⟨⟨d, rfl, hd⟩, hP⟩ := hcut
  go_upto_if 135 with fail
  go_cut [8] from 9 to 173 (fun out wr => Hid (PutS w1 b t T0 u ls tick w.heap.size x Ax m cx (pT7 (⟨T, tick, findL ls⟩ : Bk) x) (pY7 (⟨T, tick, findL ls⟩ : Bk) x X) out wr))
  case first =>
    as_aux_lemma =>
      cases d
      · have hc := of_decide_eq_false hd.out.symm
        replace hc := Lib.hid hc
        clear hd
        go_wp2
        go_meet
        case rel =>
          rw [show (pT7 (⟨T, tick, findL ls⟩ : Bk) x) = (pT6 (⟨T, tick, findL ls⟩ : Bk) x) by unfold pT7; rw [if_neg (by have := hc.out; omega)]]
          rw [show (pY7 (⟨T, tick, findL ls⟩ : Bk) x X) = (pY6 (⟨T, tick, findL ls⟩ : Bk) x X) by unfold pY7; rw [if_neg (by have := hc.out; omega)]; simp]
          exact hP
      · have hc := of_decide_eq_true hd.out.symm
        replace hc := Lib.hid hc
        clear hd
        go_upto_region 20 with fail
        refine wp_region_tail 8 10 (by decide) (by kernel_rfl) (RInv 174 [136, 137, 138, 139, 140, 141, 142, 143] _ (f20e b t w.heap.size u8 x.no) { w1 with heap := #[] } (IQF (PutK w1 b t T0 u ls tick w.heap.size x Ax m cx (pT6 (⟨T, tick, findL ls⟩ : Bk) x) (putL (pT6 (⟨T, tick, findL ls⟩ : Bk) x) x.no.data.toList) (putL (pT6 (⟨T, tick, findL ls⟩ : Bk) x) x.no.data.toList) (pY6 (⟨T, tick, findL ls⟩ : Bk) x X) ((pY6 (⟨T, tick, findL ls⟩ : Bk) x X) ++ putB (pT6 (⟨T, tick, findL ls⟩ : Bk) x) x.no.data.toList) []) (fun _ _ => True) (fun _ _ => True) u8 7 143 98 173 99 171 97 172)) (by kernel_rfl) (by kernel_rfl) (RInv.start rfl (IQF.start (PutS.later hP.out (Below.refl _ _).drew)) ((PutS.none hP.out).drew)) ?_ ?_
        · intro i hi D a wy hI hcl hnd hpre
          have hi' : i < 8 := hi
          have hcase : i = 0 ∨ i = 1 ∨ i = 2 ∨ i = 3 ∨ i = 4 ∨ i = 5 ∨ i = 6 ∨ i = 7 := by omega
          have hF := hI.fact
          rcases hcase with rfl | rfl | rfl | rfl | rfl | rfl | rfl | rfl
          · exact wpOp_move rfl (wanted_free rfl) _ rfl _ (hI.same 0 (by decide)) (hI.put (by decide) (by decide) (fun j _ _ h => f20e_any h) rfl (hI.more.pure _ (by decide) (by decide)) (hI.below))
          · exact wpOp_nil9 rfl (wanted_free rfl) _ rfl _ (hF 0 (hpre 0 (by kernel_rfl))) (hI.put (by decide) (by decide) (fun j _ _ h => f20e_any h) rfl (hI.more.pure _ (by decide) (by decide)) (hI.below))
          · exact wpOp_field rfl (wanted_free rfl) _ _ _ rfl _ _ (hF 1 (hpre 1 (by kernel_rfl))) (run_fieldB0 wy b) (hI.put (by decide) (by decide) (fun j _ _ h => f20e_any h) rfl (hI.more.pure _ (by decide) (by decide)) (hI.below))
          · exact wpOp_load rfl (wanted_free rfl) _ _ rfl _ _ (hF 2 (hpre 2 (by kernel_rfl))) (run_loadT wy b 0 t (iqf_book hI.more).1) (hI.put (by decide) (by decide) (fun j _ _ h => f20e_any h) rfl (hI.more.pure _ (by decide) (by decide)) (hI.below))
          · exact wpOp_move rfl (wanted_free rfl) _ rfl _ (hI.same 8 (by decide)) (hI.put (by decide) (by decide) (fun j _ _ h => f20e_any h) rfl (hI.more.pure _ (by decide) (by decide)) (hI.below))
          · exact wpOp_field rfl (wanted_free rfl) _ _ _ rfl _ _ (hI.same 5 (by decide)) (run_fieldE_10 wy w.heap.size) (hI.put (by decide) (by decide) (fun j _ _ h => f20e_any h) rfl (hI.more.pure _ (by decide) (by decide)) (hI.below))
          · exact wpOp_load rfl (wanted_free rfl) _ _ rfl _ _ (hF 5 (hpre 5 (by kernel_rfl))) (run_load9 wy w.heap.size 10 x.no (iqf_ev hI.more).c10) (hI.put (by decide) (by decide) (fun j _ _ h => f20e_any h) rfl (hI.more.pure _ (by decide) (by decide)) (hI.below))
          · have hK := hI.more.n1 hnd (fun h9 => absurd (hI.few 99 h9) (by decide))
            exact wpOp_call3t rfl (wanted_free rfl) 38 _ _ _ _ rfl _ _ _ (hF 3 (hpre 3 (by kernel_rfl))) (hF 4 (hpre 4 (by kernel_rfl))) (hF 6 (hpre 6 (by kernel_rfl))) (enters_putR _ _) (PutS.callPut hK x.no (by show (pT6 (⟨T, tick, findL ls⟩ : Bk) x).length ≤ _; have := hT'.out; have := hl6.out.2.1; omega) (by show (pY6 (⟨T, tick, findL ls⟩ : Bk) x X).length + x.no.data.toList.length ≤ _; have := hl6.out.1; have := htx.out.2.2.1; omega)) (fun e w' hq => by
              obtain ⟨r, rfl, hS⟩ := hq
              exact ⟨_, rfl, (hI.put (by decide) (by decide) (fun j _ _ h => f20e_any h) trivial (IQF.first hS (fun h9 => absurd (hI.few 99 h9) (by decide)) (fun h9 => absurd (hI.few 97 h9) (by decide)) (by rw [hI.size]; decide) (by decide) (by decide)) (PutS.none hS))⟩)
        · intro D a w5 hI hall
          have hS := Lib.hid (show PutS w1 b t T0 u ls tick w.heap.size x Ax m cx (putL (pT6 (⟨T, tick, findL ls⟩ : Bk) x) x.no.data.toList) ((pY6 (⟨T, tick, findL ls⟩ : Bk) x X) ++ putB (pT6 (⟨T, tick, findL ls⟩ : Bk) x) x.no.data.toList) (a.eval (.tmp 143)) w5 from hI.more.d1 (hall 7 (by decide)) (fun h9 => absurd (hI.few 99 h9) (by decide)))
          have hsz := hI.size
          have hdone := hI.done (by decide) rfl (fun i hi => hall i hi)
          clear hI hall

          show wpOps _ _ _ [8] a w5
          rw [wpOps_cons]
          refine wpOp_assign rfl (wanted_free rfl) _ rfl (a.eval (.tmp 143)) rfl ?_
          show wpOps _ _ _ _ (a.put (some 8) (a.eval (.tmp 143))) w5
          rw [wpOps]
          obtain ⟨fs, ha, _⟩ := hdone
          have hN : ∀ t ∈ [136, 137, 138, 139, 140, 141, 142, 143], t < 174 := by decide
          rw [putAll_eval20 ha (by decide) (fun t ht => hN t ht) (t := 143) (by decide)] at hS ⊢
          clear hN
          subst ha
          simp only [putAll, List.map_cons, List.map_nil, Act.put, List.setIfInBounds_toArray, List.set_cons_zero, List.set_cons_succ]
          generalize fs 136 = y136 at *
          generalize fs 137 = y137 at *
          generalize fs 138 = y138 at *
          generalize fs 139 = y139 at *
          generalize fs 140 = y140 at *
          generalize fs 141 = y141 at *
          generalize fs 142 = y142 at *
          generalize fs 143 = y143 at *
          go_wp2_with fail
          go_meet
          case rel =>
            rw [show pT7 (⟨T, tick, findL ls⟩ : Bk) x = (putL (pT6 (⟨T, tick, findL ls⟩ : Bk) x) x.no.data.toList) by unfold pT7; rw [if_pos hc.out], show (pY7 (⟨T, tick, findL ls⟩ : Bk) x X) = ((pY6 (⟨T, tick, findL ls⟩ : Bk) x X) ++ putB (pT6 (⟨T, tick, findL ls⟩ : Bk) x) x.no.data.toList) by unfold pY7; rw [if_pos hc.out]]
            exact hS
  clear hP hd
  replace hP := hcut
  go_upto_region 21 with fail
  have e0 := (PutS.ev hP.out).c0
  go_cut [146] from 9 to 173 (fun s wr => (∃ d : Bool, s = .bool d ∧ Hid (d = decide (x.kind ≤ 3))) ∧ Hid (PutS w1 b t T0 u ls tick w.heap.size x Ax m cx (pT7 (⟨T, tick, findL ls⟩ : Bk) x) (pY7 (⟨T, tick, findL ls⟩ : Bk) x X) u8 wr))
  case first =>
    as_aux_lemma =>
      by_cases q2 : x.kind ≤ 3
      · have d2 : decide (x.kind ≤ 3) = true := decide_eq_true q2
        replace q2 := Lib.hid q2
        go_wp2
        go_meet
        case rel => exact ⟨⟨_, rfl, Lib.hid (decide_eq_true q2.out).symm⟩, hP⟩
      · have d2 : decide (x.kind ≤ 3) = false := decide_eq_false q2
        replace q2 := Lib.hid q2
        go_wp2
        go_meet
        case rel => exact ⟨⟨_, rfl, Lib.hid (decide_eq_false (by have := q2.out; omega)).symm⟩, hP⟩
  clear hP
  clear e0
  obtain ⟨⟨d, rfl, hd⟩, hP⟩ := hcut
  go_upto_if 146 with fail
  go_cut [8] from 9 to 173 (fun out wr => Hid (PutS w1 b t T0 u ls tick w.heap.size x Ax m cx (pT8 (⟨T, tick, findL ls⟩ : Bk) x) (pY8 (⟨T, tick, findL ls⟩ : Bk) x X) out wr))
  case first =>
    as_aux_lemma =>
      cases d
      · have hc := of_decide_eq_false hd.out.symm
        replace hc := Lib.hid hc
        clear hd
        go_wp2
        go_meet
        case rel =>
          rw [show (pT8 (⟨T, tick, findL ls⟩ : Bk) x) = (pT7 (⟨T, tick, findL ls⟩ : Bk) x) by unfold pT8; rw [if_neg (by have := hc.out; omega)]]
          rw [show (pY8 (⟨T, tick, findL ls⟩ : Bk) x X) = (pY7 (⟨T, tick, findL ls⟩ : Bk) x X) by unfold pY8; rw [if_neg (by have := hc.out; omega)]; simp]
          exact hP
      · have hc := of_decide_eq_true hd.out.symm
        replace hc := Lib.hid hc
        clear hd
        go_upto_region 22 with fail
        refine wp_region_tail 8 10 (by decide) (by kernel_rfl) (RInv 174 [147, 148, 149, 150, 151, 152, 153, 154] _ (f22e b t w.heap.size u8 x.body) { w1 with heap := #[] } (IQF (PutK w1 b t T0 u ls tick w.heap.size x Ax m cx (pT7 (⟨T, tick, findL ls⟩ : Bk) x) (putL (pT7 (⟨T, tick, findL ls⟩ : Bk) x) x.body.data.toList) (putL (pT7 (⟨T, tick, findL ls⟩ : Bk) x) x.body.data.toList) (pY7 (⟨T, tick, findL ls⟩ : Bk) x X) ((pY7 (⟨T, tick, findL ls⟩ : Bk) x X) ++ putB (pT7 (⟨T, tick, findL ls⟩ : Bk) x) x.body.data.toList) []) (fun _ _ => True) (fun _ _ => True) u8 7 154 98 173 99 171 97 172)) (by kernel_rfl) (by kernel_rfl) (RInv.start rfl (IQF.start (PutS.later hP.out (Below.refl _ _).drew)) ((PutS.none hP.out).drew)) ?_ ?_
        · intro i hi D a wy hI hcl hnd hpre
          have hi' : i < 8 := hi
          have hcase : i = 0 ∨ i = 1 ∨ i = 2 ∨ i = 3 ∨ i = 4 ∨ i = 5 ∨ i = 6 ∨ i = 7 := by omega
          have hF := hI.fact
          rcases hcase with rfl | rfl | rfl | rfl | rfl | rfl | rfl | rfl
          · exact wpOp_move rfl (wanted_free rfl) _ rfl _ (hI.same 0 (by decide)) (hI.put (by decide) (by decide) (fun j _ _ h => f22e_any h) rfl (hI.more.pure _ (by decide) (by decide)) (hI.below))
          · exact wpOp_nil9 rfl (wanted_free rfl) _ rfl _ (hF 0 (hpre 0 (by kernel_rfl))) (hI.put (by decide) (by decide) (fun j _ _ h => f22e_any h) rfl (hI.more.pure _ (by decide) (by decide)) (hI.below))
          · exact wpOp_field rfl (wanted_free rfl) _ _ _ rfl _ _ (hF 1 (hpre 1 (by kernel_rfl))) (run_fieldB0 wy b) (hI.put (by decide) (by decide) (fun j _ _ h => f22e_any h) rfl (hI.more.pure _ (by decide) (by decide)) (hI.below))
          · exact wpOp_load rfl (wanted_free rfl) _ _ rfl _ _ (hF 2 (hpre 2 (by kernel_rfl))) (run_loadT wy b 0 t (iqf_book hI.more).1) (hI.put (by decide) (by decide) (fun j _ _ h => f22e_any h) rfl (hI.more.pure _ (by decide) (by decide)) (hI.below))
          · exact wpOp_move rfl (wanted_free rfl) _ rfl _ (hI.same 8 (by decide)) (hI.put (by decide) (by decide) (fun j _ _ h => f22e_any h) rfl (hI.more.pure _ (by decide) (by decide)) (hI.below))
          · exact wpOp_field rfl (wanted_free rfl) _ _ _ rfl _ _ (hI.same 5 (by decide)) (run_fieldE_6 wy w.heap.size) (hI.put (by decide) (by decide) (fun j _ _ h => f22e_any h) rfl (hI.more.pure _ (by decide) (by decide)) (hI.below))
          · exact wpOp_load rfl (wanted_free rfl) _ _ rfl _ _ (hF 5 (hpre 5 (by kernel_rfl))) (run_load9 wy w.heap.size 6 x.body (iqf_ev hI.more).c6) (hI.put (by decide) (by decide) (fun j _ _ h => f22e_any h) rfl (hI.more.pure _ (by decide) (by decide)) (hI.below))
          · have hK := hI.more.n1 hnd (fun h9 => absurd (hI.few 99 h9) (by decide))
            exact wpOp_call3t rfl (wanted_free rfl) 38 _ _ _ _ rfl _ _ _ (hF 3 (hpre 3 (by kernel_rfl))) (hF 4 (hpre 4 (by kernel_rfl))) (hF 6 (hpre 6 (by kernel_rfl))) (enters_putR _ _) (PutS.callPut hK x.body (by show (pT7 (⟨T, tick, findL ls⟩ : Bk) x).length ≤ _; have := hT'.out; have := hl6.out.2.2.2; omega) (by show (pY7 (⟨T, tick, findL ls⟩ : Bk) x X).length + x.body.data.toList.length ≤ _; have := hl6.out.2.2.1; have := htx.out.2.2.2.1; omega)) (fun e w' hq => by
              obtain ⟨r, rfl, hS⟩ := hq
              exact ⟨_, rfl, (hI.put (by decide) (by decide) (fun j _ _ h => f22e_any h) trivial (IQF.first hS (fun h9 => absurd (hI.few 99 h9) (by decide)) (fun h9 => absurd (hI.few 97 h9) (by decide)) (by rw [hI.size]; decide) (by decide) (by decide)) (PutS.none hS))⟩)
        · intro D a w5 hI hall
          have hS := Lib.hid (show PutS w1 b t T0 u ls tick w.heap.size x Ax m cx (putL (pT7 (⟨T, tick, findL ls⟩ : Bk) x) x.body.data.toList) ((pY7 (⟨T, tick, findL ls⟩ : Bk) x X) ++ putB (pT7 (⟨T, tick, findL ls⟩ : Bk) x) x.body.data.toList) (a.eval (.tmp 154)) w5 from hI.more.d1 (hall 7 (by decide)) (fun h9 => absurd (hI.few 99 h9) (by decide)))
          have hsz := hI.size
          have hdone := hI.done (by decide) rfl (fun i hi => hall i hi)
          clear hI hall

          show wpOps _ _ _ [8] a w5
          rw [wpOps_cons]
          refine wpOp_assign rfl (wanted_free rfl) _ rfl (a.eval (.tmp 154)) rfl ?_
          show wpOps _ _ _ _ (a.put (some 8) (a.eval (.tmp 154))) w5
          rw [wpOps]
          obtain ⟨fs, ha, _⟩ := hdone
          have hN : ∀ t ∈ [147, 148, 149, 150, 151, 152, 153, 154], t < 174 := by decide
          rw [putAll_eval20 ha (by decide) (fun t ht => hN t ht) (t := 154) (by decide)] at hS ⊢
          clear hN
          subst ha
          simp only [putAll, List.map_cons, List.map_nil, Act.put, List.setIfInBounds_toArray, List.set_cons_zero, List.set_cons_succ]
          generalize fs 147 = y147 at *
          generalize fs 148 = y148 at *
          generalize fs 149 = y149 at *
          generalize fs 150 = y150 at *
          generalize fs 151 = y151 at *
          generalize fs 152 = y152 at *
          generalize fs 153 = y153 at *
          generalize fs 154 = y154 at *
          clear hP
          have hP := hS
          clear hS
          go_upto_region 23 with fail
          refine wp_region_tail 15 17 (by decide) (by kernel_rfl) (RInv 174 [155, 156, 157, 158, 159, 160, 161, 162, 163, 164, 165, 166, 167, 168, 169] _ (f23e b t w.heap.size y154 x.ses x.kind Ax m cx) { w1 with heap := #[] } (IQF (PutK w1 b t T0 u ls tick w.heap.size x Ax m cx (putL (pT7 (⟨T, tick, findL ls⟩ : Bk) x) x.body.data.toList) (dputL (putL (pT7 (⟨T, tick, findL ls⟩ : Bk) x) x.body.data.toList) (findL ls x.ses (decide (x.kind = 3))) x.hs) (dputL (putL (pT7 (⟨T, tick, findL ls⟩ : Bk) x) x.body.data.toList) (findL ls x.ses (decide (x.kind = 3))) x.hs) ((pY7 (⟨T, tick, findL ls⟩ : Bk) x X) ++ putB (pT7 (⟨T, tick, findL ls⟩ : Bk) x) x.body.data.toList) (((pY7 (⟨T, tick, findL ls⟩ : Bk) x X) ++ putB (pT7 (⟨T, tick, findL ls⟩ : Bk) x) x.body.data.toList) ++ dputB (putL (pT7 (⟨T, tick, findL ls⟩ : Bk) x) x.body.data.toList) (findL ls x.ses (decide (x.kind = 3))) x.hs) []) (ReadsHs (findL ls x.ses (decide (x.kind = 3)))) (fun _ _ => True) y154 14 169 11 166 99 171 97 172)) (by kernel_rfl) (by kernel_rfl) (RInv.start rfl (IQF.start (PutS.later hP.out (Below.refl _ _).drew)) ((PutS.none hP.out).drew)) ?_ ?_
          · intro i hi D a wy hI hcl hnd hpre
            have hi' : i < 15 := hi
            have hcase : i = 0 ∨ i = 1 ∨ i = 2 ∨ i = 3 ∨ i = 4 ∨ i = 5 ∨ i = 6 ∨ i = 7 ∨ i = 8 ∨ i = 9 ∨ i = 10 ∨ i = 11 ∨ i = 12 ∨ i = 13 ∨ i = 14 := by omega
            have hF := hI.fact
            rcases hcase with rfl | rfl | rfl | rfl | rfl | rfl | rfl | rfl | rfl | rfl | rfl | rfl | rfl | rfl | rfl
            · exact wpOp_move rfl (wanted_free rfl) _ rfl _ (hI.same 8 (by decide)) (hI.put (by decide) (by decide) (fun j _ _ h => f23e_any h) rfl (hI.more.pure _ (by decide) (by decide)) (hI.below))
            · exact wpOp_move rfl (wanted_free rfl) _ rfl _ (hI.same 0 (by decide)) (hI.put (by decide) (by decide) (fun j _ _ h => f23e_any h) rfl (hI.more.pure _ (by decide) (by decide)) (hI.below))
            · exact wpOp_nil9 rfl (wanted_free rfl) _ rfl _ (hF 1 (hpre 1 (by kernel_rfl))) (hI.put (by decide) (by decide) (fun j _ _ h => f23e_any h) rfl (hI.more.pure _ (by decide) (by decide)) (hI.below))
            · exact wpOp_field rfl (wanted_free rfl) _ _ _ rfl _ _ (hF 2 (hpre 2 (by kernel_rfl))) (run_fieldB0 wy b) (hI.put (by decide) (by decide) (fun j _ _ h => f23e_any h) rfl (hI.more.pure _ (by decide) (by decide)) (hI.below))
            · exact wpOp_load rfl (wanted_free rfl) _ _ rfl _ _ (hF 3 (hpre 3 (by kernel_rfl))) (run_loadT wy b 0 t (iqf_book hI.more).1) (hI.put (by decide) (by decide) (fun j _ _ h => f23e_any h) rfl (hI.more.pure _ (by decide) (by decide)) (hI.below))
            · exact wpOp_move rfl (wanted_free rfl) _ rfl _ (hI.same 0 (by decide)) (hI.put (by decide) (by decide) (fun j _ _ h => f23e_any h) rfl (hI.more.pure _ (by decide) (by decide)) (hI.below))
            · exact wpOp_field rfl (wanted_free rfl) _ _ _ rfl _ _ (hI.same 5 (by decide)) (run_fieldE_1 wy w.heap.size) (hI.put (by decide) (by decide) (fun j _ _ h => f23e_any h) rfl (hI.more.pure _ (by decide) (by decide)) (hI.below))
            · exact wpOp_load rfl (wanted_free rfl) _ _ rfl _ _ (hF 6 (hpre 6 (by kernel_rfl))) (run_loadI9 wy w.heap.size 1 x.ses (iqf_ev hI.more).c1) (hI.put (by decide) (by decide) (fun j _ _ h => f23e_any h) rfl (hI.more.pure _ (by decide) (by decide)) (hI.below))
            · exact wpOp_field rfl (wanted_free rfl) _ _ _ rfl _ _ (hI.same 5 (by decide)) (run_fieldE0 wy w.heap.size) (hI.put (by decide) (by decide) (fun j _ _ h => f23e_any h) rfl (hI.more.pure _ (by decide) (by decide)) (hI.below))
            · exact wpOp_load rfl (wanted_free rfl) _ _ rfl _ _ (hF 8 (hpre 8 (by kernel_rfl))) (run_loadI9 wy w.heap.size 0 x.kind (iqf_ev hI.more).c0) (hI.put (by decide) (by decide) (fun j _ _ h => f23e_any h) rfl (hI.more.pure _ (by decide) (by decide)) (hI.below))
            · exact wpOp_bin rfl (wanted_free rfl) _ _ _ _ _ rfl _ _ _ (hF 9 (hpre 9 (by kernel_rfl))) rfl (run_eq3 wy x.kind) (hI.put (by decide) (by decide) (fun j _ _ h => f23e_any h) rfl (hI.more.pure _ (by decide) (by decide)) (hI.below))
            · have hK := hI.more.n1 (fun h9 => hnd (hcl 14 h9 11 (by kernel_rfl))) (fun h9 => absurd (hI.few 99 h9) (by decide))
              exact wpOp_call3t rfl (wanted_free rfl) 40 _ _ _ _ rfl _ _ _ (hF 5 (hpre 5 (by kernel_rfl))) (hF 7 (hpre 7 (by kernel_rfl))) (hF 10 (hpre 10 (by kernel_rfl))) (enters_list21 _ _) (PutS.callList hK x.ses (decide (x.kind = 3)) hls'.out) (fun e w' hq => by
                obtain ⟨⟨Aw, nw, cw, rfl, hd9⟩, rfl⟩ := hq
                exact ⟨_, rfl, (hI.put (by decide) (by decide) (fun j _ _ h => f23e_any h) trivial (IQF.call1 hI.more (fun k v hk => hk) (fun v hv => hv) ⟨Aw, nw, cw, rfl, hd9⟩ (by rw [hI.size]; decide) (by decide) (by decide)) (hI.below))⟩)
            · exact wpOp_field rfl (wanted_free rfl) _ _ _ rfl _ _ (hI.same 5 (by decide)) (run_fieldE_5 wy w.heap.size) (hI.put (by decide) (by decide) (fun j _ _ h => f23e_any h) rfl (hI.more.pure _ (by decide) (by decide)) (hI.below))
            · exact wpOp_load rfl (wanted_free rfl) _ _ rfl _ _ (hF 12 (hpre 12 (by kernel_rfl))) (run_loadHs wy w.heap.size 5 Ax m cx (iqf_ev hI.more).c5) (hI.put (by decide) (by decide) (fun j _ _ h => f23e_any h) rfl (hI.more.pure _ (by decide) (by decide)) (hI.below))
            · have hK := hI.more.n1 hnd (fun h9 => absurd (hI.few 99 h9) (by decide))
              obtain ⟨Aw, nw, cw, e166, hd9⟩ := hI.more.e1 (hpre 11 (by kernel_rfl)) hnd
              exact wpOp_call4e rfl (wanted_free rfl) 39 _ _ _ _ _ rfl _ _ _ _ (hF 0 (hpre 0 (by kernel_rfl))) (hF 4 (hpre 4 (by kernel_rfl))) e166 (hF 13 (hpre 13 (by kernel_rfl))) (enters_dput21 _ _) (PutS.callDelta hK hd9 (by show (putL (pT7 (⟨T, tick, findL ls⟩ : Bk) x) x.body.data.toList).length ≤ _; have := hT'.out; have := hl8.out.2; omega) (by show ((pY7 (⟨T, tick, findL ls⟩ : Bk) x X) ++ putB (pT7 (⟨T, tick, findL ls⟩ : Bk) x) x.body.data.toList).length ≤ _; have := hl8.out.1; omega) (by have := hd9.len; have := hfew'.out; omega) (by have := hm1.out; omega) hsh.out) (fun e w' hq => by
                obtain ⟨r, rfl, hS⟩ := hq
                exact ⟨_, rfl, (hI.put (by decide) (by decide) (fun j _ _ h => f23e_any h) trivial (IQF.first hS (fun h9 => absurd (hI.few 99 h9) (by decide)) (fun h9 => absurd (hI.few 97 h9) (by decide)) (by rw [hI.size]; decide) (by decide) (by decide)) (PutS.none hS))⟩)
          · intro D a w5 hI hall
            have hS := Lib.hid (show PutS w1 b t T0 u ls tick w.heap.size x Ax m cx (dputL (putL (pT7 (⟨T, tick, findL ls⟩ : Bk) x) x.body.data.toList) (findL ls x.ses (decide (x.kind = 3))) x.hs) (((pY7 (⟨T, tick, findL ls⟩ : Bk) x X) ++ putB (pT7 (⟨T, tick, findL ls⟩ : Bk) x) x.body.data.toList) ++ dputB (putL (pT7 (⟨T, tick, findL ls⟩ : Bk) x) x.body.data.toList) (findL ls x.ses (decide (x.kind = 3))) x.hs) (a.eval (.tmp 169)) w5 from hI.more.d1 (hall 14 (by decide)) (fun h9 => absurd (hI.few 99 h9) (by decide)))
            have hsz := hI.size
            have hdone := hI.done (by decide) rfl (fun i hi => hall i hi)
            clear hI hall

            show wpOps _ _ _ [15] a w5
            rw [wpOps_cons]
            refine wpOp_assign rfl (wanted_free rfl) _ rfl (a.eval (.tmp 169)) rfl ?_
            show wpOps _ _ _ _ (a.put (some 8) (a.eval (.tmp 169))) w5
            rw [wpOps]
            obtain ⟨fs, ha, _⟩ := hdone
            have hN : ∀ t ∈ [155, 156, 157, 158, 159, 160, 161, 162, 163, 164, 165, 166, 167, 168, 169], t < 174 := by decide
            rw [putAll_eval20 ha (by decide) (fun t ht => hN t ht) (t := 169) (by decide)] at hS ⊢
            clear hN
            subst ha
            simp only [putAll, List.map_cons, List.map_nil, Act.put, List.setIfInBounds_toArray, List.set_cons_zero, List.set_cons_succ]
            generalize fs 155 = y155 at *
            generalize fs 156 = y156 at *
            generalize fs 157 = y157 at *
            generalize fs 158 = y158 at *
            generalize fs 159 = y159 at *
            generalize fs 160 = y160 at *
            generalize fs 161 = y161 at *
            generalize fs 162 = y162 at *
            generalize fs 163 = y163 at *
            generalize fs 164 = y164 at *
            generalize fs 165 = y165 at *
            generalize fs 166 = y166 at *
            generalize fs 167 = y167 at *
            generalize fs 168 = y168 at *
            generalize fs 169 = y169 at *
            go_wp2_with fail
            go_meet
            case rel =>
              rw [show pT8 (⟨T, tick, findL ls⟩ : Bk) x = (dputL (putL (pT7 (⟨T, tick, findL ls⟩ : Bk) x) x.body.data.toList) (findL ls x.ses (decide (x.kind = 3))) x.hs) by unfold pT8; rw [if_pos hc.out], show (pY8 (⟨T, tick, findL ls⟩ : Bk) x X) = (((pY7 (⟨T, tick, findL ls⟩ : Bk) x X) ++ putB (pT7 (⟨T, tick, findL ls⟩ : Bk) x) x.body.data.toList) ++ dputB (putL (pT7 (⟨T, tick, findL ls⟩ : Bk) x) x.body.data.toList) (findL ls x.ses (decide (x.kind = 3))) x.hs) by unfold pY8; rw [if_pos hc.out, ← List.append_assoc]]
              exact hS
  clear hP hd
  replace hP := hcut
  rw [pT8_is hg'.out, pY8_is hg'.out] at hP
  obtain ⟨fs, hfs⟩ := undEv
  have hbk := PutS.blk hP.out
  unfold ecell12 at hbk
  have htold := PutS.callTold hP.out hls'.out
  unfold evv at htold
  unfold ecell12 at htold
  have htold' := Lib.hid htold
  clear htold
  go_wp2_with (first
    | (go_at_call 41; refine htold'.out.mono ?_; rintro e w9 ⟨rfl, hE⟩; have hE' := Lib.hid hE; clear hE)
    | (refine wpList_load_row rfl _ _ rfl w.heap.size rfl 25 #[.int .i64 x.kind, .int .i64 x.ses, .int .i64 x.tick, .string x.me, .string x.url, .slice Ax m cx, .string x.body, .int .i64 x.status, .int .i64 x.code, .bool x.cred, .string x.no, .int .u64 (x.n : Int)] (0, 0) (.struct fs) hbk hfs rfl infoEv21 ?_))
  go_ret2
  exact ⟨_, rfl, PutEE.ahead hbw1.out hE'.out⟩
end Go.Proofs.Ytodncamohimmmaa
