/-
  The reference's Put of layer 15 where there is an entry of the key. Conditions: those that each theorem states.
-/
import Derived.Test.YthojnhdnflakiaaMemoOps
namespace Go.Proofs.Ythojnhdnflakiaa
open Go.RowKit Go.Lib Go.Shelf

theorem set_til {l : List Ent} {k : Nat} {x : Ent} (hk : k < l.length) (hs : sameKey l[k] x = true) : (ecells l).set (k * 6 + 5) (.int .i64 x.til) = ecells (l.set k x) := by
  have e : l.set k x = l.take k ++ x :: l.drop (k + 1) := List.set_eq_take_append_cons_drop .. |>.trans (by rw [if_pos hk])
  have e0 : l = l.take k ++ l[k] :: l.drop (k + 1) := by rw [List.getElem_cons_drop, List.take_append_drop]
  have hx := sameKey_eq hs
  have hlen : (ecells (l.take k)).length = k * 6 := by rw [ecells_len, List.length_take, Nat.min_eq_left (Nat.le_of_lt hk)]
  rw [e]
  conv => lhs; rw [e0]
  rw [ecells_append, ecells_append, List.set_append_right _ _ (by omega), hlen]
  congr 1
  have e5 : k * 6 + 5 - k * 6 = 5 := by omega
  rw [e5, ← hx]
  rfl

theorem OwnsE.form {w : World} {B n : Nat} {v : Value} {l : List Ent} (h : OwnsE w B v l) (hn : l.length = n) (hp : 0 < n) : ∃ g cap, v = .slice (some ⟨g, 0, Option.none⟩) n cap ∧ B ≤ g ∧ g < w.heap.size ∧ w.ownsRow B 32 6 (.slice (some ⟨g, 0, Option.none⟩) n cap) n (ecells l) := by
  subst hn
  have hlt := World.ownsRow.lt h
  rcases h.2 with ⟨_, h0⟩ | ⟨g, cap, cur, rfl, hB, _⟩
  · omega
  · exact ⟨g, cap, rfl, hB, (hlt g rfl).2, h⟩
theorem grown_more {w W W' : World} {b : Nat} {r : Option Nat} (h : w.grownBy W (some b)) (hb : W.grownBy W' r) (hr : ∀ k, r = some k → w.heap.size ≤ k) : w.grownBy W' (some b) :=
  ⟨hb.os.trans h.os, hb.tape.trans h.tape, hb.output.trans h.output, Nat.le_trans h.size hb.size, fun k hk hne => (hb.block k (Nat.lt_of_lt_of_le hk h.size) (fun e => by have := hr k e.symm; omega)).trans (h.block k hk hne)⟩
theorem below_grown {w w' : World} (h : Below w.heap.size w w') : w.grownBy w' Option.none := ⟨h.os, h.tape, h.output, h.size, fun k hk _ => h.block k hk⟩
/-- What the slots of the statement hold that stores the time. -/
def ptF (b k sx : Nat) (g n c : Nat) (til : Int) (j : Nat) (v : Value) (_ : World) : Prop :=
  match j with
  | 0 => v = .pointer (some ⟨b, 0, Option.none⟩)
  | 1 => v = .pointer (some ⟨b, 0, Option.none⟩)
  | 2 => v = .pointer (some ⟨b, 1, Option.none⟩)
  | 3 => v = .slice (some ⟨g, 0, Option.none⟩) n c
  | 4 => v = .int .i64 (k : Int)
  | 5 => v = .pointer (some ⟨sx, 5, Option.none⟩)
  | 6 => v = .int .i64 til
  | 7 => v = .pointer (some ⟨g, 0 + k * 6, Option.none⟩)
  | 8 => v = .pointer (some ⟨g, 0 + k * 6 + 5, Option.none⟩)
  | _ => True
theorem ptF_later {b k sx g n c : Nat} {til : Int} : Outlives (ptF b k sx g n c til) := by
  intro j v w w' h _
  unfold ptF at h ⊢
  split at h
  all_goals exact h
set_option maxRecDepth 100000 in
theorem run_field5 (w : World) (g k : Nat) : (Instr.fieldAt 32 (.pointer (some ⟨g, k, Option.none⟩)) 5).run Try.prog w = .ok (.pointer (some ⟨g, k + 5, Option.none⟩)) w := by go_simp
set_option maxRecDepth 100000 in
theorem run_loadI (w : World) (g k : Nat) (z : Int) (h : w.cell? ⟨g, k, Option.none⟩ = some (.int .i64 z)) : (Instr.loadAt 3 (.pointer (some ⟨g, k, Option.none⟩))).run Try.prog w = .ok (.int .i64 z) w := by go_simp
set_option maxRecDepth 100000 in
theorem run_storeI (w : World) (g k : Nat) (z : Int) (u : Value) (h : w.cell? ⟨g, k, Option.none⟩ = some u) (hf : w.frozen? ⟨g, k, Option.none⟩ = false) : (Instr.storeAt 3 (.pointer (some ⟨g, k, Option.none⟩)) (.int .i64 z)).run Try.prog w = .ok () (w.setCell ⟨g, k, Option.none⟩ (.int .i64 z)) := by go_simp

set_option maxHeartbeats 16000000 in
set_option maxRecDepth 100000 in
theorem refPut_old (b most : Nat) (v : Value) (l : List Ent) (x : Ent) (now : Int) (w : World) (h : RM w b most v l) (hll : l.length ≤ 1000) (hsp : spot l x < l.length) :
    Calls Try.prog 14 #[.pointer (some ⟨b, 0, Option.none⟩), evalue x, .int .i64 now] w fun e w' => e = .returned (.tuple #[]) ∧ (∃ v', RM w' b most v' (l.set (spot l x) x) ∧ Fresh w.heap.size v') ∧ w.grownBy w' (some b) := by
  obtain ⟨i0, hi, hz0, hz1, hz2⟩ := info_parts Try.infoE
  obtain ⟨A, c, rfl, hE⟩ := h.own.eds
  obtain ⟨n, hn⟩ : ∃ n, n = l.length := ⟨_, rfl⟩
  rw [← hn] at hE h
  have hnm : n ≤ 1000 := by omega
  have hl := Lib.hid hE.len
  have hM := Lib.hid h
  have hE' := Lib.hid hE
  have hltb := Lib.hid h.lt
  have hbx := Lib.hid (box_six w x 32)
  have hb0 := Lib.hid (below_box w (.cells (ecell x).toArray 32))
  have hsat := Lib.hid (spot_at hsp)
  have hslt := Lib.hid (fun k (h1 : k < spot l x) (h2 : k < l.length) => spot_lt h1 h2)
  have hspn : spot l x < n := by omega
  obtain ⟨k, hk⟩ : ∃ k, k = spot l x := ⟨_, rfl⟩
  have hset := Lib.hid (set_til hsp (spot_at hsp))
  rw [← hk] at hspn ⊢
  have hk' := Lib.hid hk
  obtain ⟨w0, hw0⟩ : ∃ w0, w0 = w.alloc (.cells (ecell x).toArray 32) := ⟨_, rfl⟩
  rw [← hw0] at hbx hb0
  have hw0' : Hid (w.alloc (.cells #[.string x.fr, .string x.at_, .bool x.cred, .string x.me, .string x.he, .int .i64 x.til] 32) = w0) := Lib.hid hw0.symm
  clear h hE hw0 hn hll hk
  have hev : evalue x = .agg #[.string x.fr, .string x.at_, .bool x.cred, .string x.me, .string x.he, .int .i64 x.til] := rfl
  rw [hev]
  clear hev
  go_enter Try.func14, Try.ntmps14
  go_wp2
  rw [hw0'.out]
  go_loopw [6] (fun i wr => ∃ q : Nat, q ≤ k ∧ i = .int .i64 q ∧ Below w0.heap.size w0 wr) (fun i _ => n - (RowKit.intOf i).toNat)
  case atStart => exact ⟨0, Nat.zero_le _, rfl, Below.refl _ _⟩
  case round =>
    obtain ⟨q, hq, rfl, hbe⟩ := hrel
    have hbw := Lib.hid (below_then hb0.out hbe)
    obtain ⟨z1, z2, z3, z4, z5, z6⟩ := hbx.out
    replace z1 := cell_later hbe z1
    replace z2 := cell_later hbe z2
    replace z3 := cell_later hbe z3
    replace z4 := cell_later hbe z4
    replace z5 := cell_later hbe z5
    replace z6 := cell_later hbe z6
    have m1 := (hM.out.later hbw.out).cells.2
    have hlt : q < n := by omega
    have hql : q < l.length := by rw [hl.out]; exact hlt
    obtain ⟨y, hy⟩ : ∃ y, y = l[q] := ⟨_, rfl⟩
    obtain ⟨g, off, rfl, h1, h2, h3, h4, h5, h6⟩ := (hE'.out.later hbw.out).six hlt hy
    by_cases hqk : q < k
    · have hsk : Hid (sameKey y x = false) := Lib.hid (by rw [hy]; exact hslt.out q (by rw [← hk'.out]; exact hqk) hql)
      clear hy
      go_wp2
      refine wp_region_each (RInv 119 [18, 19, 20, 21, 22, 23, 24, 25, 26] _ (mkF b q (some ⟨g, off, Option.none⟩) n c g off x y) wr NoMore) (by kernel_rfl) (by kernel_rfl) (RInv.start rfl trivial (Below.refl _ _).drew) ?_ ?_
      · intro i hi D a wx hI hcl hnd hpre
        have hi' : i < 9 := hi
        have hcase : i = 0 ∨ i = 1 ∨ i = 2 ∨ i = 3 ∨ i = 4 ∨ i = 5 ∨ i = 6 ∨ i = 7 ∨ i = 8 := by omega
        have hF := hI.fact
        rcases hcase with rfl | rfl | rfl | rfl | rfl | rfl | rfl | rfl | rfl
        · exact wpOp_move rfl (wanted_free rfl) _ rfl _ (hI.same 0 (by decide)) (hI.add (by decide) mkF_later (by decide) (Below.refl _ _) rfl)
        · exact wpOp_nil rfl (wanted_free rfl) _ rfl _ (hF 0 (hpre 0 (by kernel_rfl))) (hI.add (by decide) mkF_later (by decide) (Below.refl _ _) rfl)
        · exact wpOp_field rfl (wanted_free rfl) _ _ _ rfl _ _ (hF 1 (hpre 1 (by kernel_rfl))) (run_fieldM wx b) (hI.add (by decide) mkF_later (by decide) (Below.refl _ _) rfl)
        · exact wpOp_load rfl (wanted_free rfl) _ _ rfl _ _ (hF 2 (hpre 2 (by kernel_rfl))) (run_loadM wx b 1 _ _ _ (cell_later hI.below m1)) (hI.add (by decide) mkF_later (by decide) (Below.refl _ _) rfl)
        · exact wpOp_move rfl (wanted_free rfl) _ rfl _ (hI.same 6 (by decide)) (hI.add (by decide) mkF_later (by decide) (Below.refl _ _) rfl)
        · exact wpOp_index rfl (wanted_free rfl) _ _ _ rfl _ _ _ (hF 3 (hpre 3 (by kernel_rfl))) (hF 4 (hpre 4 (by kernel_rfl))) (run_idxE wx g off n c q hlt) (hI.add (by decide) mkF_later (by decide) (Below.refl _ _) rfl)
        · exact wpOp_load rfl (wanted_free rfl) _ _ rfl _ _ (hF 5 (hpre 5 (by kernel_rfl))) (run_loadE wx g _ y (cell_later hI.below h1) (cell_later hI.below h2) (cell_later hI.below h3) (cell_later hI.below h4) (cell_later hI.below h5) (cell_later hI.below h6)) (hI.add (by decide) mkF_later (by decide) (Below.refl _ _) rfl)
        · exact wpOp_load rfl (wanted_free rfl) _ _ rfl _ _ (hI.same 4 (by decide)) (run_loadE wx w.heap.size 0 x (cell_later hI.below z1) (cell_later hI.below z2) (cell_later hI.below z3) (cell_later hI.below z4) (cell_later hI.below z5) (cell_later hI.below z6)) (hI.add (by decide) mkF_later (by decide) (Below.refl _ _) rfl)
        · exact wpOp_call2 rfl (wanted_free rfl) 27 _ _ _ rfl _ _ (hF 6 (hpre 6 (by kernel_rfl))) (hF 7 (hpre 7 (by kernel_rfl))) (enters_same15 _ _) (refKey_any y x wx) (fun e w' h => ⟨_, h.1, hI.add (by decide) mkF_later (by decide) h.2 rfl⟩)
      · intro D a wx hI hall
        have hB := Lib.hid hI.below
        obtain ⟨fs, rfl, hfs⟩ := hI.done (by decide) rfl (fun i hi => hall i hi)
        have h26 : fs 26 = .bool false := (hfs 8 (by decide)).trans (congrArg Value.bool hsk.out)
        clear hI hall hfs
        simp only [putAll, List.map_cons, List.map_nil, Act.put, List.setIfInBounds_toArray, List.set_cons_zero, List.set_cons_succ]
        rw [h26]
        clear h26
        generalize fs 18 = u18
        generalize fs 19 = u19
        generalize fs 20 = u20
        generalize fs 21 = u21
        generalize fs 22 = u22
        generalize fs 23 = u23
        generalize fs 24 = u24
        generalize fs 25 = u25
        go_wp2
        go_roundw
        case rel => exact ⟨q + 1, by omega, by go_num, below_then hbe hB.out⟩
        case measure => simp [RowKit.intOf]; omega
    · obtain rfl : q = k := by omega
      have hsk : Hid (sameKey y x = true) := Lib.hid (by
        have hq1 := hsat.out
        subst hy
        have e := hk'.out
        subst e
        exact hq1)
      clear hy
      go_wp2
      refine wp_region_each (RInv 119 [18, 19, 20, 21, 22, 23, 24, 25, 26] _ (mkF b q (some ⟨g, off, Option.none⟩) n c g off x y) wr NoMore) (by kernel_rfl) (by kernel_rfl) (RInv.start rfl trivial (Below.refl _ _).drew) ?_ ?_
      · intro i hi D a wx hI hcl hnd hpre
        have hi' : i < 9 := hi
        have hcase : i = 0 ∨ i = 1 ∨ i = 2 ∨ i = 3 ∨ i = 4 ∨ i = 5 ∨ i = 6 ∨ i = 7 ∨ i = 8 := by omega
        have hF := hI.fact
        rcases hcase with rfl | rfl | rfl | rfl | rfl | rfl | rfl | rfl | rfl
        · exact wpOp_move rfl (wanted_free rfl) _ rfl _ (hI.same 0 (by decide)) (hI.add (by decide) mkF_later (by decide) (Below.refl _ _) rfl)
        · exact wpOp_nil rfl (wanted_free rfl) _ rfl _ (hF 0 (hpre 0 (by kernel_rfl))) (hI.add (by decide) mkF_later (by decide) (Below.refl _ _) rfl)
        · exact wpOp_field rfl (wanted_free rfl) _ _ _ rfl _ _ (hF 1 (hpre 1 (by kernel_rfl))) (run_fieldM wx b) (hI.add (by decide) mkF_later (by decide) (Below.refl _ _) rfl)
        · exact wpOp_load rfl (wanted_free rfl) _ _ rfl _ _ (hF 2 (hpre 2 (by kernel_rfl))) (run_loadM wx b 1 _ _ _ (cell_later hI.below m1)) (hI.add (by decide) mkF_later (by decide) (Below.refl _ _) rfl)
        · exact wpOp_move rfl (wanted_free rfl) _ rfl _ (hI.same 6 (by decide)) (hI.add (by decide) mkF_later (by decide) (Below.refl _ _) rfl)
        · exact wpOp_index rfl (wanted_free rfl) _ _ _ rfl _ _ _ (hF 3 (hpre 3 (by kernel_rfl))) (hF 4 (hpre 4 (by kernel_rfl))) (run_idxE wx g off n c q hlt) (hI.add (by decide) mkF_later (by decide) (Below.refl _ _) rfl)
        · exact wpOp_load rfl (wanted_free rfl) _ _ rfl _ _ (hF 5 (hpre 5 (by kernel_rfl))) (run_loadE wx g _ y (cell_later hI.below h1) (cell_later hI.below h2) (cell_later hI.below h3) (cell_later hI.below h4) (cell_later hI.below h5) (cell_later hI.below h6)) (hI.add (by decide) mkF_later (by decide) (Below.refl _ _) rfl)
        · exact wpOp_load rfl (wanted_free rfl) _ _ rfl _ _ (hI.same 4 (by decide)) (run_loadE wx w.heap.size 0 x (cell_later hI.below z1) (cell_later hI.below z2) (cell_later hI.below z3) (cell_later hI.below z4) (cell_later hI.below z5) (cell_later hI.below z6)) (hI.add (by decide) mkF_later (by decide) (Below.refl _ _) rfl)
        · exact wpOp_call2 rfl (wanted_free rfl) 27 _ _ _ rfl _ _ (hF 6 (hpre 6 (by kernel_rfl))) (hF 7 (hpre 7 (by kernel_rfl))) (enters_same15 _ _) (refKey_any y x wx) (fun e w' h => ⟨_, h.1, hI.add (by decide) mkF_later (by decide) h.2 rfl⟩)
      · intro D a wx hI hall
        have hB := Lib.hid hI.below
        obtain ⟨fs, rfl, hfs⟩ := hI.done (by decide) rfl (fun i hi => hall i hi)
        have h26 : fs 26 = .bool true := (hfs 8 (by decide)).trans (congrArg Value.bool hsk.out)
        clear hI hall hfs
        simp only [putAll, List.map_cons, List.map_nil, Act.put, List.setIfInBounds_toArray, List.set_cons_zero, List.set_cons_succ]
        rw [h26]
        clear h26
        generalize fs 18 = u18
        generalize fs 19 = u19
        generalize fs 20 = u20
        generalize fs 21 = u21
        generalize fs 22 = u22
        generalize fs 23 = u23
        generalize fs 24 = u24
        generalize fs 25 = u25
        have hbx1 := Lib.hid (below_then hbw.out hB.out)
        have h00 : Hid (OwnsE (wx.alloc (.cells #[] 32)) wx.heap.size (.slice (some ⟨wx.heap.size, 0, Option.none⟩) 0 0) []) := Lib.hid (by
          have := World.ownsRow_made (base := wx.heap.size) (e := 32) (size := 6) wx #[] 0 (Nat.le_refl _) (Nat.zero_le _) rfl
          simpa [OwnsE, ecells] using this)
        have hba := Lib.hid (below_box wx (.cells #[] 32))
        have hEa := Lib.hid ((hE'.out.later hbx1.out).later hba.out)
        have ma := (hM.out.later (below_then hbx1.out hba.out)).cells.2
        have zx := cell_later (below_then hB.out hba.out) z6
        go_wp2_with (at_builtin; refine wpList_append_eds rfl (.tmp 28) (.tmp 32) 39 rfl wx.heap.size i0 Try.underlying39 hi hz0 hz1 hz2 _ _ rfl h00.out _ _ _ _ rfl hEa.out (by simp; omega) (by simp) ?_; intro v2 w2 hown2 hg2 _; have hb2 := Lib.hid (h00.out.below hba.out hg2 (by simp)); rw [List.nil_append] at hown2; obtain ⟨g2, cap2, rfl, hgb, hgl, hrow⟩ := hown2.form hl.out (by omega); have hf2 := (hM.out.later (below_then hbx1.out hb2.out)).free.2; have m2 := (hM.out.later (below_then hbx1.out hb2.out)).cells.2)
        have hp := Lib.hid ((hM.out.later (below_then hbx1.out hb2.out)).put (below_then hbx1.out hb2.out) hown2 (Nat.lt_of_lt_of_le hltb.out hbx1.out.size) hbx1.out.size)
        have hne : g2 ≠ b := by have := hltb.out; have := hbx1.out.size; omega
        have hrow3 := Lib.hid (show World.ownsRow (w2.setCell ⟨b, 1, Option.none⟩ (.slice (some ⟨g2, 0, Option.none⟩) n cap2)) wx.heap.size 32 6 (.slice (some ⟨g2, 0, Option.none⟩) n cap2) n (ecells l) from ownsRow_setCell_below hrow (a := ⟨b, 1, Option.none⟩) (Nat.lt_of_lt_of_le hltb.out hbx1.out.size) _)
        have k1 := hp.out.1.1.cells.2
        have k6 : (w2.setCell ⟨b, 1, Option.none⟩ (.slice (some ⟨g2, 0, Option.none⟩) n cap2)).cell? ⟨w.heap.size, 5, Option.none⟩ = some (.int .i64 x.til) := by
          rw [World.cell?_setCell_other (h := fun e => by injection e with e1; have := hltb.out; omega)]
          exact cell_later (below_then hB.out hb2.out) z6
        clear hown2 hg2 m2 hf2 ma zx hEa h00
        generalize w2.setCell ⟨b, 1, Option.none⟩ (.slice (some ⟨g2, 0, Option.none⟩) n cap2) = w3 at hp hrow3 k1 k6 ⊢
        refine wp_region_tail 9 12 (by decide) (by kernel_rfl) (RInv 119 [36, 37, 38, 39, 40, 41, 42, 43, 44] _ (ptF b q w.heap.size g2 n cap2 x.til) w3 NoMore) (by kernel_rfl) (by kernel_rfl) (RInv.start rfl trivial (Below.refl _ _).drew) ?_ ?_
        · intro i hi D a wy hI hcl hnd hpre
          have hi' : i < 9 := hi
          have hcase : i = 0 ∨ i = 1 ∨ i = 2 ∨ i = 3 ∨ i = 4 ∨ i = 5 ∨ i = 6 ∨ i = 7 ∨ i = 8 := by omega
          have hF := hI.fact
          rcases hcase with rfl | rfl | rfl | rfl | rfl | rfl | rfl | rfl | rfl
          · exact wpOp_move rfl (wanted_free rfl) _ rfl _ (hI.same 0 (by decide)) (hI.add (by decide) ptF_later (by decide) (Below.refl _ _) rfl)
          · exact wpOp_nil rfl (wanted_free rfl) _ rfl _ (hF 0 (hpre 0 (by kernel_rfl))) (hI.add (by decide) ptF_later (by decide) (Below.refl _ _) rfl)
          · exact wpOp_field rfl (wanted_free rfl) _ _ _ rfl _ _ (hF 1 (hpre 1 (by kernel_rfl))) (run_fieldM wy b) (hI.add (by decide) ptF_later (by decide) (Below.refl _ _) rfl)
          · exact wpOp_load rfl (wanted_free rfl) _ _ rfl _ _ (hF 2 (hpre 2 (by kernel_rfl))) (run_loadM wy b 1 _ _ _ (cell_later hI.below k1)) (hI.add (by decide) ptF_later (by decide) (Below.refl _ _) rfl)
          · exact wpOp_move rfl (wanted_free rfl) _ rfl _ (hI.same 6 (by decide)) (hI.add (by decide) ptF_later (by decide) (Below.refl _ _) rfl)
          · exact wpOp_field rfl (wanted_free rfl) _ _ _ rfl _ _ (hI.same 4 (by decide)) (run_field5 wy w.heap.size 0) (hI.add (by decide) ptF_later (by decide) (Below.refl _ _) rfl)
          · exact wpOp_load rfl (wanted_free rfl) _ _ rfl _ _ (hF 5 (hpre 5 (by kernel_rfl))) (run_loadI wy w.heap.size 5 _ (cell_later hI.below k6)) (hI.add (by decide) ptF_later (by decide) (Below.refl _ _) rfl)
          · exact wpOp_index rfl (wanted_free rfl) _ _ _ rfl _ _ _ (hF 3 (hpre 3 (by kernel_rfl))) (hF 4 (hpre 4 (by kernel_rfl))) (run_idxE wy g2 0 n cap2 q hspn) (hI.add (by decide) ptF_later (by decide) (Below.refl _ _) rfl)
          · exact wpOp_field rfl (wanted_free rfl) _ _ _ rfl _ _ (hF 7 (hpre 7 (by kernel_rfl))) (run_field5 wy g2 _) (hI.add (by decide) ptF_later (by decide) (Below.refl _ _) rfl)
        · intro D a wy hI hall
          have hBy := Lib.hid hI.below
          have e44 : a.eval (.tmp 44) = .pointer (some ⟨g2, 0 + q * 6 + 5, Option.none⟩) := hI.fact 8 (hall 8 (by decide))
          have e42 : a.eval (.tmp 42) = .int .i64 x.til := hI.fact 6 (hall 6 (by decide))
          have hd := hI.defs
          clear hall
          have hrowy := hrow3.out.kept (row := Option.none) (below_grown hBy.out) (by simp [Value.ownBlock])
          have hcell := World.ownsRow.cellAt hrowy (0 + q * 6 + 5) (by omega)
          obtain ⟨u, hu⟩ : ∃ u, (ecells l)[0 + q * 6 + 5]? = some u := ⟨_, List.getElem?_eq_getElem (by rw [ecells_len, hl.out]; omega)⟩
          rw [hu] at hcell
          show wpOps _ _ _ [9] a wy
          rw [wpOps_cons]
          refine wpOp_store rfl (wanted_free rfl) _ _ _ rfl _ _ e44 e42 (run_storeI wy g2 _ _ u hcell (World.ownsRow.frozenAt hrowy _)) ?_
          rw [wpOps]
          have hst := World.ownsRow.stored hrowy (0 + q * 6 + 5) (.int .i64 x.til)
          have hfin : OwnsE (wy.setCell ⟨g2, 0 + q * 6 + 5, Option.none⟩ (.int .i64 x.til)) wx.heap.size (.slice (some ⟨g2, 0, Option.none⟩) n cap2) (l.set q x) := by
            unfold OwnsE
            rw [List.length_set, hl.out]
            have h1 := hst.1
            have h2 := hset.out
            rw [← hk'.out] at h2
            rw [Nat.zero_add] at h1 ⊢
            rw [h2] at h1
            exact h1
          clear hI e44 e42
          go_wp2
          simp only [Nat.zero_add] at hfin hst ⊢
          refine bodyPost_ret (results_none rfl _ _ _) hd ⟨rfl, ⟨_, ⟨(heap_setCell_other wy ⟨g2, q * 6 + 5, Option.none⟩ b _ (Ne.symm hne)).trans ((hBy.out.block b hp.out.1.1.lt).trans hp.out.1.1.blk), hfin.low (Nat.lt_of_lt_of_le hltb.out hbx1.out.size)⟩, hfin.fresh hbx1.out.size⟩, ?_⟩
          exact grown_more (grown_more hp.out.2 (below_grown hBy.out) (fun k e => by cases e)) hst.2 (fun k e => by injection e with e; have := hbx1.out.size; omega)
end Go.Proofs.Ythojnhdnflakiaa
