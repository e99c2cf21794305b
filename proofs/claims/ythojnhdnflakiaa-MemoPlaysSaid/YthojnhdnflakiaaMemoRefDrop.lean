/-
  The reference's New and Drop of layer 15. Conditions: those that each theorem states.
-/
import Derived.Test.YthojnhdnflakiaaMemoRM
namespace Go.Proofs.Ythojnhdnflakiaa
open Go.RowKit Go.Lib Go.Shelf

set_option maxHeartbeats 2000000 in
set_option maxRecDepth 100000 in
theorem refNew_no (most : Int) (hno : most < 1 ∨ 64 < most) (w : World) : Calls Try.prog 7 #[.int .i64 most] w fun e w' => e = .returned (.tuple #[.pointer Option.none, .int .i64 1]) ∧ w' = w := by
  rcases hno with h | h
  · go_enter Try.func7, Try.ntmps7
    go_wp2
    go_ret2
    exact ⟨rfl, rfl⟩
  · have h1 : ¬ most < 1 := by omega
    go_enter Try.func7, Try.ntmps7
    go_wp2
    go_ret2
    exact ⟨rfl, rfl⟩

set_option maxHeartbeats 2000000 in
set_option maxRecDepth 100000 in
theorem refNew_yes (most : Nat) (h1 : 1 ≤ most) (h2 : most ≤ 64) (w : World) : Calls Try.prog 7 #[.int .i64 most] w fun e w' => e = .returned (.tuple #[.pointer (some ⟨w.heap.size, 0, Option.none⟩), .int .i64 0]) ∧ RM w' w.heap.size most (.slice Option.none 0 0) [] ∧ Below w.heap.size w w' := by
  have hR : Hid (RM (w.alloc (.cells #[.int .i64 (most : Int), .slice Option.none 0 0] 42)) w.heap.size most (.slice Option.none 0 0) []) := Lib.hid ⟨heap_alloc_new w _, World.ownsRow_nil _ _ _ _⟩
  have hb := Lib.hid (below_box w (.cells #[.int .i64 (most : Int), .slice Option.none 0 0] 42))
  go_enter Try.func7, Try.ntmps7
  go_wp2
  go_ret2
  exact ⟨rfl, hR.out, hb.out⟩

theorem drop_step {l : List Ent} {fr at_ : ByteArray} {k : Nat} (hk : k < l.length) : drop (l.take (k + 1)) fr at_ = drop (l.take k) fr at_ ++ (if !((l[k].fr.toList == fr.toList) && (l[k].at_.toList == at_.toList)) then [l[k]] else []) := filter_step hk
/-- The slice's block is number B or above. -/
def Fresh (B : Nat) (v : Value) : Prop := ∀ k, v.ownBlock = some k → B ≤ k
theorem OwnsE.fresh {w : World} {B : Nat} {v : Value} {l : List Ent} (h : OwnsE w B v l) {B' : Nat} (hB : B' ≤ B) : Fresh B' v := fun k hk => Nat.le_trans hB (World.ownsRow.lt h k hk).1
/-- A store into the memo's list. -/
theorem RM.put {w W : World} {b most : Nat} {v v' : Value} {l l' : List Ent} {B : Nat} (h : RM W b most v l) (hb : Below w.heap.size w W) (ho : OwnsE W B v' l') (hB : b < B) (hB2 : w.heap.size ≤ B) : (RM (W.setCell ⟨b, 1, Option.none⟩ v') b most v' l' ∧ Fresh w.heap.size v') ∧ w.grownBy (W.setCell ⟨b, 1, Option.none⟩ v') (some b) := by
  refine ⟨⟨⟨heap_setCell_same W b 1 _ _ v' h.blk, ?_⟩, ho.fresh hB2⟩, ⟨?_, ?_, ?_, ?_, fun k hk hne => ?_⟩⟩
  · exact (show OwnsE (W.setCell ⟨b, 1, Option.none⟩ v') B v' l' from ownsRow_setCell_below ho (a := ⟨b, 1, Option.none⟩) hB v').low hB
  · exact hb.os
  · exact hb.tape
  · exact hb.output
  · have := hb.size
    simpa [World.setCell] using this
  · have hkb : k ≠ b := fun e => hne (by rw [e])
    exact (heap_setCell_other W ⟨b, 1, Option.none⟩ k v' hkb).trans (hb.block k hk)

set_option maxHeartbeats 8000000 in
set_option maxRecDepth 100000 in
theorem refDrop_any (b most : Nat) (v : Value) (l : List Ent) (fr at_ : ByteArray) (w : World) (h : RM w b most v l) (hll : l.length ≤ 1000) :
    Calls Try.prog 10 #[.pointer (some ⟨b, 0, Option.none⟩), .string fr, .string at_] w fun e w' => e = .returned (.tuple #[]) ∧ (∃ v', RM w' b most v' (drop l fr at_) ∧ Fresh w.heap.size v') ∧ w.grownBy w' (some b) := by
  obtain ⟨i0, hi, hz0, hz1, hz2⟩ := info_parts Try.infoE
  obtain ⟨A, c, rfl, hE⟩ := h.own.eds
  obtain ⟨n, hn⟩ : ∃ n, n = l.length := ⟨_, rfl⟩
  rw [← hn] at hE h
  have hnm : n ≤ 1000 := by omega
  have hl := Lib.hid hE.len
  have hM := Lib.hid h
  have hE' := Lib.hid hE
  have hlt := Lib.hid h.lt
  have h00 : Hid (OwnsE (w.alloc (.cells #[] 32)) w.heap.size (.slice (some ⟨w.heap.size, 0, Option.none⟩) 0 0) []) := Lib.hid (by
    have := World.ownsRow_made (base := w.heap.size) (e := 32) (size := 6) w #[] 0 (Nat.le_refl _) (Nat.zero_le _) rfl
    simpa [OwnsE, ecells] using this)
  have hone := Lib.hid (fun W (y : Ent) => eds_new W (ecells [y]).toArray [y] rfl (tiny (by simp)))
  clear h hE hn hll
  go_enter Try.func10, Try.ntmps10
  go_wp2
  go_loopw [6, 7] (fun o i wr => ∃ q : Nat, q ≤ n ∧ i = .int .i64 q ∧ OwnsE wr w.heap.size o (drop (l.take q) fr at_) ∧ Below w.heap.size w wr) (fun _ i _ => n - (RowKit.intOf i).toNat)
  case atStart => exact ⟨0, Nat.zero_le _, rfl, h00.out, below_box _ _⟩
  case round =>
    obtain ⟨q, hq, rfl, hown, hbe⟩ := hrel
    have m1 := (hM.out.later hbe).cells.2
    have hown' := Lib.hid hown
    have hdl : (drop (l.take q) fr at_).length ≤ 1000 := by have := drop_len (l.take q) fr at_; rw [List.length_take, hl.out] at this; omega
    have hB1 := hbe.size
    clear hown
    by_cases hlt1 : q < n
    · have hql : q < l.length := by rw [hl.out]; exact hlt1
      obtain ⟨y, hy⟩ : ∃ y, y = l[q] := ⟨_, rfl⟩
      obtain ⟨g, off, rfl, h1, h2, h3, h4, h5, h6⟩ := (hE'.out.later hbe).six hlt1 hy
      have hst := Lib.hid (drop_step (fr := fr) (at_ := at_) hql)
      rw [← hy] at hst
      clear hy
      obtain ⟨y1, y2, y3, y4, y5, y6⟩ := y
      simp only at h1 h2 h3 h4 h5 h6 hst
      have keep : Hid (((y1.toList == fr.toList) && (y2.toList == at_.toList)) = false → drop (l.take (q + 1)) fr at_ = drop (l.take q) fr at_ ++ [⟨y1, y2, y3, y4, y5, y6⟩]) := Lib.hid fun e => by rw [hst.out, e]; rfl
      have skip : Hid (((y1.toList == fr.toList) && (y2.toList == at_.toList)) = true → drop (l.take (q + 1)) fr at_ = drop (l.take q) fr at_) := Lib.hid fun e => by rw [hst.out, e]; exact List.append_nil _
      have hyO := Lib.hid (hone.out wr ⟨y1, y2, y3, y4, y5, y6⟩)
      clear hst
      rcases Bool.eq_false_or_eq_true (y1.toList == fr.toList) with q1 | q1
      · rcases Bool.eq_false_or_eq_true (y2.toList == at_.toList) with q2 | q2
        · have hs := Lib.hid (skip.out (by rw [q1, q2]; rfl))
          clear keep skip
          go_wp2
          go_roundw
          case rel => exact ⟨q + 1, by omega, by go_num, by rw [hs.out]; exact hown'.out, hbe⟩
          case measure => simp [RowKit.intOf]; omega
        · have hs := Lib.hid (keep.out (by rw [q1, q2]; rfl))
          clear keep skip
          go_wp2_with (at_builtin; refine wpList_append_eds rfl (.tmp 40) (.tmp 48) 39 rfl w.heap.size i0 Try.underlying39 hi hz0 hz1 hz2 _ _ rfl (hown'.out.alloc _) _ _ _ _ rfl hyO.out (by simp; omega) (by simp; omega) ?_; intro v2 w2 hown2 hg2 _; have hb2 := Lib.hid ((hown'.out.alloc _).below (hbe.alloc hB1 _) hg2 (by simp; omega)))
          go_roundw
          case rel => exact ⟨q + 1, by omega, by go_num, by rw [hs.out]; exact hown2, hb2.out⟩
          case measure => simp [RowKit.intOf]; omega
      · have hs := Lib.hid (keep.out (by rw [q1]; rfl))
        clear keep skip
        go_wp2_with (at_builtin; refine wpList_append_eds rfl (.tmp 40) (.tmp 48) 39 rfl w.heap.size i0 Try.underlying39 hi hz0 hz1 hz2 _ _ rfl (hown'.out.alloc _) _ _ _ _ rfl hyO.out (by simp; omega) (by simp; omega) ?_; intro v2 w2 hown2 hg2 _; have hb2 := Lib.hid ((hown'.out.alloc _).below (hbe.alloc hB1 _) hg2 (by simp; omega)))
        go_roundw
        case rel => exact ⟨q + 1, by omega, by go_num, by rw [hs.out]; exact hown2, hb2.out⟩
        case measure => simp [RowKit.intOf]; omega
    · have e : q = n := by omega
      have ht : l.take q = l := by rw [e, ← hl.out, List.take_length]
      have hownl := hown'.out
      rw [ht] at hownl
      clear hown' hdl
      obtain ⟨A2, c2, rfl, _⟩ := hownl.eds
      have hp := Lib.hid ((hM.out.later hbe).put hbe hownl hlt.out (Nat.le_refl _))
      have hf := (hM.out.later hbe).free.2
      go_wp2
      go_end0
      exact ⟨rfl, ⟨_, hp.out.1⟩, hp.out.2⟩
end Go.Proofs.Ythojnhdnflakiaa
