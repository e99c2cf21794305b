/-
  The reference's Drop of layer 9. Conditions: those that each theorem states.
-/
import Derived.Test.YtklbikafkdjgpaaDoorHeadRef
namespace Go.Proofs.YtklbikafkdjgpaaDoor
open Go.RowKit Go.Lib Go.Shelf

/-- The outer loop of the reference's Drop. -/
def RefDropRel (w : World) (ns : List ByteArray) (l : List Hd) (v i : Value) (wr : World) : Prop :=
  ∃ k : Nat, k ≤ l.length ∧ i = .int .i64 k ∧ OwnsH wr w.heap.size v (without ns (l.take k)) ∧ Below w.heap.size w wr
/-- The inner loop. -/
def RefHitRel (w1 : World) (ns : List ByteArray) (p : ByteArray) (b j : Value) (wr : World) : Prop :=
  ∃ (m : Nat) (d : Bool), m ≤ ns.length ∧ j = .int .i64 m ∧ b = .bool d ∧ Hid (d = (ns.take m).any fun n => alike p n) ∧ Below w1.heap.size w1 wr

theorem hit_step {ns : List ByteArray} {m : Nat} (p : ByteArray) (hm : m < ns.length) : (ns.take (m + 1)).any (fun n => alike p n) = ((ns.take m).any (fun n => alike p n) || alike p ns[m]) := by
  rw [take_snoc hm, List.any_append]
  simp
theorem owns_snoc {w3 : World} {B : Nat} {v1 : Value} {x y : ByteArray} {xs : List Hd} (h : w3.ownsRow B 29 2 v1 (xs.length + 1) (hcells xs ++ [.string x, .string y])) : OwnsH w3 B v1 (xs ++ [(x, y)]) := by
  unfold OwnsH
  rw [List.length_append, hcells_append]
  exact h

theorem run_idxH (w : World) (g off n c k : Nat) (h : k < n) : (Instr.indexAt 22 (.slice (some ⟨g, off, Option.none⟩) n c) (.int .i64 (k : Int))).run Tryd.prog w = .ok (.pointer (some ⟨g, off + k * 2, Option.none⟩)) w := by go_simp
theorem run_idx9 (w : World) (g off n c k : Nat) (h : k < n) : (Instr.indexAt 30 (.slice (some ⟨g, off, Option.none⟩) n c) (.int .i64 (k : Int))).run Tryd.prog w = .ok (.pointer (some ⟨g, off + k, Option.none⟩)) w := by go_simp
theorem enters_alike (vs : Array Value) (w : World) : (callFunc 21 vs).run Tryd.prog w = .ok (.enter 21 vs) w := by kernel_rfl

/-- What the slots of the inner loop's statement hold. -/
def hdF (g off n c k g2 off2 n2 c2 m : Nat) (p1 z : ByteArray) (d : Bool) (j : Nat) (v : Value) (_ : World) : Prop :=
  match j with
  | 0 => v = .bool false
  | 1 => v = .bool false
  | 2 => v = .slice (some ⟨g, off, Option.none⟩) n c
  | 3 => v = .int .i64 (k : Int)
  | 4 => v = .pointer (some ⟨g, off + k * 2, Option.none⟩)
  | 5 => v = .pointer (some ⟨g, off + k * 2, Option.none⟩)
  | 6 => v = .string p1
  | 7 => v = .slice (some ⟨g2, off2, Option.none⟩) n2 c2
  | 8 => v = .int .i64 (m : Int)
  | 9 => v = .pointer (some ⟨g2, off2 + m, Option.none⟩)
  | 10 => v = .string z
  | 11 => v = .bool d
  | 12 => v = .bool d
  | _ => True
theorem hdF_later {g off n c k g2 off2 n2 c2 m : Nat} {p1 z : ByteArray} {d : Bool} : Outlives (hdF g off n c k g2 off2 n2 c2 m p1 z d) := by
  intro j v w w' h hk
  unfold hdF at h ⊢
  split at h
  all_goals first | exact h.keeps hk | exact h

set_option maxHeartbeats 4000000 in
set_option maxRecDepth 100000 in
theorem refDrop_any (A A2 : Option Addr) (n c n2 c2 : Nat) (l : List Hd) (ns : List ByteArray) (w : World) (h : Hds w A n c l) (hS : Strs w A2 n2 c2 ns) (hn : n ≤ 1000) (hn2 : n2 ≤ 1000) (hB : Fits l) (hB2 : ∀ x ∈ ns, x.size ≤ 140737488351232) :
    Calls Tryd.prog 20 #[.slice A n c, .slice A2 n2 c2] w (GivesH w (without ns l)) := by
  obtain ⟨i0, hi, hz0, hz1, hz2⟩ := info_parts Tryd.infoHd
  have hl := Lib.hid h.len
  have hl2 := Lib.hid hS.len
  have hH := Lib.hid h
  have hS' := Lib.hid hS
  have hB' := Lib.hid hB
  have hB2' := Lib.hid hB2
  have h00 := Lib.hid (World.ownsRow_made (base := w.heap.size) (e := 29) (size := 2) w #[] 0 (Nat.le_refl _) (Nat.zero_le _) rfl)
  clear h hB hS hB2
  go_enter Tryd.func20, Tryd.ntmps20
  go_wp2
  go_loopw [5, 6] (fun v i wr => RefDropRel w ns l v i wr) (fun _ i _ => n - (RowKit.intOf i).toNat)
  case atStart => exact ⟨0, Nat.zero_le _, rfl, h00.out, below_box _ _⟩
  case round =>
    obtain ⟨k, hk, rfl, hown, hb⟩ := hrel
    rw [hl.out] at hk
    have hvl : (without ns (l.take k)).length ≤ 1000 := by have := without_len ns (l.take k); rw [List.length_take, hl.out] at this; omega
    have hB1 := hb.size
    by_cases hlt : k < n
    · have hkl : k < l.length := by rw [hl.out]; exact hlt
      have hat := Lib.hid ((hH.out.later hb).at hlt)
      have hpz := (hB'.out _ (List.getElem_mem hkl)).1
      have hst := Lib.hid (without_step (ns := ns) hkl)
      generalize l[k] = q at hat hpz hst
      obtain ⟨p1, p2⟩ := q
      simp only at hpz
      obtain ⟨g, off, rfl, h1, h2⟩ := hat.out
      clear hat
      simp only at h1 h2
      go_wp2
      go_loopw [7, 8] (fun b j wi => RefHitRel wr ns p1 b j wi) (fun _ j _ => n2 - (RowKit.intOf j).toNat)
      case atStart => exact ⟨0, false, Nat.zero_le _, rfl, rfl, Lib.hid rfl, Below.refl _ _⟩
      case round =>
        obtain ⟨m, d, hm, rfl, rfl, hd, hbi⟩ := hrel
        rw [hl2.out] at hm
        have hc1 := cell_later hbi h1
        have hc2 := cell_later hbi h2
        by_cases hmn : m < n2
        · have hml : m < ns.length := by rw [hl2.out]; exact hmn
          have hds := Lib.hid (hit_step p1 hml)
          rw [← hd.out] at hds
          obtain ⟨g2, off2, rfl, _, hcs⟩ := ((hS'.out.later hb).later hbi).cell (by omega)
          have hz := hcs m hml
          have hcall := fun W => alike_any p1 ns[m] hpz (hB2'.out _ (List.getElem_mem hml)) W
          generalize ns[m] = z at hz hcall hds
          clear hcs
          have hcall' := Lib.hid hcall
          clear hcall
          cases d with
          | true =>
            have hds' : Hid ((ns.take (m + 1)).any (fun n => alike p1 n) = true) := Lib.hid (by rw [hds.out]; rfl)
            clear hds
            go_wp2
            go_region
            all_goals
              go_wp2
              go_roundw
              case rel => exact ⟨m + 1, true, by omega, by go_num, rfl, Lib.hid hds'.out.symm, by first | exact hbi.drew | exact below_drawn hbi _⟩
              case measure => simp [RowKit.intOf]; omega
          | false =>
            generalize hal : alike p1 z = d1 at hcall' hds
            have hds' : Hid ((ns.take (m + 1)).any (fun n => alike p1 n) = d1) := Lib.hid (by rw [hds.out]; rfl)
            clear hal hds
            go_wp2
            refine wp_region_tail 13 14 (by decide) (by kernel_rfl) (RInv 45 [22, 23, 24, 25, 26, 27, 28, 29, 30, 31, 32, 33, 34] _ (hdF g off n c k g2 off2 n2 c2 m p1 z d1) wr NoMore) (by kernel_rfl) (by kernel_rfl) (RInv.start rfl trivial (Below.refl _ _).drew) ?_ ?_
            · intro i hi D a w1 hI hcl hnd hpre
              have hi' : i < 13 := hi
              have hcase : i = 0 ∨ i = 1 ∨ i = 2 ∨ i = 3 ∨ i = 4 ∨ i = 5 ∨ i = 6 ∨ i = 7 ∨ i = 8 ∨ i = 9 ∨ i = 10 ∨ i = 11 ∨ i = 12 := by omega
              have hF := hI.fact
              rcases hcase with rfl | rfl | rfl | rfl | rfl | rfl | rfl | rfl | rfl | rfl | rfl | rfl | rfl
              · exact wpOp_move rfl (wanted_free rfl) _ rfl _ (hI.same 7 (by decide)) (hI.add (by decide) hdF_later (by decide) (Below.refl _ _) rfl)
              · exact wpOp_move rfl (wanted_free rfl) _ rfl _ (hF 0 (hpre 0 (by kernel_rfl))) (hI.add (by decide) hdF_later (by decide) (Below.refl _ _) rfl)
              · have g1 := hF 1 (hpre 1 (by kernel_rfl))
                exact wpOp_move rfl (wanted_by (d := 23) rfl _ rfl rfl g1) _ rfl _ (hI.same 0 (by decide)) (hI.add (by decide) hdF_later (by decide) (Below.refl _ _) rfl)
              · have g1 := hF 1 (hpre 1 (by kernel_rfl))
                exact wpOp_move rfl (wanted_by (d := 23) rfl _ rfl rfl g1) _ rfl _ (hI.same 6 (by decide)) (hI.add (by decide) hdF_later (by decide) (Below.refl _ _) rfl)
              · have g1 := hF 1 (hpre 1 (by kernel_rfl))
                exact wpOp_index rfl (wanted_by (d := 23) rfl _ rfl rfl g1) _ _ _ rfl _ _ _ (hF 2 (hpre 2 (by kernel_rfl))) (hF 3 (hpre 3 (by kernel_rfl))) (run_idxH w1 g off n c k hlt) (hI.add (by decide) hdF_later (by decide) (Below.refl _ _) rfl)
              · have g1 := hF 1 (hpre 1 (by kernel_rfl))
                exact wpOp_field rfl (wanted_by (d := 23) rfl _ rfl rfl g1) _ _ _ rfl _ _ (hF 4 (hpre 4 (by kernel_rfl))) (run_field0 w1 g (off + k * 2)) (hI.add (by decide) hdF_later (by decide) (Below.refl _ _) rfl)
              · have g1 := hF 1 (hpre 1 (by kernel_rfl))
                exact wpOp_load rfl (wanted_by (d := 23) rfl _ rfl rfl g1) _ _ rfl _ _ (hF 5 (hpre 5 (by kernel_rfl))) (run_load9 w1 g (off + k * 2) p1 (cell_later hI.below hc1)) (hI.add (by decide) hdF_later (by decide) (Below.refl _ _) rfl)
              · have g1 := hF 1 (hpre 1 (by kernel_rfl))
                exact wpOp_move rfl (wanted_by (d := 23) rfl _ rfl rfl g1) _ rfl _ (hI.same 1 (by decide)) (hI.add (by decide) hdF_later (by decide) (Below.refl _ _) rfl)
              · have g1 := hF 1 (hpre 1 (by kernel_rfl))
                exact wpOp_move rfl (wanted_by (d := 23) rfl _ rfl rfl g1) _ rfl _ (hI.same 8 (by decide)) (hI.add (by decide) hdF_later (by decide) (Below.refl _ _) rfl)
              · have g1 := hF 1 (hpre 1 (by kernel_rfl))
                exact wpOp_index rfl (wanted_by (d := 23) rfl _ rfl rfl g1) _ _ _ rfl _ _ _ (hF 7 (hpre 7 (by kernel_rfl))) (hF 8 (hpre 8 (by kernel_rfl))) (run_idx9 w1 g2 off2 n2 c2 m hmn) (hI.add (by decide) hdF_later (by decide) (Below.refl _ _) rfl)
              · have g1 := hF 1 (hpre 1 (by kernel_rfl))
                exact wpOp_load rfl (wanted_by (d := 23) rfl _ rfl rfl g1) _ _ rfl _ _ (hF 9 (hpre 9 (by kernel_rfl))) (run_load9 w1 g2 (off2 + m) z (cell_later hI.below hz)) (hI.add (by decide) hdF_later (by decide) (Below.refl _ _) rfl)
              · have g1 := hF 1 (hpre 1 (by kernel_rfl))
                exact wpOp_call2 rfl (wanted_by (d := 23) rfl _ rfl rfl g1) 21 _ _ _ rfl _ _ (hF 6 (hpre 6 (by kernel_rfl))) (hF 10 (hpre 10 (by kernel_rfl))) (enters_alike _ _) (hcall'.out w1) (fun e w' h => ⟨_, h.1, hI.add (by decide) hdF_later (by decide) h.2 rfl⟩)
              · exact wpOp_pick rfl (wanted_free rfl) _ _ _ rfl false (hF 1 (hpre 1 (by kernel_rfl))) _ (hF 11 (hpre 11 (by kernel_rfl))) (hI.add (by decide) hdF_later (by decide) (Below.refl _ _) rfl)
            · intro D a w1 hI hall
              have hB1 := hI.below
              have hdone := hI.done (by decide) rfl hall
              have hF12 : a.eval (.tmp 34) = .bool d1 := hI.fact 12 (hall 12 (by decide))
              clear hI hall
              show wpOps _ _ _ [13] a w1
              rw [wpOps_cons]
              refine wpOp_assign rfl (wanted_free rfl) _ rfl _ hF12 ?_
              show wpOps _ _ _ _ (a.put (some 7) (.bool d1)) w1
              rw [wpOps]
              obtain ⟨fs, rfl, _⟩ := hdone
              clear hF12
              simp only [putAll, List.map_cons, List.map_nil, Act.put, List.setIfInBounds_toArray, List.set_cons_zero, List.set_cons_succ]
              generalize fs 22 = y22
              generalize fs 23 = y23
              generalize fs 24 = y24
              generalize fs 25 = y25
              generalize fs 26 = y26
              generalize fs 27 = y27
              generalize fs 28 = y28
              generalize fs 29 = y29
              generalize fs 30 = y30
              generalize fs 31 = y31
              generalize fs 32 = y32
              generalize fs 33 = y33
              generalize fs 34 = y34
              go_wp2
              go_roundw
              case rel => exact ⟨m + 1, d1, by omega, by go_num, rfl, Lib.hid hds'.out.symm, below_then hbi hB1⟩
              case measure => simp [RowKit.intOf]; omega
        · have em : m = n2 := by omega
          subst em
          have hh : Hid (hit ns (p1, p2) = d) := Lib.hid (by
            rw [hd.out, ← hl2.out, List.take_length]
            rfl)
          clear hd
          rw [hh.out] at hst
          have hbw := below_then hb hbi
          have hownW := hown.kept hbi (Nat.le_refl _)
          cases d with
          | true =>
            go_wp2
            go_roundw
            case rel => exact ⟨k + 1, by omega, by go_num, by rw [hst.out]; simpa using hownW, hbw⟩
            case measure => simp [RowKit.intOf]; omega
          | false =>
            have hst' : Hid (without ns (l.take (k + 1)) = without ns (l.take k) ++ [(p1, p2)]) := Lib.hid (by rw [hst.out]; simp)
            clear hst
            obtain ⟨xs, hxs⟩ : ∃ xs, xs = without ns (l.take k) := ⟨_, rfl⟩
            rw [← hxs] at hown hownW hvl hst'
            clear hxs
            have hB2 := hbw.size
            go_wp2_with (at_builtin; refine wpList_append_own _ rfl (.tmp 37) (.tmp 42) 22 rfl w.heap.size 29 i0 (.agg #[.string ByteArray.empty, .string ByteArray.empty]) 2 32 Tryd.underlying22 hi hz0 hz1 hz2 rfl (by decide) _ _ _ rfl (hownW.alloc _) _ 1 1 [.string p1, .string p2] rfl rfl (cells_pair_new _ _ _ _) (fun u hu => by simp at hu; rcases hu with rfl | rfl <;> rfl) (by simp only [maxLen]; omega) (by omega) (by simp; omega) ?_; intro v1 w3 hown1 hg1 _)
            go_roundw
            case rel => exact ⟨k + 1, by omega, by go_num, by rw [hst'.out]; exact owns_snoc hown1, OwnsH.below (hownW.alloc _) (hbw.alloc hbw.size _) hg1 (by simp; omega)⟩
            case measure => simp [RowKit.intOf]; omega
    · have ek : k = n := by omega
      subst ek
      rw [← hl.out, List.take_length] at hown
      go_wp2
      go_ret
      exact ⟨_, rfl, hown, hb⟩
end Go.Proofs.YtklbikafkdjgpaaDoor
