/-
  The reference's Unsafe of layer 10. Conditions: those that each theorem states.
-/
import Derived.Test.YtalnjlodldhfbaaGreatDoorSafeRegion
import Derived.Test.YtalnjlodldhfbaaGreatDoorSafeRefHeader
namespace Go.Proofs.YtalnjlodldhfbaaGreatDoor
open Go.RowKit Go.Lib Go.Shelf

/-- The outer loop of the reference's Unsafe. -/
def RefUnsRel (w : World) (l : List Hd) (v i : Value) (wr : World) : Prop :=
  ∃ (k : Nat) (out : List (List UInt8)), k ≤ l.length ∧ i = .int .i64 k ∧ OwnsT wr w.heap.size v out ∧ Strict out ∧ (∀ x, x ∈ out ↔ x ∈ namesOf (l.take k)) ∧ out.length ≤ k ∧ Below w.heap.size w wr

theorem ownsS_of {w : World} {B : Nat} {v : Value} {l : List (List UInt8)} (h : OwnsT w B v l) : OwnsS w B v (l.map mk) := by
  unfold OwnsS
  rw [List.length_map, List.map_map]
  exact h
theorem ownsT_of {w : World} {B : Nat} {v : Value} {zs : List ByteArray} {l : List (List UInt8)} (h : OwnsS w B v zs) (e : zs = l.map mk) : OwnsT w B v l := by
  subst e
  unfold OwnsS at h
  rw [List.length_map, List.map_map] at h
  exact h
theorem isIn_mk (t : List UInt8) (out : List (List UInt8)) : isIn (mk t) (out.map mk) = decide (t ∈ out) := by
  rw [Bool.eq_iff_iff, isIn_iff, decide_eq_true_eq, List.mem_map]
  constructor
  · rintro ⟨x, hx, e⟩
    rw [← mk_inj e]
    exact hx
  · intro h
    exact ⟨t, h, rfl⟩
theorem put_map (out : List (List UInt8)) (tl : List UInt8) (q : Nat) : (out.map mk).take q ++ [mk tl] ++ (out.map mk).drop q = (out.take q ++ [tl] ++ out.drop q).map mk := by
  rw [List.map_append, List.map_append, List.map_take, List.map_drop]
  rfl
theorem less_mk (x t : List UInt8) : Op.bytesLess (mk x).toList (mk t).toList = decide (x < t) := by
  rw [ByteArray.toList_eq, ByteArray.toList_eq, mk_list, mk_list, bytesLess_eq]

/-- What the slots of the last statement hold. -/
def ruF (A : Option Addr) (m c q : Nat) (t : ByteArray) (j : Nat) (v : Value) (_ : World) : Prop :=
  match j with
  | 0 => True
  | 1 => v = .slice A m c
  | 2 => v = .int .i64 (q : Int)
  | 3 => v = .slice A q c
  | 4 => True
  | 5 => v = .string t
  | 6 => True
  | 7 => True
  | 8 => v = .slice A m c
  | 9 => v = .int .i64 (q : Int)
  | 10 => v = .slice (if c = q then A else A.map (·.add q)) (m - q) (c - q)
  | 11 => True
  | _ => True

set_option maxHeartbeats 4000000 in
set_option maxRecDepth 100000 in
theorem refUns_any (A0 : Option Addr) (n c0 : Nat) (l : List Hd) (w : World) (h : Hds w A0 n c0 l) (hn : n ≤ 1000) (hB : Fits l) :
    Calls Tryz.prog 18 #[.slice A0 n c0] w (GivesT w (uns l)) := by
  obtain ⟨i0, hinf, hz0, hz1, hz2⟩ := info_parts Tryz.info9
  have hl := Lib.hid h.len
  have hH := Lib.hid h
  have hB' := Lib.hid hB
  have h00 := Lib.hid (World.ownsRow_made (base := w.heap.size) (e := 9) (size := 1) w #[] 0 (Nat.le_refl _) (Nat.zero_le _) rfl)
  clear h hB
  go_enter Tryz.func18, Tryz.ntmps18
  go_wp2
  go_loopw [3, 4] (fun v i wr => RefUnsRel w l v i wr) (fun _ i _ => n - (RowKit.intOf i).toNat)
  case atStart => exact ⟨0, [], Nat.zero_le _, rfl, h00.out, List.Pairwise.nil, fun x => by simp [namesOf], Nat.le_refl _, below_box _ _⟩
  case round =>
    obtain ⟨k, out, hk, rfl, hown, hst0, hmem0, hlen, hb⟩ := hrel
    rw [hl.out] at hk
    have hst := Lib.hid hst0
    have hmem := Lib.hid hmem0
    clear hst0 hmem0
    by_cases hlt : k < n
    · have hkl : k < l.length := by rw [hl.out]; exact hlt
      obtain ⟨b, off, rfl, h1, h2⟩ := (hH.out.later hb).at hlt
      have hsz := (hB'.out _ (List.getElem_mem hkl)).1
      have hcall := Lib.hid (fun W => refHeader_any l[k].1 l[k].2 hsz W)
      have hlow := Lib.hid (fun W => refLower_any l[k].1 hsz W)
      have hstep := Lib.hid (namesOf_step hkl)
      change Hid (∀ W, Calls _ _ _ _ (fun e w' => e = .returned (.string (mk (lo l[k].1))) ∧ Below W.heap.size W w')) at hlow
      generalize lo l[k].1 = tl at hlow hstep
      generalize headOk l[k].1 l[k].2 = ok at hcall hstep
      generalize l[k].1 = x at h1 hcall hlow hsz
      generalize l[k].2 = y at h2 hcall
      cases ok with
      | true =>
        have hm' : Hid (∀ x, x ∈ out ↔ x ∈ namesOf (l.take (k + 1))) := Lib.hid (fun x => by rw [hstep.out]; simpa using hmem.out x)
        clear hstep hmem
        go_wp2_with (first
          | (go_at_call 32; refine (hlow.out _).mono ?_; rintro e w2 ⟨rfl, hb2⟩; have h1' := cell_later hb2 h1; have h2' := cell_later hb2 h2)
          | (go_at_call 21; refine (hcall.out _).mono ?_; rintro e w3 ⟨rfl, hb3⟩))
        go_roundw
        case rel =>
          have hbb := below_then hb2 hb3
          exact ⟨k + 1, out, by omega, by go_num, hown.kept hbb (Nat.le_refl _), hst.out, hm'.out, by omega, below_then hb hbb⟩
        case measure => simp [RowKit.intOf]; omega
      | false =>
        obtain ⟨t, htl0⟩ : ∃ t, t = mk tl := ⟨_, rfl⟩
        rw [← htl0] at hlow
        obtain ⟨A, m, c, rfl, hml, hS0⟩ := (ownsS_of hown).strs'
        have hml' : Hid (m = out.length) := Lib.hid (by rw [hml.out, List.length_map])
        have hm30 : m ≤ 1000 := by rw [hml'.out]; omega
        have hmc := hS0.cap
        have hcr : c ≤ 9223372036854775807 := by have := hS0.room; unfold maxLen at this; exact this
        have ham := Lib.hid (fun W (hW : Below wr.heap.size wr W) => among_any A m c (out.map mk) t W (hS0.later hW))
        rw [htl0, isIn_mk] at ham
        by_cases hin : tl ∈ out
        · have hm' : Hid (∀ x, x ∈ out ↔ x ∈ namesOf (l.take (k + 1))) := Lib.hid (fun x => by
            rw [hstep.out, List.mem_append, ← hmem.out x]
            constructor
            · exact .inl
            · rintro (h | h)
              · exact h
              · simp at h; rw [h]; exact hin)
          rw [decide_eq_true hin, ← htl0] at ham
          clear hstep hmem hin htl0 hS0
          go_wp2_with (first
            | (go_at_call 32; refine (hlow.out _).mono ?_; rintro e w2 ⟨rfl, hb2⟩; have h1' := cell_later hb2 h1; have h2' := cell_later hb2 h2)
            | (go_at_call 21; refine (hcall.out _).mono ?_; rintro e w3 ⟨rfl, hb3⟩; have hb23 := below_then hb2 hb3)
            | (go_at_call 37; refine (ham.out _ hb23).mono ?_; rintro e w4 ⟨rfl, hw⟩; subst hw))
          go_roundw
          case rel => exact ⟨k + 1, out, by omega, by go_num, hown.kept hb23 (Nat.le_refl _), hst.out, hm'.out, by omega, below_then hb hb23⟩
          case measure => simp [RowKit.intOf]; omega
        · have hnew : Hid (∀ q, q ≤ out.length → (∀ j (hj : j < out.length), j < q → out[j] < tl) → (∀ h : q < out.length, ¬ out[q] < tl) → Strict (out.take q ++ [tl] ++ out.drop q) ∧ ∀ x, x ∈ out.take q ++ [tl] ++ out.drop q ↔ x ∈ namesOf (l.take (k + 1))) := Lib.hid (fun q hq hlo hhi =>
            ⟨strict_put hst.out hq hin hlo hhi, fun x => by
              rw [mem_put, hstep.out, List.mem_append, ← hmem.out x]
              simp⟩)
          rw [decide_eq_false hin, ← htl0] at ham
          have htl := Lib.hid htl0
          have hSL := Lib.hid hS0
          have hown' := Lib.hid hown
          clear hstep hmem hin htl0 hS0 hown
          go_wp2_with (first
            | (go_at_call 32; refine (hlow.out _).mono ?_; rintro e w2 ⟨rfl, hb2⟩; have h1' := cell_later hb2 h1; have h2' := cell_later hb2 h2)
            | (go_at_call 21; refine (hcall.out _).mono ?_; rintro e w3 ⟨rfl, hb3⟩; have hb23 := below_then hb2 hb3)
            | (go_at_call 37; refine (ham.out _ hb23).mono ?_; rintro e w4 ⟨rfl, hw⟩; subst hw))
          have hbw := below_then hb hb23
          have hB2 := hbw.size
          have hS := Lib.hid (hSL.out.later hb23)
          clear hSL ham hcall hlow h1 h2 h1' h2' hown' hb2 hb3 hb hb23
          obtain ⟨zs, hzs⟩ : ∃ zs, zs = out.map mk := ⟨_, rfl⟩
          rw [← hzs] at hS
          have hzs' := Lib.hid hzs
          have hzl : zs.length = m := hS.out.len
          clear hzs
          go_loop [6] (fun i => ∃ q : Nat, q ≤ m ∧ i = .int .i64 q ∧ ∀ j (hj : j < out.length), j < q → out[j] < tl) (fun i => m - (RowKit.intOf i).toNat)
          case atStart => exact ⟨0, Nat.zero_le _, rfl, fun j _ h => absurd h (by omega)⟩
          case round =>
            obtain ⟨q, hq, rfl, hlo0⟩ := hrel
            have hlo := Lib.hid hlo0
            clear hlo0
            by_cases hqm : q < m
            · have hql : q < out.length := by rw [← hml'.out]; exact hqm
              obtain ⟨bz, oz, rfl, _, hcs⟩ := hS.out.cell (by omega)
              have hz := hcs q (by rw [hS.out.len]; exact hqm)
              have hzq : Hid (zs[q]'(by rw [hS.out.len]; exact hqm) = mk out[q]) := Lib.hid (by simp only [hzs'.out]; rw [List.getElem_map])
              have hlss := less_mk out[q] tl
              have hup := Lib.hid (show out[q] < tl → ∀ j (hj : j < out.length), j < q + 1 → out[j] < tl from fun hh j hj hjq => by
                by_cases e : j = q
                · subst e; exact hh
                · exact hlo.out j hj (by omega))
              rw [hzq.out] at hz
              rw [← htl.out] at hlss
              clear hcs hzq
              by_cases hlq : out[q] < tl
              · have hf := Lib.hid (hup.out hlq)
                rw [decide_eq_true hlq] at hlss
                generalize mk out[q] = z at hz hlss
                clear hup hlq
                go_wp2
                go_round
                case rel => exact ⟨q + 1, by omega, by go_num, hf.out⟩
                case measure => simp [RowKit.intOf]; omega
              · have hput := Lib.hid (hnew.out q (by omega) hlo.out (fun _ => hlq))
                rw [decide_eq_false hlq] at hlss
                generalize mk out[q] = z at hz hlss
                clear hup hlq hnew hlo
                go_wp2
                refine wp_region_tail 12 13 (by decide) (by kernel_rfl) (RInv 57 [44, 45, 46, 47, 48, 49, 50, 51, 52, 53, 54, 55] _ (ruF (some ⟨bz, oz, Option.none⟩) m c q t) w4 (PutX 44 48 50 51 55 w4.heap.size t (zs.take q) (zs.drop q))) (by kernel_rfl) (by kernel_rfl) (RInv.start rfl ⟨fun h => h.elim, fun h => h.elim, fun h => h.elim, fun h => h.elim, fun h => h.elim⟩ (Below.refl _ _).drew) ?_ ?_
                · intro i hi D a w1 hI hcl hnd hpre
                  have hi' : i < 12 := hi
                  have hcase : i = 0 ∨ i = 1 ∨ i = 2 ∨ i = 3 ∨ i = 4 ∨ i = 5 ∨ i = 6 ∨ i = 7 ∨ i = 8 ∨ i = 9 ∨ i = 10 ∨ i = 11 := by omega
                  have hF := hI.fact
                  rcases hcase with rfl | rfl | rfl | rfl | rfl | rfl | rfl | rfl | rfl | rfl | rfl | rfl
                  · exact wpOp_build rfl (wanted_free rfl) _ _ _ rfl #[] (by simp) _ (run_build0 w1) (hI.put (by decide) (by decide) (fun j _ _ h => h) trivial (hI.more.op0 hI.below.size (by rw [hI.size]; decide) (by decide) (fun h => hnd (hcl 4 h 0 (by kernel_rfl))) (fun h => hnd (hcl 4 (hcl 7 h 4 (by kernel_rfl)) 0 (by kernel_rfl))) (fun h => hnd (hcl 4 (hcl 7 (hcl 11 h 7 (by kernel_rfl)) 4 (by kernel_rfl)) 0 (by kernel_rfl)))) (hI.below.alloc hI.below.size _))
                  · exact wpOp_move rfl (wanted_free rfl) _ rfl _ (hI.same 3 (by decide)) (hI.put (by decide) (by decide) (fun j _ _ h => h) rfl (hI.more.pure (by decide) (by decide) _) hI.below)
                  · exact wpOp_move rfl (wanted_free rfl) _ rfl _ (hI.same 6 (by decide)) (hI.put (by decide) (by decide) (fun j _ _ h => h) rfl (hI.more.pure (by decide) (by decide) _) hI.below)
                  · exact wpOp_slice rfl (wanted_free rfl) _ _ _ _ _ rfl _ _ Option.none (some (.int .i64 (q : Int))) Option.none (hF 1 (hpre 1 (by kernel_rfl))) rfl (congrArg some (hF 2 (hpre 2 (by kernel_rfl)))) rfl (run_frontS w1 _ m c q hq hmc) (hI.put (by decide) (by decide) (fun j _ _ h => h) rfl (hI.more.pure (by decide) (by decide) _) hI.below)
                  · have hX := hI.more
                    have hown := (hX.c0 (hpre 0 (by kernel_rfl)) hnd).1
                    refine wpOp_append_strs rfl (wanted_free rfl) _ _ _ rfl w4.heap.size i0 Tryz.underlying31 hinf hz0 hz1 hz2 _ _ rfl hown _ _ _ _ (hF 3 (hpre 3 (by kernel_rfl))) ((hS.out.later hI.below).front hq) (by simp only [List.length_nil]; omega) hI.below.size ?_
                    intro v' w' ho hg hat
                    exact (hI.put (by decide) (by decide) (fun j _ _ h => h) trivial (hX.op4 (by rw [hI.size]; decide) (by decide) (hpre 0 (by kernel_rfl)) hnd (fun h => hnd (hcl 7 h 4 (by kernel_rfl))) (fun h => hnd (hcl 7 (hcl 11 h 7 (by kernel_rfl)) 4 (by kernel_rfl))) (by simpa using ho) hg hat) (hown.below hI.below hg hI.below.size))
                  · exact wpOp_move rfl (wanted_free rfl) _ rfl _ (hI.same 5 (by decide)) (hI.put (by decide) (by decide) (fun j _ _ h => h) rfl (hI.more.pure (by decide) (by decide) _) hI.below)
                  · have h1 : a.eval (.tmp 49) = _ := (hF 5 (hpre 5 (by kernel_rfl)))
                    exact wpOp_build rfl (wanted_free rfl) _ _ _ rfl #[(0, .string t)] (by simp [h1]) _ (run_build9 w1 t) (hI.put (by decide) (by decide) (fun j _ _ h => h) trivial (hI.more.op6 (by rw [hI.size]; decide) (by decide) (by decide) (fun h => hnd (hcl 7 h 6 (by kernel_rfl))) (fun h => hnd (hcl 7 (hcl 11 h 7 (by kernel_rfl)) 6 (by kernel_rfl)))) (hI.below.alloc hI.below.size _))
                  · have hX := hI.more
                    obtain ⟨g6, e6, hg6, hc6⟩ := hX.six (hpre 6 (by kernel_rfl)) hnd
                    have hown := (hX.c4 (hpre 4 (by kernel_rfl)) hnd).1
                    refine wpOp_append_strs rfl (wanted_free rfl) _ _ _ rfl w4.heap.size i0 Tryz.underlying31 hinf hz0 hz1 hz2 _ _ rfl hown _ _ _ [t] e6 ⟨rfl, Nat.le_refl _, by simp [maxLen], (fun e => by cases e), fun _ => ⟨g6, 0, rfl, hg6, fun j hj => by have hj0 : j = 0 := (by simpa using hj); subst hj0; exact hc6⟩⟩ (by simp only [List.length_take]; omega) hI.below.size ?_
                    intro v' w' ho hg hat
                    exact (hI.put (by decide) (by decide) (fun j _ _ h => h) trivial (PutX.op7 (by rw [hI.size]; decide) (hpre 4 (by kernel_rfl)) (fun h => hnd (hcl 11 h 7 (by kernel_rfl))) ho) (hown.below hI.below hg hI.below.size))
                  · exact wpOp_move rfl (wanted_free rfl) _ rfl _ (hI.same 3 (by decide)) (hI.put (by decide) (by decide) (fun j _ _ h => h) rfl (hI.more.pure (by decide) (by decide) _) hI.below)
                  · exact wpOp_move rfl (wanted_free rfl) _ rfl _ (hI.same 6 (by decide)) (hI.put (by decide) (by decide) (fun j _ _ h => h) rfl (hI.more.pure (by decide) (by decide) _) hI.below)
                  · exact wpOp_slice rfl (wanted_free rfl) _ _ _ _ _ rfl _ _ (some (.int .i64 (q : Int))) Option.none Option.none (hF 8 (hpre 8 (by kernel_rfl))) (congrArg some (hF 9 (hpre 9 (by kernel_rfl)))) rfl rfl (run_backS w1 _ m c q hq hmc) (hI.put (by decide) (by decide) (fun j _ _ h => h) rfl (hI.more.pure (by decide) (by decide) _) hI.below)
                  · have hX := hI.more
                    have d7 := hpre 7 (by kernel_rfl)
                    have hown := hX.c7 d7 hnd
                    refine wpOp_append_strs rfl (wanted_free rfl) _ _ _ rfl w4.heap.size i0 Tryz.underlying31 hinf hz0 hz1 hz2 _ _ rfl hown _ _ _ _ (hF 10 (hpre 10 (by kernel_rfl))) ((hS.out.later hI.below).backAny hq) (by simp only [List.length_append, List.length_take, List.length_cons, List.length_nil]; omega) hI.below.size ?_
                    intro v' w' ho hg hat
                    exact (hI.put (by decide) (by decide) (fun j _ _ h => h) trivial (PutX.op11 (by rw [hI.size]; decide) (hcl 7 d7 4 (by kernel_rfl)) d7 ho) (hown.below hI.below hg hI.below.size))
                · intro D a w1 hI hall
                  have hB1 := hI.below
                  have hown := hI.more.c11 (hall 11 (by decide))
                  have hdone := hI.done (by decide) rfl hall
                  have h55 : ∃ v55, v55 = a.eval (.tmp 55) := ⟨_, rfl⟩
                  obtain ⟨v55, h55⟩ := h55
                  rw [← h55] at hown
                  clear hI hall
                  show wpOps _ _ _ [12] a w1
                  rw [wpOps_cons]
                  refine wpOp_assign rfl (wanted_free rfl) _ rfl _ h55.symm ?_
                  show wpOps _ _ _ _ (a.put (some 3) v55) w1
                  rw [wpOps]
                  obtain ⟨fs, rfl, _⟩ := hdone
                  clear h55
                  simp only [putAll, List.map_cons, List.map_nil, Act.put, List.setIfInBounds_toArray, List.set_cons_zero, List.set_cons_succ]
                  generalize fs 44 = y44
                  generalize fs 45 = y45
                  generalize fs 46 = y46
                  generalize fs 47 = y47
                  generalize fs 48 = y48
                  generalize fs 49 = y49
                  generalize fs 50 = y50
                  generalize fs 51 = y51
                  generalize fs 52 = y52
                  generalize fs 53 = y53
                  generalize fs 54 = y54
                  generalize fs 55 = y55
                  go_wp2
                  go_roundw
                  case rel => exact ⟨k + 1, out.take q ++ [tl] ++ out.drop q, by omega, by go_num, (ownsT_of hown (by rw [htl.out, hzs'.out]; exact put_map out tl q)).low hB2, hput.out.1, hput.out.2, by have := hlen; simp; omega, below_then hbw hB1⟩
                  case measure => simp [RowKit.intOf]; omega
            · have eq0 : q = m := by omega
              have hput := Lib.hid (hnew.out q (by rw [eq0, hml'.out]; exact Nat.le_refl _) hlo.out (fun h => absurd h (by rw [eq0, hml'.out]; omega)))
              have hqge : m ≤ q := by omega
              clear eq0 hnew hlo hqm
              go_wp2
              refine wp_region_tail 12 13 (by decide) (by kernel_rfl) (RInv 57 [44, 45, 46, 47, 48, 49, 50, 51, 52, 53, 54, 55] _ (ruF A m c q t) w4 (PutX 44 48 50 51 55 w4.heap.size t (zs.take q) (zs.drop q))) (by kernel_rfl) (by kernel_rfl) (RInv.start rfl ⟨fun h => h.elim, fun h => h.elim, fun h => h.elim, fun h => h.elim, fun h => h.elim⟩ (Below.refl _ _).drew) ?_ ?_
              · intro i hi D a w1 hI hcl hnd hpre
                have hi' : i < 12 := hi
                have hcase : i = 0 ∨ i = 1 ∨ i = 2 ∨ i = 3 ∨ i = 4 ∨ i = 5 ∨ i = 6 ∨ i = 7 ∨ i = 8 ∨ i = 9 ∨ i = 10 ∨ i = 11 := by omega
                have hF := hI.fact
                rcases hcase with rfl | rfl | rfl | rfl | rfl | rfl | rfl | rfl | rfl | rfl | rfl | rfl
                · exact wpOp_build rfl (wanted_free rfl) _ _ _ rfl #[] (by simp) _ (run_build0 w1) (hI.put (by decide) (by decide) (fun j _ _ h => h) trivial (hI.more.op0 hI.below.size (by rw [hI.size]; decide) (by decide) (fun h => hnd (hcl 4 h 0 (by kernel_rfl))) (fun h => hnd (hcl 4 (hcl 7 h 4 (by kernel_rfl)) 0 (by kernel_rfl))) (fun h => hnd (hcl 4 (hcl 7 (hcl 11 h 7 (by kernel_rfl)) 4 (by kernel_rfl)) 0 (by kernel_rfl)))) (hI.below.alloc hI.below.size _))
                · exact wpOp_move rfl (wanted_free rfl) _ rfl _ (hI.same 3 (by decide)) (hI.put (by decide) (by decide) (fun j _ _ h => h) rfl (hI.more.pure (by decide) (by decide) _) hI.below)
                · exact wpOp_move rfl (wanted_free rfl) _ rfl _ (hI.same 6 (by decide)) (hI.put (by decide) (by decide) (fun j _ _ h => h) rfl (hI.more.pure (by decide) (by decide) _) hI.below)
                · exact wpOp_slice rfl (wanted_free rfl) _ _ _ _ _ rfl _ _ Option.none (some (.int .i64 (q : Int))) Option.none (hF 1 (hpre 1 (by kernel_rfl))) rfl (congrArg some (hF 2 (hpre 2 (by kernel_rfl)))) rfl (run_frontS w1 A m c q hq hmc) (hI.put (by decide) (by decide) (fun j _ _ h => h) rfl (hI.more.pure (by decide) (by decide) _) hI.below)
                · have hX := hI.more
                  have hown := (hX.c0 (hpre 0 (by kernel_rfl)) hnd).1
                  refine wpOp_append_strs rfl (wanted_free rfl) _ _ _ rfl w4.heap.size i0 Tryz.underlying31 hinf hz0 hz1 hz2 _ _ rfl hown _ _ _ _ (hF 3 (hpre 3 (by kernel_rfl))) ((hS.out.later hI.below).front hq) (by simp only [List.length_nil]; omega) hI.below.size ?_
                  intro v' w' ho hg hat
                  exact (hI.put (by decide) (by decide) (fun j _ _ h => h) trivial (hX.op4 (by rw [hI.size]; decide) (by decide) (hpre 0 (by kernel_rfl)) hnd (fun h => hnd (hcl 7 h 4 (by kernel_rfl))) (fun h => hnd (hcl 7 (hcl 11 h 7 (by kernel_rfl)) 4 (by kernel_rfl))) (by simpa using ho) hg hat) (hown.below hI.below hg hI.below.size))
                · exact wpOp_move rfl (wanted_free rfl) _ rfl _ (hI.same 5 (by decide)) (hI.put (by decide) (by decide) (fun j _ _ h => h) rfl (hI.more.pure (by decide) (by decide) _) hI.below)
                · have h1 : a.eval (.tmp 49) = _ := (hF 5 (hpre 5 (by kernel_rfl)))
                  exact wpOp_build rfl (wanted_free rfl) _ _ _ rfl #[(0, .string t)] (by simp [h1]) _ (run_build9 w1 t) (hI.put (by decide) (by decide) (fun j _ _ h => h) trivial (hI.more.op6 (by rw [hI.size]; decide) (by decide) (by decide) (fun h => hnd (hcl 7 h 6 (by kernel_rfl))) (fun h => hnd (hcl 7 (hcl 11 h 7 (by kernel_rfl)) 6 (by kernel_rfl)))) (hI.below.alloc hI.below.size _))
                · have hX := hI.more
                  obtain ⟨g6, e6, hg6, hc6⟩ := hX.six (hpre 6 (by kernel_rfl)) hnd
                  have hown := (hX.c4 (hpre 4 (by kernel_rfl)) hnd).1
                  refine wpOp_append_strs rfl (wanted_free rfl) _ _ _ rfl w4.heap.size i0 Tryz.underlying31 hinf hz0 hz1 hz2 _ _ rfl hown _ _ _ [t] e6 ⟨rfl, Nat.le_refl _, by simp [maxLen], (fun e => by cases e), fun _ => ⟨g6, 0, rfl, hg6, fun j hj => by have hj0 : j = 0 := (by simpa using hj); subst hj0; exact hc6⟩⟩ (by simp only [List.length_take]; omega) hI.below.size ?_
                  intro v' w' ho hg hat
                  exact (hI.put (by decide) (by decide) (fun j _ _ h => h) trivial (PutX.op7 (by rw [hI.size]; decide) (hpre 4 (by kernel_rfl)) (fun h => hnd (hcl 11 h 7 (by kernel_rfl))) ho) (hown.below hI.below hg hI.below.size))
                · exact wpOp_move rfl (wanted_free rfl) _ rfl _ (hI.same 3 (by decide)) (hI.put (by decide) (by decide) (fun j _ _ h => h) rfl (hI.more.pure (by decide) (by decide) _) hI.below)
                · exact wpOp_move rfl (wanted_free rfl) _ rfl _ (hI.same 6 (by decide)) (hI.put (by decide) (by decide) (fun j _ _ h => h) rfl (hI.more.pure (by decide) (by decide) _) hI.below)
                · exact wpOp_slice rfl (wanted_free rfl) _ _ _ _ _ rfl _ _ (some (.int .i64 (q : Int))) Option.none Option.none (hF 8 (hpre 8 (by kernel_rfl))) (congrArg some (hF 9 (hpre 9 (by kernel_rfl)))) rfl rfl (run_backS w1 A m c q hq hmc) (hI.put (by decide) (by decide) (fun j _ _ h => h) rfl (hI.more.pure (by decide) (by decide) _) hI.below)
                · have hX := hI.more
                  have d7 := hpre 7 (by kernel_rfl)
                  have hown := hX.c7 d7 hnd
                  refine wpOp_append_strs rfl (wanted_free rfl) _ _ _ rfl w4.heap.size i0 Tryz.underlying31 hinf hz0 hz1 hz2 _ _ rfl hown _ _ _ _ (hF 10 (hpre 10 (by kernel_rfl))) ((hS.out.later hI.below).backAny hq) (by simp only [List.length_append, List.length_take, List.length_cons, List.length_nil]; omega) hI.below.size ?_
                  intro v' w' ho hg hat
                  exact (hI.put (by decide) (by decide) (fun j _ _ h => h) trivial (PutX.op11 (by rw [hI.size]; decide) (hcl 7 d7 4 (by kernel_rfl)) d7 ho) (hown.below hI.below hg hI.below.size))
              · intro D a w1 hI hall
                have hB1 := hI.below
                have hown := hI.more.c11 (hall 11 (by decide))
                have hdone := hI.done (by decide) rfl hall
                have h55 : ∃ v55, v55 = a.eval (.tmp 55) := ⟨_, rfl⟩
                obtain ⟨v55, h55⟩ := h55
                rw [← h55] at hown
                clear hI hall
                show wpOps _ _ _ [12] a w1
                rw [wpOps_cons]
                refine wpOp_assign rfl (wanted_free rfl) _ rfl _ h55.symm ?_
                show wpOps _ _ _ _ (a.put (some 3) v55) w1
                rw [wpOps]
                obtain ⟨fs, rfl, _⟩ := hdone
                clear h55
                simp only [putAll, List.map_cons, List.map_nil, Act.put, List.setIfInBounds_toArray, List.set_cons_zero, List.set_cons_succ]
                generalize fs 44 = y44
                generalize fs 45 = y45
                generalize fs 46 = y46
                generalize fs 47 = y47
                generalize fs 48 = y48
                generalize fs 49 = y49
                generalize fs 50 = y50
                generalize fs 51 = y51
                generalize fs 52 = y52
                generalize fs 53 = y53
                generalize fs 54 = y54
                generalize fs 55 = y55
                go_wp2
                go_roundw
                case rel => exact ⟨k + 1, out.take q ++ [tl] ++ out.drop q, by omega, by go_num, (ownsT_of hown (by rw [htl.out, hzs'.out]; exact put_map out tl q)).low hB2, hput.out.1, hput.out.2, by have := hlen; simp; omega, below_then hbw hB1⟩
                case measure => simp [RowKit.intOf]; omega
    · have ek : k = n := by omega
      subst ek
      have hf : Hid (out = uns l) := Lib.hid (uns_is hst.out (fun x => by have := hmem.out x; rwa [← hl.out, List.take_length] at this))
      clear hst hmem
      go_wp2
      go_ret
      exact ⟨_, rfl, by rw [← hf.out]; exact hown, hb⟩
end Go.Proofs.YtalnjlodldhfbaaGreatDoor
