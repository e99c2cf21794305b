/-
  The walk of AsciiRound: it returns true, and nothing that was there is changed. Conditions: at most 2^32 - 16 bytes (the library's contract of strings.Split), and what the frame of the proof hands over.
-/
import Derived.Test.YtgmooccjjpipjaaDoorAscRoundMath
namespace Go.Proofs.YtgmooccjjpipjaaDoor
open Go.RowKit Go.Lib

/-- A slot holds a slice that reads as the texts l. -/
def TT (l : List (List UInt8)) (v : Value) (w : World) : Prop := ∃ A c, v = .slice A l.length c ∧ Texts w A l.length l
theorem TT.keeps {l : List (List UInt8)} {v : Value} {w w' : World} (h : TT l v w) (hk : Keeps w w') : TT l v w' := by
  obtain ⟨A, c, rfl, hT⟩ := h
  refine ⟨A, c, rfl, hT.len, fun hn => ?_⟩
  obtain ⟨b, e, hlt, hc⟩ := hT.cell hn
  exact ⟨b, e, Nat.lt_of_lt_of_le hlt hk.size, fun j hj => hk.cell _ _ (hc j hj)⟩

theorem run_idx (w : World) (g n c k : Nat) (h : k < n) : (Instr.indexAt 26 (.slice (some ⟨g, 0, Option.none⟩) n c) (.int .i64 (k : Int))).run Tryd.prog w = .ok (.pointer (some ⟨g, k, Option.none⟩)) w := by go_simp
theorem run_loadS (w : World) (g k : Nat) (x : ByteArray) (h : w.cell? ⟨g, k, Option.none⟩ = some (.string x)) : (Instr.loadAt 9 (.pointer (some ⟨g, k, Option.none⟩))).run Tryd.prog w = .ok (.string x) w := by go_simp
theorem run_bare (x y : Operand) (s : ByteArray) (hs : s.toList.isEmpty = false) (w : World) : (do eqGuard .eql 9 x y (.string s) (.string ⟨#[]⟩); binOp .eql 9 (.string s) (.string ⟨#[]⟩) : Sem Value).run Tryd.prog w = .ok (.bool false) w := by go_simp
theorem run_neq_same (x y : Operand) (s : ByteArray) (w : World) : (do eqGuard .neq 9 x y (.string s) (.string s); binOp .neq 9 (.string s) (.string s) : Sem Value).run Tryd.prog w = .ok (.bool false) w := by go_simp
theorem run_buildS (w : World) (x : ByteArray) : (Instr.buildSlice 26 1 #[(0, .string x)]).run Tryd.prog w = .ok (.slice (some ⟨w.heap.size, 0, Option.none⟩) 1 1) (w.alloc (.cells #[.string x] 9)) := by go_simp
theorem run_no (w : World) : (Op.unary .not (.bool true)).run Tryd.prog w = .ok (.bool false) w := by go_simp
theorem enters_trim (vs : Array Value) (w : World) : (callFunc 14 vs).run Tryd.prog w = .ok (.enter 14 vs) w := by kernel_rfl
theorem enters_list (vs : Array Value) (w : World) : (callFunc 17 vs).run Tryd.prog w = .ok (.enter 17 vs) w := by kernel_rfl
theorem enters_same (vs : Array Value) (w : World) : (callFunc 16 vs).run Tryd.prog w = .ok (.enter 16 vs) w := by kernel_rfl

/-- What the slots of the loop's test hold. -/
def arF (g n c k : Nat) (x : ByteArray) (p : List UInt8) (j : Nat) (v : Value) (w : World) : Prop :=
  match j with
  | 0 => v = .slice (some ⟨g, 0, Option.none⟩) n c
  | 1 => v = .int .i64 k
  | 2 => v = .pointer (some ⟨g, k, Option.none⟩)
  | 3 => v = .string x
  | 4 => v = .bool false
  | 5 => v = .bool false
  | 6 => v = .slice (some ⟨g, 0, Option.none⟩) n c
  | 7 => v = .int .i64 k
  | 8 => v = .pointer (some ⟨g, k, Option.none⟩)
  | 9 => v = .string x
  | 10 => v = .string x
  | 11 => v = .slice (some ⟨g, 0, Option.none⟩) n c
  | 12 => v = .int .i64 k
  | 13 => v = .pointer (some ⟨g, k, Option.none⟩)
  | 14 => v = .string x
  | 15 => v = .bool false
  | 16 => v = .bool false
  | 17 => v = .bool false
  | 18 => v = .slice (some ⟨g, 0, Option.none⟩) n c
  | 19 => v = .int .i64 k
  | 20 => v = .pointer (some ⟨g, k, Option.none⟩)
  | 21 => v = .string x
  | 22 => TT [p] v w
  | 23 => v = .slice (some ⟨g, 0, Option.none⟩) n c
  | 24 => v = .int .i64 k
  | 25 => v = .pointer (some ⟨g, k, Option.none⟩)
  | 26 => v = .string x
  | 27 => TT [p] v w
  | 28 => v = .bool true
  | 29 => v = .bool false
  | 30 => v = .bool false
  | _ => True
theorem arF_later {g n c k : Nat} {x : ByteArray} {p : List UInt8} : Outlives (arF g n c k x p) := by
  intro j v w w' h hk
  unfold arF at h ⊢
  split at h
  all_goals first | exact h.keeps hk | exact h

set_option maxHeartbeats 4000000 in
set_option maxRecDepth 100000 in
theorem asciiRound_law (s : ByteArray) (hs : s.size < 4294967281) (w : World) (hm : Lim w) : Calls Tryd.prog 6 #[.string s] w (Yes w) := by
  have hmax : s.size ≤ maxLen := by simp only [maxLen]; omega
  have e1 := low_up s
  have e2 := up_low s
  have e3 := low_size s
  have e4 := up_size s
  have hL := Lib.hid (fun W h => list_any s hs W h)
  have hpart := Lib.hid (fun p (h : p ∈ listOf s.data.toList) => part_good h)
  have hl : (listOf s.data.toList).length ≤ s.size + 1 := by
    have h3 := clean_len (cutAt s.data.toList)
    have h4 := cut_len s.data.toList
    rw [← size_len] at h4
    unfold listOf
    omega
  rw [← size_len] at hpart
  generalize listOf s.data.toList = L at hL hpart hl
  obtain ⟨n, hn⟩ : ∃ n, n = L.length := ⟨_, rfl⟩
  rw [← hn] at hl
  have hn' := Lib.hid hn
  have hm' := Lib.hid hm
  have hB : Below w.heap.size w w := Below.refl _ _
  clear hn hm
  go_enter Tryd.func6, Tryd.ntmps6
  go_wp2_with (first
    | (go_at_call 8; refine (lowT_any _ (by first | exact hmax | (rw [up_size]; exact hmax)) _).mono ?_; rintro e w1 ⟨rfl, hb1⟩; replace hB := below_next hB hb1; clear hb1)
    | (go_at_call 10; refine (upT_any _ (by first | exact hmax | (rw [low_size]; exact hmax)) _).mono ?_; rintro e w1 ⟨rfl, hb1⟩; replace hB := below_next hB hb1; clear hb1)
    | (go_at_call 17; refine (hL.out _ (hm'.out.later hB)).mono ?_; rintro e w2 ⟨v, rfl, hown, hb2⟩; obtain ⟨X, c, hv, hT⟩ := hown.texts; rw [← hn'.out] at hv hT; subst hv; have hT' := Lib.hid hT; replace hB := below_next hB hb2; clear hown hT hb2))
  clear e1 e2 e3 e4
  go_loopw [4] (fun i wr => ∃ k : Nat, k ≤ n ∧ i = .int .i64 k ∧ Below w2.heap.size w2 wr) (fun i _ => n - (RowKit.intOf i).toNat)
  case atStart => exact ⟨0, Nat.zero_le _, rfl, Below.refl _ _⟩
  case round =>
    obtain ⟨k, hk, rfl, hbe⟩ := hrel
    have hlim : Lim wr := hm'.out.later (below_next hB hbe)
    by_cases hkn : k < n
    · by_cases hk50 : k < 50
      · have hkL : k < L.length := by rw [← hn'.out]; exact hkn
        obtain ⟨g, hX, _, hc⟩ := (hT'.out.later hbe).cell (by omega)
        have hcell0 := hc k hkn
        rw [List.getElem?_eq_getElem hkL] at hcell0
        obtain ⟨hp0, hp1, hp2, hp3⟩ := hpart.out L[k] (List.getElem_mem hkL)
        obtain ⟨p, hp⟩ : ∃ p, p = L[k] := ⟨_, rfl⟩
        rw [← hp] at hp0 hp1 hp2 hp3
        obtain ⟨x, hx⟩ : ∃ x, x = mk p := ⟨_, rfl⟩
        have hcell' : wr.cell? ⟨g, k, Option.none⟩ = some (.string x) := by rw [hx, hp]; exact hcell0
        have hx0' : x.toList.isEmpty = false := by rw [hx, ByteArray.toList_eq, mk_list]; simpa using hp0
        have hxl : x.size ≤ s.size := by rw [hx, mk_size]; exact hp3
        have htr' : Hid (∀ W, Calls Tryd.prog 14 #[.string x] W fun e w' => e = .returned (.string x) ∧ Below W.heap.size W w') := Lib.hid fun W => by
          have h := trim_any x (by omega) W
          have e : (⟨(trim x.data.toList).toArray⟩ : ByteArray) = x := by rw [hx, mk_list, hp1]; rfl
          rw [e] at h
          exact h
        have hli' : Hid (∀ W, Lim W → Calls Tryd.prog 17 #[.string x] W (GivesT W [p])) := Lib.hid fun W h => by
          have h := list_any x (by omega) W h
          have e : listOf x.data.toList = [p] := by rw [hx, mk_list, hp2]
          rw [e] at h
          exact h
        have hcell'' := Lib.hid hcell'
        have hx0'' := Lib.hid hx0'
        have hx' := Lib.hid hx
        have hlim' := Lib.hid hlim
        subst hX
        clear hc hcell0 hp0 hp1 hp2 hp3 hp hx hcell' hx0' hxl hkL hlim
        go_wp2
        have htr := htr'.out
        have hli := hli'.out
        have hcell := hcell''.out
        have hx0 := hx0''.out
        have hxp := hx'.out
        have hlim := hlim'.out
        refine wp_region_each (RInv 71 [39, 40, 41, 42, 43, 44, 45, 46, 47, 48, 49, 50, 51, 52, 53, 54, 55, 56, 57, 58, 59, 60, 61, 62, 63, 64, 65, 66, 67, 68, 69] _ (arF g n c k x p) wr NoMore) (by kernel_rfl) (by kernel_rfl) (RInv.start rfl trivial (Below.refl _ _).drew) ?_ ?_
        · intro i hi D a w1 hI hcl hnd hpre
          have hi' : i < 31 := hi
          have hcase : i = 0 ∨ i = 1 ∨ i = 2 ∨ i = 3 ∨ i = 4 ∨ i = 5 ∨ i = 6 ∨ i = 7 ∨ i = 8 ∨ i = 9 ∨ i = 10 ∨ i = 11 ∨ i = 12 ∨ i = 13 ∨ i = 14 ∨ i = 15 ∨ i = 16 ∨ i = 17 ∨ i = 18 ∨ i = 19 ∨ i = 20 ∨ i = 21 ∨ i = 22 ∨ i = 23 ∨ i = 24 ∨ i = 25 ∨ i = 26 ∨ i = 27 ∨ i = 28 ∨ i = 29 ∨ i = 30 := by omega
          have hF := hI.fact
          rcases hcase with rfl | rfl | rfl | rfl | rfl | rfl | rfl | rfl | rfl | rfl | rfl | rfl | rfl | rfl | rfl | rfl | rfl | rfl | rfl | rfl | rfl | rfl | rfl | rfl | rfl | rfl | rfl | rfl | rfl | rfl | rfl
          · exact wpOp_move rfl (wanted_free rfl) _ rfl _ (hI.same 3 (by decide)) (hI.add (by decide) arF_later (by decide) (Below.refl _ _) rfl)
          · exact wpOp_move rfl (wanted_free rfl) _ rfl _ (hI.same 4 (by decide)) (hI.add (by decide) arF_later (by decide) (Below.refl _ _) rfl)
          · exact wpOp_index rfl (wanted_free rfl) _ _ _ rfl _ _ _ (hF 0 (hpre 0 (by kernel_rfl))) (hF 1 (hpre 1 (by kernel_rfl))) (run_idx w1 g n c k hkn) (hI.add (by decide) arF_later (by decide) (Below.refl _ _) rfl)
          · exact wpOp_load rfl (wanted_free rfl) _ _ rfl _ _ (hF 2 (hpre 2 (by kernel_rfl))) (run_loadS w1 g k x (cell_later hI.below hcell)) (hI.add (by decide) arF_later (by decide) (Below.refl _ _) rfl)
          · exact wpOp_bin rfl (wanted_free rfl) _ _ _ _ _ rfl _ _ _ (hF 3 (hpre 3 (by kernel_rfl))) rfl (run_bare _ _ x hx0 w1) (hI.add (by decide) arF_later (by decide) (Below.refl _ _) rfl)
          · exact wpOp_move rfl (wanted_free rfl) _ rfl _ (hF 4 (hpre 4 (by kernel_rfl))) (hI.add (by decide) arF_later (by decide) (Below.refl _ _) rfl)
          · have g5 := hF 5 (hpre 5 (by kernel_rfl))
            exact wpOp_move rfl (wanted_by (d := 44) rfl _ rfl rfl g5) _ rfl _ (hI.same 3 (by decide)) (hI.add (by decide) arF_later (by decide) (Below.refl _ _) rfl)
          · have g5 := hF 5 (hpre 5 (by kernel_rfl))
            exact wpOp_move rfl (wanted_by (d := 44) rfl _ rfl rfl g5) _ rfl _ (hI.same 4 (by decide)) (hI.add (by decide) arF_later (by decide) (Below.refl _ _) rfl)
          · have g5 := hF 5 (hpre 5 (by kernel_rfl))
            exact wpOp_index rfl (wanted_by (d := 44) rfl _ rfl rfl g5) _ _ _ rfl _ _ _ (hF 6 (hpre 6 (by kernel_rfl))) (hF 7 (hpre 7 (by kernel_rfl))) (run_idx w1 g n c k hkn) (hI.add (by decide) arF_later (by decide) (Below.refl _ _) rfl)
          · have g5 := hF 5 (hpre 5 (by kernel_rfl))
            exact wpOp_load rfl (wanted_by (d := 44) rfl _ rfl rfl g5) _ _ rfl _ _ (hF 8 (hpre 8 (by kernel_rfl))) (run_loadS w1 g k x (cell_later hI.below hcell)) (hI.add (by decide) arF_later (by decide) (Below.refl _ _) rfl)
          · have g5 := hF 5 (hpre 5 (by kernel_rfl))
            exact wpOp_call1 rfl (wanted_by (d := 44) rfl _ rfl rfl g5) 14 _ _ rfl _ (hF 9 (hpre 9 (by kernel_rfl))) (enters_trim _ _) (htr w1) (fun e w' h => ⟨_, h.1, hI.add (by decide) arF_later (by decide) h.2 rfl⟩)
          · have g5 := hF 5 (hpre 5 (by kernel_rfl))
            exact wpOp_move rfl (wanted_by (d := 44) rfl _ rfl rfl g5) _ rfl _ (hI.same 3 (by decide)) (hI.add (by decide) arF_later (by decide) (Below.refl _ _) rfl)
          · have g5 := hF 5 (hpre 5 (by kernel_rfl))
            exact wpOp_move rfl (wanted_by (d := 44) rfl _ rfl rfl g5) _ rfl _ (hI.same 4 (by decide)) (hI.add (by decide) arF_later (by decide) (Below.refl _ _) rfl)
          · have g5 := hF 5 (hpre 5 (by kernel_rfl))
            exact wpOp_index rfl (wanted_by (d := 44) rfl _ rfl rfl g5) _ _ _ rfl _ _ _ (hF 11 (hpre 11 (by kernel_rfl))) (hF 12 (hpre 12 (by kernel_rfl))) (run_idx w1 g n c k hkn) (hI.add (by decide) arF_later (by decide) (Below.refl _ _) rfl)
          · have g5 := hF 5 (hpre 5 (by kernel_rfl))
            exact wpOp_load rfl (wanted_by (d := 44) rfl _ rfl rfl g5) _ _ rfl _ _ (hF 13 (hpre 13 (by kernel_rfl))) (run_loadS w1 g k x (cell_later hI.below hcell)) (hI.add (by decide) arF_later (by decide) (Below.refl _ _) rfl)
          · have g5 := hF 5 (hpre 5 (by kernel_rfl))
            exact wpOp_bin rfl (wanted_by (d := 44) rfl _ rfl rfl g5) _ _ _ _ _ rfl _ _ _ (hF 10 (hpre 10 (by kernel_rfl))) (hF 14 (hpre 14 (by kernel_rfl))) (run_neq_same _ _ x w1) (hI.add (by decide) arF_later (by decide) (Below.refl _ _) rfl)
          · exact wpOp_pick rfl (wanted_free rfl) _ _ _ rfl false (hF 5 (hpre 5 (by kernel_rfl))) _ (hF 15 (hpre 15 (by kernel_rfl))) (hI.add (by decide) arF_later (by decide) (Below.refl _ _) rfl)
          · exact wpOp_move rfl (wanted_free rfl) _ rfl _ (hF 16 (hpre 16 (by kernel_rfl))) (hI.add (by decide) arF_later (by decide) (Below.refl _ _) rfl)
          · have g17 := hF 17 (hpre 17 (by kernel_rfl))
            exact wpOp_move rfl (wanted_by (d := 56) rfl _ rfl rfl g17) _ rfl _ (hI.same 3 (by decide)) (hI.add (by decide) arF_later (by decide) (Below.refl _ _) rfl)
          · have g17 := hF 17 (hpre 17 (by kernel_rfl))
            exact wpOp_move rfl (wanted_by (d := 56) rfl _ rfl rfl g17) _ rfl _ (hI.same 4 (by decide)) (hI.add (by decide) arF_later (by decide) (Below.refl _ _) rfl)
          · have g17 := hF 17 (hpre 17 (by kernel_rfl))
            exact wpOp_index rfl (wanted_by (d := 56) rfl _ rfl rfl g17) _ _ _ rfl _ _ _ (hF 18 (hpre 18 (by kernel_rfl))) (hF 19 (hpre 19 (by kernel_rfl))) (run_idx w1 g n c k hkn) (hI.add (by decide) arF_later (by decide) (Below.refl _ _) rfl)
          · have g17 := hF 17 (hpre 17 (by kernel_rfl))
            exact wpOp_load rfl (wanted_by (d := 56) rfl _ rfl rfl g17) _ _ rfl _ _ (hF 20 (hpre 20 (by kernel_rfl))) (run_loadS w1 g k x (cell_later hI.below hcell)) (hI.add (by decide) arF_later (by decide) (Below.refl _ _) rfl)
          · have g17 := hF 17 (hpre 17 (by kernel_rfl))
            refine wpOp_call1 rfl (wanted_by (d := 56) rfl _ rfl rfl g17) 17 _ _ rfl _ (hF 21 (hpre 21 (by kernel_rfl))) (enters_list _ _) (hli w1 (hlim.later hI.below)) (fun e w' h => ?_)
            obtain ⟨v, rfl, ho, hb⟩ := h
            exact ⟨_, rfl, hI.add (by decide) arF_later (by decide) hb ho.texts⟩
          · have g17 := hF 17 (hpre 17 (by kernel_rfl))
            exact wpOp_move rfl (wanted_by (d := 56) rfl _ rfl rfl g17) _ rfl _ (hI.same 3 (by decide)) (hI.add (by decide) arF_later (by decide) (Below.refl _ _) rfl)
          · have g17 := hF 17 (hpre 17 (by kernel_rfl))
            exact wpOp_move rfl (wanted_by (d := 56) rfl _ rfl rfl g17) _ rfl _ (hI.same 4 (by decide)) (hI.add (by decide) arF_later (by decide) (Below.refl _ _) rfl)
          · have g17 := hF 17 (hpre 17 (by kernel_rfl))
            exact wpOp_index rfl (wanted_by (d := 56) rfl _ rfl rfl g17) _ _ _ rfl _ _ _ (hF 23 (hpre 23 (by kernel_rfl))) (hF 24 (hpre 24 (by kernel_rfl))) (run_idx w1 g n c k hkn) (hI.add (by decide) arF_later (by decide) (Below.refl _ _) rfl)
          · have g17 := hF 17 (hpre 17 (by kernel_rfl))
            exact wpOp_load rfl (wanted_by (d := 56) rfl _ rfl rfl g17) _ _ rfl _ _ (hF 25 (hpre 25 (by kernel_rfl))) (run_loadS w1 g k x (cell_later hI.below hcell)) (hI.add (by decide) arF_later (by decide) (Below.refl _ _) rfl)
          · have g17 := hF 17 (hpre 17 (by kernel_rfl))
            have h1 : a.eval (.tmp 65) = _ := (hF 26 (hpre 26 (by kernel_rfl)))
            exact wpOp_build rfl (wanted_by (d := 56) rfl _ rfl rfl g17) _ _ _ rfl #[(0, .string x)] (by simp [h1]) _ (run_buildS w1 x) (hI.add (by decide) arF_later (by decide) ((Below.refl _ _).alloc (Nat.le_refl _) _) ⟨_, _, rfl, texts_new w1 _ [p] (by rw [hxp]; rfl)⟩)
          · have g17 := hF 17 (hpre 17 (by kernel_rfl))
            obtain ⟨A1, c1, h1, T1⟩ := (hF 22 (hpre 22 (by kernel_rfl)))
            obtain ⟨A2, c2, h2, T2⟩ := (hF 27 (hpre 27 (by kernel_rfl)))
            refine wpOp_call2 rfl (wanted_by (d := 56) rfl _ rfl rfl g17) 16 _ _ _ rfl _ _ h1 h2 (enters_same _ _) (same_any A1 A2 1 1 c1 c2 [p] [p] w1 T1 T2 (by omega) (by omega)) (fun e w' h => ?_)
            exact ⟨_, h.1, hI.add (by decide) arF_later (by decide) h.2 (by show _ = _; simp)⟩
          · have g17 := hF 17 (hpre 17 (by kernel_rfl))
            exact wpOp_unary rfl (wanted_by (d := 56) rfl _ rfl rfl g17) _ _ _ rfl _ _ (hF 28 (hpre 28 (by kernel_rfl))) (run_no w1) (hI.add (by decide) arF_later (by decide) (Below.refl _ _) rfl)
          · exact wpOp_pick rfl (wanted_free rfl) _ _ _ rfl false (hF 17 (hpre 17 (by kernel_rfl))) _ (hF 29 (hpre 29 (by kernel_rfl))) (hI.add (by decide) arF_later (by decide) (Below.refl _ _) rfl)
        · intro D a w1 hI hall
          have hz : a.eval (.tmp 69) = .bool false := hI.fact 30 (hall 30 (by decide))
          obtain ⟨E, hE⟩ : ∃ E : Nat → Value, ∀ i, a.eval (.tmp i) = E i := ⟨_, fun _ => rfl⟩
          have ha : a = { tmps := #[E 0, E 1, E 2, E 3, E 4, E 5, E 6, E 7, E 8, E 9, E 10, E 11, E 12, E 13, E 14, E 15, E 16, E 17, E 18, E 19, E 20, E 21, E 22, E 23, E 24, E 25, E 26, E 27, E 28, E 29, E 30, E 31, E 32, E 33, E 34, E 35, E 36, E 37, E 38, E 39, E 40, E 41, E 42, E 43, E 44, E 45, E 46, E 47, E 48, E 49, E 50, E 51, E 52, E 53, E 54, E 55, E 56, E 57, E 58, E 59, E 60, E 61, E 62, E 63, E 64, E 65, E 66, E 67, E 68, E 69, E 70], defers := [] } := by
            refine (frame_eq a 71 hI.size hI.defs).trans ?_
            simp only [hE]
            rfl
          have q0 : E 0 = .string s := (hE 0).symm.trans (hI.same 0 (by decide))
          have q1 : E 1 = undef := (hE 1).symm.trans (hI.same 1 (by decide))
          have q3 : E 3 = .slice (some ⟨g, 0, Option.none⟩) n c := (hE 3).symm.trans (hI.same 3 (by decide))
          have q4 : E 4 = .int .i64 k := (hE 4).symm.trans (hI.same 4 (by decide))
          have q5 : E 5 = .string s := (hE 5).symm.trans (hI.same 5 (by decide))
          have q6 : E 6 = .string (upT s) := (hE 6).symm.trans (hI.same 6 (by decide))
          have q7 : E 7 = .string (lowT s) := (hE 7).symm.trans (hI.same 7 (by decide))
          have q8 : E 8 = .string s := (hE 8).symm.trans (hI.same 8 (by decide))
          have q9 : E 9 = .string (lowT s) := (hE 9).symm.trans (hI.same 9 (by decide))
          have q10 : E 10 = .bool false := (hE 10).symm.trans (hI.same 10 (by decide))
          have q11 : E 11 = .bool false := (hE 11).symm.trans (hI.same 11 (by decide))
          have q12 : E 12 = .string s := (hE 12).symm.trans (hI.same 12 (by decide))
          have q13 : E 13 = .string (lowT s) := (hE 13).symm.trans (hI.same 13 (by decide))
          have q14 : E 14 = .string (upT s) := (hE 14).symm.trans (hI.same 14 (by decide))
          have q15 : E 15 = .string s := (hE 15).symm.trans (hI.same 15 (by decide))
          have q16 : E 16 = .string (upT s) := (hE 16).symm.trans (hI.same 16 (by decide))
          have q17 : E 17 = .bool false := (hE 17).symm.trans (hI.same 17 (by decide))
          have q18 : E 18 = .bool false := (hE 18).symm.trans (hI.same 18 (by decide))
          have q19 : E 19 = .bool false := (hE 19).symm.trans (hI.same 19 (by decide))
          have q20 : E 20 = .string s := (hE 20).symm.trans (hI.same 20 (by decide))
          have q21 : E 21 = .string (lowT s) := (hE 21).symm.trans (hI.same 21 (by decide))
          have q22 : E 22 = .int .i64 s.size := (hE 22).symm.trans (hI.same 22 (by decide))
          have q23 : E 23 = .string s := (hE 23).symm.trans (hI.same 23 (by decide))
          have q24 : E 24 = .int .i64 s.size := (hE 24).symm.trans (hI.same 24 (by decide))
          have q25 : E 25 = .bool false := (hE 25).symm.trans (hI.same 25 (by decide))
          have q26 : E 26 = .bool false := (hE 26).symm.trans (hI.same 26 (by decide))
          have q27 : E 27 = .string s := (hE 27).symm.trans (hI.same 27 (by decide))
          have q28 : E 28 = .slice (some ⟨g, 0, Option.none⟩) n c := (hE 28).symm.trans (hI.same 28 (by decide))
          have q70 : E 70 = undef := (hE 70).symm.trans (hI.same 70 (by decide))
          have q69 : E 69 = .bool false := (hE 69).symm.trans hz
          have hB1 := hI.below
          rw [ha, q0, q1, q3, q4, q5, q6, q7, q8, q9, q10, q11, q12, q13, q14, q15, q16, q17, q18, q19, q20, q21, q22, q23, q24, q25, q26, q27, q28, q70, q69]
          clear hI hall hz hE ha q0 q1 q3 q4 q5 q6 q7 q8 q9 q10 q11 q12 q13 q14 q15 q16 q17 q18 q19 q20 q21 q22 q23 q24 q25 q26 q27 q28 q70 q69
          go_wp2
          go_roundw
          case rel => exact ⟨k + 1, by omega, by go_num, hbe.trans (hB1.mono hbe.size)⟩
          case measure => simp [RowKit.intOf]; omega
      · go_wp2_with (go_at_call 7; refine (awake4_any _ hlim).mono ?_; rintro e w3 ⟨rfl, hb3⟩)
        go_ret
        exact ⟨rfl, below_next (below_next hB hbe) hb3⟩
    · go_wp2_with (go_at_call 7; refine (awake4_any _ hlim).mono ?_; rintro e w3 ⟨rfl, hb3⟩)
      go_ret
      exact ⟨rfl, below_next (below_next hB hbe) hb3⟩
end Go.Proofs.YtgmooccjjpipjaaDoor
