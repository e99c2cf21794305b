/-
  head.matching and the function that it returns. Conditions: those that each theorem states.
-/
import Derived.Test.YtalnjlodldhfbaaGreatDoorHeadLib
import Derived.Test.YtalnjlodldhfbaaGreatDoorLow
import Derived.Deep.RegionWith
namespace Go.Proofs.YtalnjlodldhfbaaGreatDoor
open Go.RowKit Go.Lib Go.Shelf

/-- A row of strings of the call's own: block g holds F 0 to F (n - 1), none of them frozen. -/
def RowS (w : World) (g n : Nat) (F : Nat → ByteArray) : Prop := ∀ j, j < n → w.cell? ⟨g, j, Option.none⟩ = some (.string (F j)) ∧ w.frozen? ⟨g, j, Option.none⟩ = false

/-- The box g holds a slice that reads as the names with small letters. -/
def Lowers (w : World) (g : Nat) (ns : List ByteArray) : Prop := g < w.heap.size ∧ ∃ A n c, w.cell? ⟨g, 0, Option.none⟩ = some (.slice A n c) ∧ Strs w A n c (ns.map fun s => mk (lo s))
theorem Lowers.later {w w' : World} {g : Nat} {ns : List ByteArray} (h : Lowers w g ns) (hb : Below w.heap.size w w') : Lowers w' g ns := by
  obtain ⟨hg, A, n, c, h1, h2⟩ := h
  exact ⟨Nat.lt_of_lt_of_le hg hb.size, A, n, c, cell_later hb h1, h2.later hb⟩
theorem Lowers.keeps {w w' : World} {g : Nat} {ns : List ByteArray} (h : Lowers w g ns) (hb : Keeps w w') : Lowers w' g ns := by
  obtain ⟨hg, A, n, c, h1, h2⟩ := h
  exact ⟨Nat.lt_of_lt_of_le hg hb.size, A, n, c, hb.cell _ _ h1, h2.keeps hb⟩

theorem hit_lows (ns : List ByteArray) (h : Hd) : ((ns.map fun s => mk (lo s)).any fun z => z.data.toList == (mk (lo h.1)).data.toList) = hit ns h := by
  rw [List.any_map]
  unfold hit
  congr 1
  funext n
  show ((mk (lo n)).data.toList == (mk (lo h.1)).data.toList) = alike h.1 n
  rw [mk_list, mk_list, alike_comm]
  rfl

set_option maxHeartbeats 2000000 in
set_option maxRecDepth 100000 in
theorem match_any (ns : List ByteArray) (g : Nat) (h : Hd) (hs : h.1.size ≤ maxLen) (w : World) (hL : Lowers w g ns) :
    Calls Tryz.prog 87 #[.agg #[.string h.1, .string h.2], .pointer (some ⟨g, 0, Option.none⟩)] w fun e w' => e = .returned (.bool (hit ns h)) ∧ Below w.heap.size w w' := by
  obtain ⟨hg, A, n, c, h1, h2⟩ := hL
  have hlow := fun W => lower_any h.1 hs W
  have hr := Lib.hid (hit_lows ns h)
  have e : (⟨(h.1.data.toList.map (turn 65 90 32)).toArray⟩ : ByteArray) = mk (lo h.1) := rfl
  rw [e] at hlow
  generalize mk (lo h.1) = t at hlow hr
  generalize ns.map (fun s => mk (lo s)) = zs at h2 hr
  have hcon : ∀ W, Strs W A n c zs → Calls Tryz.prog 55 #[.slice A n c, .string t] W fun e w' => e = .returned (.bool (hit ns h)) ∧ w' = W := fun W hS => by
    have := contains_any A n c zs t W hS
    rw [hr.out] at this
    exact this
  generalize hit ns h = B at hcon
  have hcon' := Lib.hid hcon
  clear hcon hr
  have h2' := Lib.hid h2
  have hlow' := Lib.hid hlow
  clear h2 hlow e
  go_enter Tryz.func87, Tryz.ntmps87
  go_wp2
  go_region_with (first
    | (go_at_call 26; refine (hlow'.out _).mono ?_; rintro e w' ⟨rfl, hb⟩; have h1' := cell_later (below_then (below_boxd w _) hb) h1)
    | (go_at_call 55; refine (hcon'.out _ (h2'.out.later (below_then (below_boxd w _) hb))).mono ?_; rintro e w2 ⟨rfl, hw⟩; subst hw))
  all_goals
    go_wp2
    go_ret
    exact ⟨rfl, below_then (below_boxd w _) hb⟩

theorem RowS.set {w : World} {g n k : Nat} {F : Nat → ByteArray} (h : RowS w g n F) (hk : k < n) (y : ByteArray) : RowS (w.setCell ⟨g, k, Option.none⟩ (.string y)) g n (fun j => if j = k then y else F j) := by
  intro j hj
  refine ⟨?_, by rw [World.frozen?_setCell]; exact (h j hj).2⟩
  by_cases e : j = k
  · subst e
    rw [World.cell?_setCell_same (u := .string (F j)) (h := (h j hj).1)]
    simp
  · rw [World.cell?_setCell_other (h := fun c => e (by injection c with _ c; exact c.symm))]
    simp only [if_neg e]
    exact (h j hj).1

theorem RowS.later {w w' : World} {g n : Nat} {F : Nat → ByteArray} (h : RowS w g n F) (hb : Below w.heap.size w w') (hg : g < w.heap.size) : RowS w' g n F := fun j hj =>
  ⟨cell_later hb (h j hj).1, by rw [hb.frozen (p := ⟨g, j, Option.none⟩) hg]; exact (h j hj).2⟩
theorem RowS.congr {w : World} {g n : Nat} {F G : Nat → ByteArray} (h : RowS w g n F) (e : ∀ j, j < n → F j = G j) : RowS w g n G := fun j hj => by
  rw [← e j hj]
  exact h j hj
/-- Of the names the first k are turned; the others are empty. -/
def lowTo (ns : List ByteArray) (k j : Nat) : ByteArray := if j < k then mk (lo (ns[j]?.getD ByteArray.empty)) else ByteArray.empty
theorem lowTo_step (ns : List ByteArray) (k j : Nat) (x : ByteArray) (hx : ns[k]?.getD ByteArray.empty = x) : (if j = k then mk (lo x) else lowTo ns k j) = lowTo ns (k + 1) j := by
  unfold lowTo
  by_cases e : j = k
  · subst e
    rw [if_pos rfl, if_pos (by omega), hx]
  · rw [if_neg e]
    by_cases h : j < k
    · rw [if_pos h, if_pos (by omega)]
    · rw [if_neg h, if_neg (by omega)]
theorem row_lows {w : World} {g n : Nat} {ns : List ByteArray} (hl : ns.length = n) (hg : g < w.heap.size) (h : RowS w g n (lowTo ns n)) (hm : n ≤ maxLen) : Strs w (some ⟨g, 0, Option.none⟩) n n (ns.map fun s => mk (lo s)) :=
  ⟨by rw [List.length_map, hl], Nat.le_refl _, hm, (fun e => by cases e), fun _ => ⟨g, 0, rfl, hg, fun j hj => by
    rw [List.length_map] at hj
    rw [Nat.zero_add, (h j (by omega)).1]
    simp [lowTo, show j < n by omega, List.getElem?_eq_getElem hj]⟩⟩

theorem made_at (n j : Nat) (hj : j < n) : (madeCells (Value.string ByteArray.empty).cells n)[j]? = some (.string ByteArray.empty) := by
  have e : (Value.string ByteArray.empty).cells = #[.string ByteArray.empty] := rfl
  rw [e]
  unfold madeCells
  rw [Array.getElem?_map, Array.getElem?_range]
  simp [hj, Nat.mod_one]

theorem make_strs (n : Nat) (hn : n ≤ 1000) (w : World) : ∃ w', (Instr.makeSlice 31 (.int .i64 (n : Int)) (.int .i64 (n : Int))).run Tryz.prog w = .ok (.slice (some ⟨w.heap.size, 0, Option.none⟩) n n) w' ∧
    w'.heap.size = w.heap.size + 1 ∧ Below w.heap.size w w' ∧ RowS w' w.heap.size n (fun _ => ByteArray.empty) := by
  obtain ⟨i0, hi, hz0, hz1, hz2⟩ := info_parts Tryz.info9
  have hr := run_make (P := Tryz.prog) w 31 9 i0 (.string ByteArray.empty) Tryz.underlying31 hi hz0 .i64 .i64 n n (by omega) (by omega) (by rw [hz2]; omega) (by omega)
  rw [hz1] at hr
  simp only [Int.toNat_natCast, Nat.mul_one] at hr
  refine ⟨_, hr, by simp, below_box w _, fun j hj => ⟨?_, ?_⟩⟩
  · rw [cell_of_row _ w.heap.size j _ 9 (0, 0) (heap_alloc_new w _)]
    exact made_at n j hj
  · have := heap_alloc_new w (.cells (madeCells (Value.string ByteArray.empty).cells n) 9)
    unfold World.frozen?
    simp only [this]
    simp

set_option maxHeartbeats 2000000 in
set_option maxRecDepth 100000 in
theorem matching_any (A : Option Addr) (n c : Nat) (ns : List ByteArray) (w : World) (h : Strs w A n c ns) (hn : n ≤ 1000) (hB : ∀ x ∈ ns, x.size ≤ maxLen) :
    Calls Tryz.prog 65 #[.slice A n c] w fun e w' => ∃ g, e = .returned (.func (.func 87) #[] #[.pointer (some ⟨g, 0, Option.none⟩)]) ∧ w.heap.size ≤ g ∧ Lowers w' g ns ∧ Below w.heap.size w w' := by
  have h' := Lib.hid h
  have hl := Lib.hid h.len
  have hB' := Lib.hid hB
  obtain ⟨w1, hmk, hz, hb1, hrow⟩ := make_strs n hn w
  have hz' := Lib.hid hz
  have hrow' := Lib.hid hrow
  clear h hB hz hrow
  go_enter Tryz.func65, Tryz.ntmps65
  go_wp2
  go_loopw [11] (fun i wr => ∃ k : Nat, k ≤ n ∧ i = .int .i64 k ∧ Below w.heap.size w wr ∧ w.heap.size + 1 < wr.heap.size ∧ wr.cell? ⟨w1.heap.size, 0, Option.none⟩ = some (.slice (some ⟨w.heap.size, 0, Option.none⟩) n n) ∧ RowS wr w.heap.size n (lowTo ns k)) (fun i _ => n - (RowKit.intOf i).toNat)
  case atStart =>
    refine ⟨0, Nat.zero_le _, rfl, below_then hb1 (below_box w1 _), by simp [hz'.out], by simp, ?_⟩
    exact ((hrow'.out.later (below_box w1 _) (by rw [hz'.out]; omega)).congr fun j _ => by simp [lowTo])
  case round =>
    obtain ⟨k, hk, rfl, hb, hsz, hbox, hR0⟩ := hrel
    have hR := Lib.hid hR0
    by_cases hlt : k < n
    · have hkl : k < ns.length := by rw [hl.out]; exact hlt
      obtain ⟨b, off, rfl, _, hcs⟩ := (h'.out.later hb).cell (by omega)
      have h1 := hcs k hkl
      have hlow := fun W => lower_any ns[k] (hB'.out ns[k] (List.getElem_mem hkl)) W
      have hx : ns[k]?.getD ByteArray.empty = ns[k] := by rw [List.getElem?_eq_getElem hkl]; rfl
      have e : (⟨(ns[k].data.toList.map (turn 65 90 32)).toArray⟩ : ByteArray) = mk (lo ns[k]) := rfl
      rw [e] at hlow
      have hset := Lib.hid (show ∀ W, RowS W w.heap.size n (lowTo ns k) → RowS (W.setCell ⟨w.heap.size, k, Option.none⟩ (.string (mk (lo ns[k])))) w.heap.size n (lowTo ns (k + 1)) from fun W hW => (hW.set hlt _).congr fun j _ => lowTo_step ns k j _ hx)
      clear hcs e hx
      generalize mk (lo ns[k]) = y at hlow hset
      generalize ns[k] = x at h1 hlow
      have hlow' := Lib.hid hlow
      clear hlow
      have hck := (hR0 k hlt).1
      have hfk := (hR0 k hlt).2
      clear hR0
      have hg : w.heap.size < wr.heap.size := by omega
      go_wp2
      go_region_with (go_at_call 26; refine (hlow'.out _).mono ?_; rintro e w' ⟨rfl, hb2⟩; replace hb2 := below_undrew hb2; have hbox' := cell_later hb2 hbox; have hR' := Lib.hid (hR.out.later hb2 hg); have hck' := (hR'.out k hlt).1; have hfk' := (hR'.out k hlt).2)
      all_goals go_wp2
      all_goals
        go_roundw
        case rel =>
          refine ⟨k + 1, by omega, by go_num, ?_, ?_, ?_, hset.out _ hR'.out⟩
          · exact (below_then hb hb2).setCell (Nat.le_refl _) _
          · have := hb2.size; simp at this ⊢; omega
          · rw [World.cell?_setCell_other (h := fun c => by injection c with c _; rw [hz'.out] at c; omega)]
            exact hbox'
        case measure => simp [RowKit.intOf]; omega
    · have ek : k = n := by omega
      subst ek
      clear hR0
      go_wp2
      refine bodyPost_ret (v := .func (.func 87) #[] #[.pointer (some ⟨w1.heap.size, 0, Option.none⟩)]) (by simp [results, Tryz.results65, go_sem]) rfl ⟨w1.heap.size, rfl, hb1.size, ⟨by rw [hz'.out]; omega, _, _, _, hbox, row_lows hl.out (by omega) hR.out (by simp only [maxLen]; omega)⟩, hb⟩
end Go.Proofs.YtalnjlodldhfbaaGreatDoor
