/-
  The reference's Alike and Get of layer 9. Conditions: those that each theorem states.
-/
import Derived.Test.YtalnjlodldhfbaaGreatDoorLow
namespace Go.Proofs.YtalnjlodldhfbaaGreatDoor
open Go.RowKit Go.Lib Go.Shelf

theorem lo_eq (a b : ByteArray) : ((mk (lo a)).toList == (mk (lo b)).toList) = alike a b := by
  rw [ByteArray.toList_eq, ByteArray.toList_eq, mk_list, mk_list]
  rfl

set_option maxRecDepth 100000 in
theorem alike_any (a b : ByteArray) (ha : a.size ≤ 140737488351232) (hb : b.size ≤ 140737488351232) (w : World) : Calls Tryz.prog 52 #[.string a, .string b] w fun e w' => e = .returned (.bool (alike a b)) ∧ Below w.heap.size w w' := by
  have h1 := fun W => refLower_any a ha W
  have h2 := fun W => refLower_any b hb W
  have e1 : (⟨(a.data.toList.map (turn 65 90 32)).toArray⟩ : ByteArray) = mk (lo a) := rfl
  have e2 : (⟨(b.data.toList.map (turn 65 90 32)).toArray⟩ : ByteArray) = mk (lo b) := rfl
  rw [e1] at h1
  rw [e2] at h2
  have hq := Lib.hid (lo_eq a b)
  have h1' := Lib.hid h1
  have h2' := Lib.hid h2
  clear h1 h2 e1 e2
  generalize mk (lo a) = x at h1' hq
  generalize mk (lo b) = y at h2' hq
  go_enter Tryz.func52, Tryz.ntmps52
  go_wp2_with fail
  refine (h1'.out _).mono ?_
  rintro e w1 ⟨rfl, hb1⟩
  go_wp2_with fail
  refine (h2'.out _).mono ?_
  rintro e w2 ⟨rfl, hb2⟩
  go_wp2
  go_ret
  exact ⟨ret_bool hq.out, below_then hb1 hb2⟩

theorem mk_append (a : List UInt8) (y : ByteArray) : mk a ++ y = mk (a ++ y.data.toList) := by
  rw [← mk_of (mk a ++ y)]
  congr 1

/-- The loop of the reference's Get. -/
def RefGetRel (w : World) (n : ByteArray) (l : List Hd) (s a i : Value) (wr : World) : Prop :=
  ∃ (k : Nat) (t : ByteArray) (d : Bool), k ≤ l.length ∧ i = .int .i64 k ∧ s = .string t ∧ a = .bool d ∧ Hid (t = mk (joined (vals n (l.take k)))) ∧ Hid (d = decide (0 < (vals n (l.take k)).length)) ∧ Below w.heap.size w wr

theorem joined_le {n : ByteArray} {l : List Hd} (k : Nat) (h : bytesIn l ≤ 10000000) : (joined (vals n (l.take k))).length ≤ 30000000 := by
  have h1 := joined_len n (l.take k)
  have h2 := bytesIn_take l k
  omega

set_option maxHeartbeats 4000000 in
set_option maxRecDepth 100000 in
theorem refGet_any (A : Option Addr) (n c : Nat) (l : List Hd) (name : ByteArray) (w : World) (h : Hds w A n c l) (hB : Fits l) (hs : name.size ≤ 140737488351232) (hby : bytesIn l ≤ 10000000) :
    Calls Tryz.prog 29 #[.slice A n c, .string name] w fun e w' => e = .returned (.tuple #[.string (mk (joined (vals name l))), .bool (decide (0 < (vals name l).length))]) ∧ Below w.heap.size w w' := by
  have hn : n ≤ 9223372036854775807 := by have h1 := h.cap; have h2 := h.room; unfold maxLen at h2; omega
  have hl := Lib.hid h.len
  have hH := Lib.hid h
  have hB' := Lib.hid hB
  have hjl := Lib.hid (fun k => joined_le (n := name) k hby)
  have hbm := Lib.hid (fun k (hk : k < l.length) => bytesIn_mem (List.getElem_mem hk))
  clear h hB
  go_enter Tryz.func29, Tryz.ntmps29
  go_wp2
  go_loopw [6, 7, 8] (fun s a i wr => RefGetRel w name l s a i wr) (fun _ _ i _ => n - (RowKit.intOf i).toNat)
  case atStart => exact ⟨0, _, _, Nat.zero_le _, rfl, rfl, rfl, Lib.hid rfl, Lib.hid rfl, Below.refl _ _⟩
  case round =>
    obtain ⟨k, t, d, hk, rfl, rfl, rfl, ht, hd, hb⟩ := hrel
    rw [hl.out] at hk
    have htz : t.size ≤ 30000000 := by rw [ht.out, mk_size]; exact hjl.out k
    by_cases hlt : k < n
    · have hkl : k < l.length := by rw [hl.out]; exact hlt
      obtain ⟨b, off, rfl, h1, h2⟩ := (hH.out.later hb).at hlt
      have hcall := alike_any l[k].1 name (hB'.out _ (List.getElem_mem hkl)).1 hs wr
      have hst := Lib.hid (vals_step (n := name) hkl)
      have hsz := hbm.out k hkl
      generalize l[k].1 = x at h1 hcall hst hsz
      generalize l[k].2 = y at h2 hst hsz
      have hyz : y.size ≤ 10000000 := by omega
      clear hsz
      cases ha : alike x name with
      | false =>
        rw [ha] at hcall hst
        have hst' : Hid (vals name (l.take (k + 1)) = vals name (l.take k)) := Lib.hid (by rw [hst.out]; simp)
        clear ha hst
        go_wp2_with (go_at_call 52; refine hcall.mono ?_; rintro e w2 ⟨rfl, hb2⟩)
        go_roundw
        case rel => exact ⟨k + 1, t, d, by omega, by go_num, rfl, rfl, Lib.hid (by rw [hst'.out]; exact ht.out), Lib.hid (by rw [hst'.out]; exact hd.out), below_then hb hb2⟩
        case measure => simp [RowKit.intOf]; omega
      | true =>
        rw [ha] at hcall hst
        have hst' : Hid (vals name (l.take (k + 1)) = vals name (l.take k) ++ [y]) := Lib.hid (by rw [hst.out]; simp)
        clear ha hst
        cases d with
        | false =>
          have hV : Hid (vals name (l.take k) = []) := Lib.hid (by
            have := hd.out.symm
            rw [decide_eq_false_iff_not] at this
            exact List.eq_nil_of_length_eq_zero (by omega))
          go_wp2_with (go_at_call 52; refine hcall.mono ?_; rintro e w2 ⟨rfl, hb2⟩; have h2' := cell_later hb2 h2)
          go_roundw
          case rel => exact ⟨k + 1, _, true, by omega, by go_num, rfl, rfl, Lib.hid (by rw [hst'.out, ht.out, hV.out, joined_nil, mk_append, List.nil_append, List.nil_append, joined_one]), Lib.hid (by rw [hst'.out]; simp), below_then hb hb2⟩
          case measure => simp [RowKit.intOf]; omega
        | true =>
          have hV : Hid (vals name (l.take k) ≠ []) := Lib.hid (by
            have := hd.out.symm
            rw [decide_eq_true_iff] at this
            exact List.length_pos_iff.1 this)
          go_wp2_with (go_at_call 52; refine hcall.mono ?_; rintro e w2 ⟨rfl, hb2⟩; have h2' := cell_later hb2 h2)
          go_roundw
          case rel => exact ⟨k + 1, _, true, by omega, by go_num, rfl, rfl, Lib.hid (by rw [hst'.out, ht.out, joined_snoc y hV.out, mk_append, mk_append]; rfl), Lib.hid (by rw [hst'.out]; simp), below_then hb hb2⟩
          case measure => simp [RowKit.intOf]; omega
    · have ek : k = n := by omega
      subst ek
      have hT : l.take k = l := by rw [← hl.out, List.take_length]
      rw [hT] at ht hd
      clear hT
      go_wp2
      go_ret2
      refine ⟨?_, hb⟩
      rw [← ht.out, ← hd.out]
      rfl
end Go.Proofs.YtalnjlodldhfbaaGreatDoor
