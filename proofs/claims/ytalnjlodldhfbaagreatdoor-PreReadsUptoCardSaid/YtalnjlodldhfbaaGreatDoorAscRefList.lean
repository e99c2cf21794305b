/-
  The list of a text's parts as the reference has it. Condition: at most 2^32 - 16 bytes.
-/
import Derived.Test.YtalnjlodldhfbaaGreatDoorLow
import Derived.Test.YtalnjlodldhfbaaGreatDoorAscTrim
namespace Go.Proofs.YtalnjlodldhfbaaGreatDoor
open Go.RowKit Go.Lib

/-- The reference's loop: k bytes are looked at, the part from 'fr' on is open. -/
def RefListRel (w : World) (l : List UInt8) (R : List (List UInt8)) (v f i : Value) (wr : World) : Prop :=
  ∃ (fr k : Nat) (out : List (List UInt8)), f = .int .i64 fr ∧ i = .int .i64 k ∧ out.length ≤ k ∧ OwnsT wr w.heap.size v out ∧ Below w.heap.size w wr ∧
    ((k ≤ l.length ∧ fr ≤ k ∧ out ++ listOf (l.drop fr) = R ∧ ∀ j (h : j < l.length), fr ≤ j → j < k → l[j] ≠ 44) ∨ (k = l.length + 1 ∧ out = R))

theorem piece_none {l : List UInt8} {fr k : Nat} (hk : k ≤ l.length) (h : ∀ j (h : j < l.length), fr ≤ j → j < k → l[j] ≠ 44) : ∀ b ∈ (l.drop fr).take (k - fr), b ≠ 44 := by
  intro b hb
  obtain ⟨i, hi, rfl⟩ := List.getElem_of_mem hb
  rw [List.length_take, List.length_drop] at hi
  rw [List.getElem_take, List.getElem_drop]
  exact h _ (by omega) (by omega) (by omega)
theorem piece_split {l : List UInt8} {fr k : Nat} (hf : fr ≤ k) (hk : k < l.length) (hc : l[k] = 44) : l.drop fr = (l.drop fr).take (k - fr) ++ 44 :: l.drop (k + 1) := by
  conv => lhs; rw [← List.take_append_drop (k - fr) (l.drop fr)]
  rw [List.drop_drop, show fr + (k - fr) = k by omega]
  congr 1
  rw [List.drop_eq_getElem_cons hk, hc]
theorem list_comma {l : List UInt8} {fr k : Nat} (hf : fr ≤ k) (hk : k < l.length) (hc : l[k] = 44) (h : ∀ j (h : j < l.length), fr ≤ j → j < k → l[j] ≠ 44) :
    listOf (l.drop fr) = clean [(l.drop fr).take (k - fr)] ++ listOf (l.drop (k + 1)) := by
  unfold listOf
  conv => lhs; rw [piece_split hf hk hc]
  rw [cut_comma (piece_none (by omega) h), clean_cons]
theorem list_end {l : List UInt8} {fr : Nat} (h : ∀ j (h : j < l.length), fr ≤ j → j < l.length → l[j] ≠ 44) : listOf (l.drop fr) = clean [(l.drop fr).take (l.length - fr)] := by
  have e : (l.drop fr).take (l.length - fr) = l.drop fr := List.take_of_length_le (by rw [List.length_drop]; omega)
  have hn := piece_none (Nat.le_refl _) h
  rw [e] at hn ⊢
  unfold listOf
  rw [cut_none hn]
theorem byte_44 (b : UInt8) : ((b.toNat : Int) == 44) = decide (b = 44) := by
  have h : ∀ c : Fin 256, (((UInt8.ofNat c.val).toNat : Int) == 44) = decide (UInt8.ofNat c.val = 44) := by decide +kernel
  have := h ⟨b.toNat, byte_lt b⟩
  simpa using this
theorem OwnsT.snoc {w : World} {base : Nat} {v : Value} {l : List (List UInt8)} {x : List UInt8} (h : w.ownsRow base 9 1 v (l.length + 1) ((l.map fun p => Value.string (mk p)) ++ [.string (mk x)])) : OwnsT w base v (l ++ [x]) := by
  unfold OwnsT
  rw [List.length_append, List.map_append]
  exact h

set_option maxHeartbeats 4000000 in
set_option maxRecDepth 100000 in
theorem refList_any (s : ByteArray) (hs : s.size < 4294967281) (w : World) : Calls Tryz.prog 30 #[.string s] w (GivesT w (listOf s.data.toList)) := by
  obtain ⟨i0, hi, hz0, hz1, hz2⟩ := info_parts Tryz.info9
  have h0 : OwnsT (w.alloc (.cells #[] 9)) w.heap.size (.slice (some ⟨w.heap.size, 0, Option.none⟩) 0 0) [] := by
    have := World.ownsRow_lit (size := 1) (e := 9) w #[] 0 (Nat.le_refl _) (by simp) (by simp)
    simpa [OwnsT] using this
  have h0' := Lib.hid h0
  have hsl := Lib.hid (size_len s)
  have hat := Lib.hid (fun (k : Nat) (h : k < s.size) => byte_at s k h)
  have hex := Lib.hid (fun (a b : Nat) => Lib.extract_data s a b)
  generalize hR : listOf s.data.toList = R
  have hR' := Lib.hid hR
  clear hR h0
  go_enter Tryz.func30, Tryz.ntmps30
  go_wp2
  go_loopw [3, 4, 5] (fun v f i wr => RefListRel w s.data.toList R v f i wr) (fun _ _ i _ => s.size + 1 - (RowKit.intOf i).toNat)
  case atStart => exact ⟨0, 0, [], rfl, rfl, Nat.le_refl _, h0'.out, (Below.refl _ _).alloc (Nat.le_refl _) _, .inl ⟨Nat.zero_le _, Nat.le_refl _, by simpa using hR'.out, fun j _ _ h => absurd h (by omega)⟩⟩
  case round =>
    obtain ⟨fr, k, out, rfl, rfl, hol, hown, hb, hrel⟩ := hrel
    rcases hrel with ⟨hk, hf, hout, hno⟩ | ⟨hk, hout⟩ <;> rw [← hsl.out] at hk
    · have hout' := Lib.hid hout
      have hno' := Lib.hid hno
      clear hout hno
      by_cases hkn : k < s.size
      · by_cases hc : s[k] = 44
        · have hq := byte_44 s[k]
          rw [decide_eq_true hc] at hq
          have hcl : listOf (s.data.toList.drop fr) = clean [(s.data.toList.drop fr).take (k - fr)] ++ listOf (s.data.toList.drop (k + 1)) := list_comma hf (by rw [← hsl.out]; exact hkn) hc hno'.out
          have hcl' := Lib.hid hcl
          clear hcl hc
          have htr := fun W => refTrim_any (s.extract fr k) (by rw [size_len, hex.out, List.length_take, List.length_drop, ← hsl.out]; simp only [maxLen]; omega) W
          rw [hex.out] at htr
          have hcx := Lib.hid (clean_one ((s.data.toList.drop fr).take (k - fr)))
          generalize trim ((s.data.toList.drop fr).take (k - fr)) = x at htr hcx
          replace htr : ∀ W, Calls Tryz.prog 43 #[.string (s.extract fr k)] W fun e w' => e = .returned (.string (mk x)) ∧ w' = W := htr
          have htr' := Lib.hid htr
          clear htr
          have hB := hb.size
          by_cases hx0 : x = []
          · subst hx0
            have e0 : mk [] = ⟨#[]⟩ := rfl
            rw [e0] at htr'
            go_wp2_with (go_at_call 43; refine (htr'.out _).mono ?_; rintro e w' ⟨rfl, hw⟩; subst hw)
            go_roundw
            case rel =>
              refine ⟨k + 1, k + 1, out, by go_num, by go_num, by omega, hown, hb, .inl ⟨by rw [← hsl.out]; omega, Nat.le_refl _, ?_, fun j _ h1 h2 => absurd h1 (by omega)⟩⟩
              rw [← hout'.out, hcl'.out, hcx.out]
              simp
            case measure => simp [RowKit.intOf]; omega
          · have hx1 : (mk x).toList.isEmpty = false := by rw [ByteArray.toList_eq, mk_list]; simpa using hx0
            generalize hy : mk x = z at htr' hx1
            have hy' := Lib.hid hy
            clear hy
            go_wp2_with (first
              | (go_at_call 43; refine (htr'.out _).mono ?_; rintro e w' ⟨rfl, hw⟩; subst hw)
              | (at_builtin; refine wpList_append_own _ rfl (.tmp 31) (.tmp 33) 31 rfl w.heap.size 9 i0 (.string ByteArray.empty) 1 16 Tryz.underlying31 hi hz0 hz1 hz2 rfl (by decide) _ _ _ rfl (hown.alloc _) _ 1 1 [.string z] rfl rfl (cell_one_new _ _ _) (fun u hu => by simp at hu; subst hu; rfl) (by simp only [maxLen]; omega) (by omega) (by simp; omega) ?_; intro v1 w2 hown1 hg1 _))
            go_roundw
            case rel =>
              rw [← hy'.out] at hown1
              refine ⟨k + 1, k + 1, out ++ [x], by go_num, by go_num, by rw [List.length_append]; exact Nat.succ_le_succ hol, OwnsT.snoc hown1, OwnsT.below (hown.alloc _) (hb.alloc hB _) hg1 (by simp; omega), .inl ⟨by rw [← hsl.out]; omega, Nat.le_refl _, ?_, fun j _ h1 h2 => absurd h1 (by omega)⟩⟩
              rw [← hout'.out, hcl'.out, hcx.out]
              rw [if_neg (by simpa using hx0)]
              try simp
            case measure => simp [RowKit.intOf]; omega
        · have hq := byte_44 s[k]
          rw [decide_eq_false hc] at hq
          have hc' := Lib.hid hc
          clear hc
          go_wp2
          go_roundw
          case rel =>
            refine ⟨fr, k + 1, out, rfl, by go_num, by omega, hown, hb, .inl ⟨by rw [← hsl.out]; omega, by omega, hout'.out, fun j h h1 h2 => ?_⟩⟩
            by_cases e : j = k
            · subst e; exact hc'.out
            · exact hno'.out j h h1 (by omega)
          case measure => simp [RowKit.intOf]; omega
      · have e : k = s.size := by omega
        subst e
        have hcl : listOf (s.data.toList.drop fr) = clean [(s.data.toList.drop fr).take (s.size - fr)] := by
          rw [hsl.out]
          exact list_end fun j h h1 h2 => hno'.out j h h1 (by rw [hsl.out]; exact h2)
        have hcl' := Lib.hid hcl
        clear hcl
        have htr := fun W => refTrim_any (s.extract fr s.size) (by rw [size_len, hex.out, List.length_take, List.length_drop, ← hsl.out]; simp only [maxLen]; omega) W
        rw [hex.out] at htr
        have hcx := Lib.hid (clean_one ((s.data.toList.drop fr).take (s.size - fr)))
        generalize trim ((s.data.toList.drop fr).take (s.size - fr)) = x at htr hcx
        replace htr : ∀ W, Calls Tryz.prog 43 #[.string (s.extract fr s.size)] W fun e w' => e = .returned (.string (mk x)) ∧ w' = W := htr
        have htr' := Lib.hid htr
        clear htr
        have hB := hb.size
        by_cases hx0 : x = []
        · subst hx0
          have e0 : mk [] = ⟨#[]⟩ := rfl
          rw [e0] at htr'
          go_wp2_with (go_at_call 43; refine (htr'.out _).mono ?_; rintro e w' ⟨rfl, hw⟩; subst hw)
          go_roundw
          case rel =>
            refine ⟨s.size + 1, s.size + 1, out, by go_num, by go_num, by omega, hown, hb, .inr ⟨by rw [← hsl.out], ?_⟩⟩
            rw [← hout'.out, hcl'.out, hcx.out]
            simp
          case measure => simp [RowKit.intOf]
        · have hx1 : (mk x).toList.isEmpty = false := by rw [ByteArray.toList_eq, mk_list]; simpa using hx0
          generalize hy : mk x = z at htr' hx1
          have hy' := Lib.hid hy
          clear hy
          go_wp2_with (first
            | (go_at_call 43; refine (htr'.out _).mono ?_; rintro e w' ⟨rfl, hw⟩; subst hw)
            | (at_builtin; refine wpList_append_own _ rfl (.tmp 31) (.tmp 33) 31 rfl w.heap.size 9 i0 (.string ByteArray.empty) 1 16 Tryz.underlying31 hi hz0 hz1 hz2 rfl (by decide) _ _ _ rfl (hown.alloc _) _ 1 1 [.string z] rfl rfl (cell_one_new _ _ _) (fun u hu => by simp at hu; subst hu; rfl) (by simp only [maxLen]; omega) (by omega) (by simp; omega) ?_; intro v1 w2 hown1 hg1 _))
          go_roundw
          case rel =>
            rw [← hy'.out] at hown1
            refine ⟨s.size + 1, s.size + 1, out ++ [x], by go_num, by go_num, by rw [List.length_append]; exact Nat.succ_le_succ hol, OwnsT.snoc hown1, OwnsT.below (hown.alloc _) (hb.alloc hB _) hg1 (by simp; omega), .inr ⟨by rw [← hsl.out], ?_⟩⟩
            rw [← hout'.out, hcl'.out, hcx.out]
            rw [if_neg (by simpa using hx0)]
            try simp
          case measure => simp [RowKit.intOf]
    · subst hk
      go_wp2
      go_ret
      rw [hout] at hown
      exact ⟨_, rfl, hown, hb⟩
end Go.Proofs.YtalnjlodldhfbaaGreatDoor
