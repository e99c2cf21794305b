/-
  The walk of the statement SafeUnsafe: for any list of headers it returns true, and nothing that was there is changed.
-/
import Derived.Test.YtdnificbbmnnhaaDoorSafeAwake
namespace Go.Proofs.YtdnificbbmnnhaaDoor
open Go.RowKit Go.Lib Go.Shelf

/-- Two own slices do not lie in one block. -/
def Apart2 (v u : Value) : Prop := ∀ k, v.ownBlock = some k → u.ownBlock ≠ some k
theorem Apart2.symm {v u : Value} (h : Apart2 v u) : Apart2 u v := fun k h1 h2 => h k h2 h1

/-- One header is put behind an own list; another own list stays. -/
theorem turn_one {B : Nat} {w wr w3 : World} {v v1 u : Value} {xs ys : List Hd} {x y : ByteArray} (hv : OwnsH wr B v xs) (hu : OwnsH wr B u ys) (hap : Apart2 v u) (hb : Below B w wr) (hB : B ≤ wr.heap.size) (o : Obj)
    (ho : w3.ownsRow B 26 2 v1 (xs.length + 1) (hcells xs ++ [.string x, .string y])) (hg : (wr.alloc o).grownBy w3 v.ownBlock) (hat : v1.ownBlock = v.ownBlock ∨ v1.ownBlock = some (wr.alloc o).heap.size) :
    OwnsH w3 B v1 (xs ++ [(x, y)]) ∧ OwnsH w3 B u ys ∧ Apart2 v1 u ∧ Below B w w3 := by
  refine ⟨owns_snoc ho, World.ownsRow.kept (hu.alloc o) hg ?_, fun k hk hk' => ?_, OwnsH.below (hv.alloc o) (hb.alloc hB o) hg (by simp; omega)⟩
  · cases hk : u.ownBlock with
    | none => exact .inl rfl
    | some k => exact .inr fun e => hap k e.symm hk
  · rcases hat with e | e
    · exact hap k (by rw [← e]; exact hk) hk'
    · rw [e] at hk
      injection hk with hk
      have := (World.ownsRow.lt (hu.alloc o) k hk').2
      omega

/-- The loop: the headers from place k on are turned round; so are those of them that may not go anywhere. -/
def TurnRel (w : World) (l : List Hd) (v u i : Value) (wr : World) : Prop :=
  ∃ (k : Nat) (m : Int), k ≤ l.length ∧ i = .int .i64 m ∧ Hid (m = (k : Int) - 1) ∧ OwnsH wr w.heap.size v (l.drop k).reverse ∧ OwnsH wr w.heap.size u ((l.drop k).reverse.filter fun h => !headOk h.1 h.2) ∧ Apart2 v u ∧ Below w.heap.size w wr

theorem rev_step {l : List Hd} {j : Nat} (hj : j < l.length) : (l.drop j).reverse = (l.drop (j + 1)).reverse ++ [l[j]] := by
  rw [List.drop_eq_getElem_cons hj, List.reverse_cons]
theorem only_step {l : List Hd} {j : Nat} (hj : j < l.length) : ((l.drop j).reverse.filter fun h => !headOk h.1 h.2) = ((l.drop (j + 1)).reverse.filter fun h => !headOk h.1 h.2) ++ (if headOk l[j].1 l[j].2 then [] else [l[j]]) := by
  rw [rev_step hj, List.filter_append]
  congr 1
  cases h : headOk l[j].1 l[j].2 <;> simp [h]

/-- A call gives back the texts Z (N of them), and changes nothing that was there. -/
def ReadsT (w : World) (N : Nat) (Z : List (List UInt8)) (e : Ending) (w' : World) : Prop := ∃ B d, e = .returned (.slice B N d) ∧ Texts w' B N Z ∧ Below w.heap.size w w'
theorem GivesT.reads {w : World} {Z : List (List UInt8)} {N : Nat} (hN : N = Z.length) {e : Ending} {w' : World} (h : GivesT w Z e w') : ReadsT w N Z e w' := by
  subst hN
  obtain ⟨v, rfl, ho, hb⟩ := h
  obtain ⟨B, d, rfl, hT⟩ := ho.texts
  exact ⟨B, d, rfl, hT, hb⟩
theorem same_yes (A B : Option Addr) (N c d : Nat) (Z : List (List UInt8)) (w : World) (ha : Texts w A N Z) (hb : Texts w B N Z) (hN : N ≤ 9223372036854775807) :
    Calls Tryd.prog 18 #[.slice A N c, .slice B N d] w fun e w' => e = .returned (.bool true) ∧ Below w.heap.size w w' := by
  have h := same_any A B N N c d Z Z w ha hb hN hN
  rw [decide_eq_true rfl] at h
  exact h
theorem Hds.atSome {w : World} {b off n c : Nat} {l : List Hd} (h : Hds w (some ⟨b, off, Option.none⟩) n c l) {k : Nat} (hk : k < n) : w.cell? ⟨b, off + k * 2, Option.none⟩ = some (.string (l[k]'(by rw [h.len]; exact hk)).1) ∧ w.cell? ⟨b, off + k * 2 + 1, Option.none⟩ = some (.string (l[k]'(by rw [h.len]; exact hk)).2) := by
  obtain ⟨b', off', e, h1, h2⟩ := h.at hk
  injection e with e
  injection e with e1 e2
  subst e1
  subst e2
  exact ⟨h1, h2⟩
theorem Short.reverse {B : Nat} {l : List Hd} (h : Short B l) : Short B l.reverse := fun x hx => h x (List.mem_reverse.1 hx)
theorem Short.filter {B : Nat} {l : List Hd} (h : Short B l) (p : Hd → Bool) : Short B (l.filter p) := fun x hx => h x (List.mem_filter.1 hx).1

set_option maxHeartbeats 4000000 in
set_option maxRecDepth 100000 in
theorem safeUnsafe_law (A : Option Addr) (n0 c : Nat) (l0 : List Hd) (w : World) (h : Hds w A n0 c l0) (hB : Fits l0) :
    Calls Tryd.prog 5 #[.slice A n0 c] w (Yes w) := by
  obtain ⟨i0, hinf, hz0, hz1, hz2⟩ := info_parts Tryd.infoHd
  have hc : c ≤ 9223372036854775807 := by have := h.room; unfold maxLen at this; exact this
  have hcap := h.cap
  by_cases h30 : 30 < n0
  · obtain ⟨b0, off0, rfl, _, _⟩ := h.cell (by omega)
    have hS := h.front (k := 30) (by omega)
    have hBf := Lib.hid (show Fits (l0.take 30) from hB.take 30)
    have hBm := Lib.hid (hBf.out.mono (show 140737488351232 ≤ maxLen by simp only [maxLen]; omega))
    clear h hB
    generalize l0.take 30 = l at hS hBf hBm
    have hn1 : 30 ≤ 30 := by omega
    have hL := Lib.hid hS.len
    have hH := Lib.hid hS
    have hs0 := Lib.hid (World.ownsRow_made (base := w.heap.size) (e := 26) (size := 2) w #[] 0 (Nat.le_refl _) (Nat.zero_le _) rfl)
    have hs1 := Lib.hid (World.ownsRow_made (base := w.heap.size) (e := 26) (size := 2) (w.alloc (.cells #[] 26)) #[] 0 (by simp) (Nat.zero_le _) rfl)
    rw [show (w.alloc (.cells #[] 26)).heap.size = w.heap.size + 1 by simp] at hs1
    clear hS
    have hdec : decide ((30 : Int) < (n0 : Int)) = true := decide_eq_true (by omega)
    have hc30 : 30 ≤ c := by omega
    clear h30
    go_enter Tryd.func5, Tryd.ntmps5
    go_wp2
    go_loopw [4, 5, 6] (fun v u i wr => TurnRel w l v u i wr) (fun _ _ i _ => (RowKit.intOf i + 1).toNat)
    case atStart =>
      refine ⟨l.length, _, Nat.le_refl _, rfl, Lib.hid (by have := hL.out; omega), ?_, ?_, fun k h1 h2 => ?_, below_then (below_box _ _) (below_box _ _)⟩
      · rw [List.drop_length]
        exact World.ownsRow.alloc hs0.out _
      · rw [List.drop_length]
        exact hs1.out
      · simp [Value.ownBlock] at h1 h2
        omega
    case round =>
      obtain ⟨k, m, hk, rfl, hm, hV, hU, hA, hb⟩ := hrel
      rw [hL.out] at hk
      have hB1 := hb.size
      by_cases h0 : 0 < k
      · obtain ⟨j, rfl⟩ : ∃ j, k = j + 1 := ⟨k - 1, by omega⟩
        have em : m = (j : Int) := by rw [hm.out]; omega
        subst em
        clear hm
        have hjn : j < 30 := by omega
        have hjl : j < l.length := by rw [hL.out]; exact hjn
        obtain ⟨h1, h2⟩ := hH.out.atSome hjn
        have hcall := Lib.hid (fun W => header_any l[j].1 l[j].2 (hBm.out _ (List.getElem_mem hjl)).1 W)
        have hr1 := Lib.hid (rev_step hjl)
        have hr2 := Lib.hid (only_step hjl)
        generalize l[j] = q at h1 h2 hcall hr1 hr2
        obtain ⟨x, y⟩ := q
        simp only at h1 h2 hcall hr2
        generalize headOk x y = ok at hcall hr2
        have hlv : (l.drop (j + 1)).reverse.length ≤ 30 := by rw [List.length_reverse, List.length_drop, hL.out]; omega
        have hlu : ((l.drop (j + 1)).reverse.filter fun h => !headOk h.1 h.2).length ≤ 30 := Nat.le_trans (List.length_filter_le _ _) hlv
        obtain ⟨xs, hxs⟩ : ∃ xs, xs = (l.drop (j + 1)).reverse := ⟨_, rfl⟩
        obtain ⟨ys, hys⟩ : ∃ ys, ys = ((l.drop (j + 1)).reverse.filter fun h => !headOk h.1 h.2) := ⟨_, rfl⟩
        rw [← hys] at hU hlu hr2
        rw [← hxs] at hV hlv hr1
        clear hxs hys
        have e1 := cell_later hb h1
        have e2 := cell_later hb h2
        cases ok with
        | true =>
          have hr2' : Hid (((l.drop j).reverse.filter fun h => !headOk h.1 h.2) = ys) := Lib.hid (by rw [hr2.out]; simp)
          clear hr2
          go_wp2_with (first
            | (at_builtin; refine wpList_append_own_at _ rfl (.tmp 23) (.tmp 28) 28 rfl w.heap.size 26 i0 (.agg #[.string ByteArray.empty, .string ByteArray.empty]) 2 32 Tryd.underlying28 hinf hz0 hz1 hz2 rfl (by decide) _ _ _ rfl (hV.alloc _) _ 1 1 [.string x, .string y] rfl rfl (cells_pair_new _ _ _ _) (fun u hu => by simp at hu; rcases hu with rfl | rfl <;> rfl) (by simp only [maxLen]; omega) (by omega) (by simp; omega) ?_; intro v1 w3 hown1 hg1 _ hat1; obtain ⟨hV3, hU3, hA3, hb3⟩ := turn_one hV hU hA hb hB1 _ hown1 hg1 hat1; have c1 := cell_later hb3 h1; have c2 := cell_later hb3 h2; have hB3 := hb3.size; clear hown1 hg1 hat1)
            | (go_at_call 13; refine (hcall.out _).mono ?_; rintro e w4 ⟨rfl, hb34⟩; have hb4 := below_then hb3 hb34; have d1 := cell_later hb4 h1; have d2 := cell_later hb4 h2; have hV4 := OwnsH.kept hV3 hb34 (Nat.le_refl _); have hU4 := OwnsH.kept hU3 hb34 (Nat.le_refl _); have hB4 := hb4.size))
          go_roundw
          case rel => exact ⟨j, _, by omega, rfl, Lib.hid (by go_num), by rw [hr1.out]; exact hV4, by rw [hr2'.out]; exact hU4, hA3, hb4⟩
          case measure => simp [RowKit.intOf]
        | false =>
          have hr2' : Hid (((l.drop j).reverse.filter fun h => !headOk h.1 h.2) = ys ++ [(x, y)]) := Lib.hid (by rw [hr2.out]; simp)
          clear hr2
          go_wp2_with (first
            | (at_builtin; refine wpList_append_own_at _ rfl (.tmp 23) (.tmp 28) 28 rfl w.heap.size 26 i0 (.agg #[.string ByteArray.empty, .string ByteArray.empty]) 2 32 Tryd.underlying28 hinf hz0 hz1 hz2 rfl (by decide) _ _ _ rfl (hV.alloc _) _ 1 1 [.string x, .string y] rfl rfl (cells_pair_new _ _ _ _) (fun u hu => by simp at hu; rcases hu with rfl | rfl <;> rfl) (by simp only [maxLen]; omega) (by omega) (by simp; omega) ?_; intro v1 w3 hown1 hg1 _ hat1; obtain ⟨hV3, hU3, hA3, hb3⟩ := turn_one hV hU hA hb hB1 _ hown1 hg1 hat1; have c1 := cell_later hb3 h1; have c2 := cell_later hb3 h2; have hB3 := hb3.size; clear hown1 hg1 hat1)
            | (go_at_call 13; refine (hcall.out _).mono ?_; rintro e w4 ⟨rfl, hb34⟩; have hb4 := below_then hb3 hb34; have d1 := cell_later hb4 h1; have d2 := cell_later hb4 h2; have hV4 := OwnsH.kept hV3 hb34 (Nat.le_refl _); have hU4 := OwnsH.kept hU3 hb34 (Nat.le_refl _); have hB4 := hb4.size)
            | (at_builtin; refine wpList_append_own_at _ rfl (.tmp 36) (.tmp 41) 28 rfl w.heap.size 26 i0 (.agg #[.string ByteArray.empty, .string ByteArray.empty]) 2 32 Tryd.underlying28 hinf hz0 hz1 hz2 rfl (by decide) _ _ _ rfl (hU4.alloc _) _ 1 1 [.string x, .string y] rfl rfl (cells_pair_new _ _ _ _) (fun u hu => by simp at hu; rcases hu with rfl | rfl <;> rfl) (by simp only [maxLen]; omega) (by omega) (by simp; omega) ?_; intro v2 w5 hown2 hg2 _ hat2; obtain ⟨hU5, hV5, hA5, hb5⟩ := turn_one hU4 hV4 hA3.symm hb4 hB4 _ hown2 hg2 hat2; clear hown2 hg2 hat2))
          go_roundw
          case rel => exact ⟨j, _, by omega, rfl, Lib.hid (by go_num), by rw [hr1.out]; exact hV5, by rw [hr2'.out]; exact hU5, hA5.symm, hb5⟩
          case measure => simp [RowKit.intOf]
      · have ek : k = 0 := by omega
        subst ek
        have em : m = -1 := by rw [hm.out]; rfl
        subst em
        clear hm
        rw [List.drop_zero] at hV hU
        obtain ⟨Bv, nv, cv, rfl, hnv, hHv⟩ := hV.hds'
        obtain ⟨Bu, nu, cu, rfl, hnu, hHu⟩ := hU.hds'
        obtain ⟨Z, hZ⟩ : ∃ Z, Z = uns l := ⟨_, rfl⟩
        obtain ⟨N, hN⟩ : ∃ N, N = Z.length := ⟨_, rfl⟩
        have hN9 : N ≤ 9223372036854775807 := by have := uns_len l; rw [hL.out] at this; rw [hN, hZ]; omega
        have hlv : nv ≤ 30 := by rw [hnv.out, List.length_reverse, hL.out]; omega
        have hlu : nu ≤ 30 := by rw [hnu.out]; have := List.length_filter_le (fun h : Hd => !headOk h.1 h.2) l.reverse; rw [List.length_reverse, hL.out] at this; omega
        have k1 := Lib.hid (show ∀ W, Below wr.heap.size wr W → Calls Tryd.prog 17 #[.slice (some ⟨b0, off0, Option.none⟩) 30 c] W (ReadsT W N Z) from fun W hW => (unsafe_any _ 30 c l W ((hH.out.later hb).later hW) (by omega) hBm.out).mono fun e w' g => GivesT.reads hN (hZ ▸ g))
        have k2 := Lib.hid (show ∀ W, Below wr.heap.size wr W → Calls Tryd.prog 19 #[.slice (some ⟨b0, off0, Option.none⟩) 30 c] W (ReadsT W N Z) from fun W hW => (refUns_any _ 30 c l W ((hH.out.later hb).later hW) (by omega) hBf.out).mono fun e w' g => GivesT.reads hN (hZ ▸ g))
        have k3 := Lib.hid (show ∀ W, Below wr.heap.size wr W → Calls Tryd.prog 17 #[.slice Bv nv cv] W (ReadsT W N Z) from fun W hW => (unsafe_any Bv nv cv _ W (hHv.later hW) (by omega) hBm.out.reverse).mono fun e w' g => GivesT.reads hN ((uns_turned l).trans hZ.symm ▸ g))
        have k4 := Lib.hid (show ∀ W, Below wr.heap.size wr W → Calls Tryd.prog 17 #[.slice Bu nu cu] W (ReadsT W N Z) from fun W hW => (unsafe_any Bu nu cu _ W (hHu.later hW) (by omega) (hBm.out.reverse.filter _)).mono fun e w' g => GivesT.reads hN ((uns_only l).trans hZ.symm ▸ g))
        clear hV hU hHv hHu hZ hN hA
        go_wp2_with (first
          | (go_at_call 17; (with_reducible refine (k1.out _ (Below.refl _ _)).mono ?_); rintro e w1 ⟨B1, d1, rfl, T1, b1⟩; have t1 := Lib.hid T1; clear T1)
          | (go_at_call 6; refine (awake10_any _).mono ?_; rintro e w2 ⟨rfl, b2⟩; have bb2 := below_then b1 b2)
          | (go_at_call 19; refine (k2.out _ bb2).mono ?_; rintro e w3 ⟨B3, d3, rfl, T3, b3⟩; have t3 := Lib.hid T3; have bb3 := below_then bb2 b3; clear T3; have f1 := Lib.hid ((t1.out.later b2).later b3))
          | (go_at_call 18; (with_reducible refine (same_yes _ _ N _ _ Z w3 f1.out t3.out hN9).mono ?_); rintro e w4 ⟨rfl, b4⟩; have bb4 := below_then bb3 b4)
          | (go_at_call 17; (with_reducible refine (k3.out w4 bb4).mono ?_); rintro e w5 ⟨B5, d5, rfl, T5, b5⟩; have t5 := Lib.hid T5; have bb5 := below_then bb4 b5; clear T5; have f2 := Lib.hid ((f1.out.later b4).later b5))
          | (go_at_call 18; (with_reducible refine (same_yes _ _ N _ _ Z w5 f2.out t5.out hN9).mono ?_); rintro e w6 ⟨rfl, b6⟩; have bb6 := below_then bb5 b6)
          | (go_at_call 17; (with_reducible refine (k4.out w6 bb6).mono ?_); rintro e w7 ⟨B7, d7, rfl, T7, b7⟩; have t7 := Lib.hid T7; have bb7 := below_then bb6 b7; clear T7; have f3 := Lib.hid ((f2.out.later b6).later b7))
          | (go_at_call 18; (with_reducible refine (same_yes _ _ N _ _ Z w7 f3.out t7.out hN9).mono ?_); rintro e w8 ⟨rfl, b8⟩; have bb8 := below_then bb7 b8))
        go_ret
        exact ⟨rfl, below_then hb bb8⟩
  · have hS := h
    have hBf := Lib.hid (show Fits l0 from hB)
    have hBm := Lib.hid (hBf.out.mono (show 140737488351232 ≤ maxLen by simp only [maxLen]; omega))
    clear h hB
    generalize l0 = l at hS hBf hBm
    have hn1 : n0 ≤ 30 := by omega
    have hL := Lib.hid hS.len
    have hH := Lib.hid hS
    have hs0 := Lib.hid (World.ownsRow_made (base := w.heap.size) (e := 26) (size := 2) w #[] 0 (Nat.le_refl _) (Nat.zero_le _) rfl)
    have hs1 := Lib.hid (World.ownsRow_made (base := w.heap.size) (e := 26) (size := 2) (w.alloc (.cells #[] 26)) #[] 0 (by simp) (Nat.zero_le _) rfl)
    rw [show (w.alloc (.cells #[] 26)).heap.size = w.heap.size + 1 by simp] at hs1
    clear hS
    have hdec : decide ((30 : Int) < (n0 : Int)) = false := decide_eq_false (by omega)
    clear h30
    go_enter Tryd.func5, Tryd.ntmps5
    go_wp2
    go_loopw [4, 5, 6] (fun v u i wr => TurnRel w l v u i wr) (fun _ _ i _ => (RowKit.intOf i + 1).toNat)
    case atStart =>
      refine ⟨l.length, _, Nat.le_refl _, rfl, Lib.hid (by have := hL.out; omega), ?_, ?_, fun k h1 h2 => ?_, below_then (below_box _ _) (below_box _ _)⟩
      · rw [List.drop_length]
        exact World.ownsRow.alloc hs0.out _
      · rw [List.drop_length]
        exact hs1.out
      · simp [Value.ownBlock] at h1 h2
        omega
    case round =>
      obtain ⟨k, m, hk, rfl, hm, hV, hU, hA, hb⟩ := hrel
      rw [hL.out] at hk
      have hB1 := hb.size
      by_cases h0 : 0 < k
      · obtain ⟨j, rfl⟩ : ∃ j, k = j + 1 := ⟨k - 1, by omega⟩
        have em : m = (j : Int) := by rw [hm.out]; omega
        subst em
        clear hm
        have hjn : j < n0 := by omega
        have hjl : j < l.length := by rw [hL.out]; exact hjn
        obtain ⟨b, off, rfl, h1, h2⟩ := hH.out.at hjn
        have hcall := Lib.hid (fun W => header_any l[j].1 l[j].2 (hBm.out _ (List.getElem_mem hjl)).1 W)
        have hr1 := Lib.hid (rev_step hjl)
        have hr2 := Lib.hid (only_step hjl)
        generalize l[j] = q at h1 h2 hcall hr1 hr2
        obtain ⟨x, y⟩ := q
        simp only at h1 h2 hcall hr2
        generalize headOk x y = ok at hcall hr2
        have hlv : (l.drop (j + 1)).reverse.length ≤ 30 := by rw [List.length_reverse, List.length_drop, hL.out]; omega
        have hlu : ((l.drop (j + 1)).reverse.filter fun h => !headOk h.1 h.2).length ≤ 30 := Nat.le_trans (List.length_filter_le _ _) hlv
        obtain ⟨xs, hxs⟩ : ∃ xs, xs = (l.drop (j + 1)).reverse := ⟨_, rfl⟩
        obtain ⟨ys, hys⟩ : ∃ ys, ys = ((l.drop (j + 1)).reverse.filter fun h => !headOk h.1 h.2) := ⟨_, rfl⟩
        rw [← hys] at hU hlu hr2
        rw [← hxs] at hV hlv hr1
        clear hxs hys
        have e1 := cell_later hb h1
        have e2 := cell_later hb h2
        cases ok with
        | true =>
          have hr2' : Hid (((l.drop j).reverse.filter fun h => !headOk h.1 h.2) = ys) := Lib.hid (by rw [hr2.out]; simp)
          clear hr2
          go_wp2_with (first
            | (at_builtin; refine wpList_append_own_at _ rfl (.tmp 23) (.tmp 28) 28 rfl w.heap.size 26 i0 (.agg #[.string ByteArray.empty, .string ByteArray.empty]) 2 32 Tryd.underlying28 hinf hz0 hz1 hz2 rfl (by decide) _ _ _ rfl (hV.alloc _) _ 1 1 [.string x, .string y] rfl rfl (cells_pair_new _ _ _ _) (fun u hu => by simp at hu; rcases hu with rfl | rfl <;> rfl) (by simp only [maxLen]; omega) (by omega) (by simp; omega) ?_; intro v1 w3 hown1 hg1 _ hat1; obtain ⟨hV3, hU3, hA3, hb3⟩ := turn_one hV hU hA hb hB1 _ hown1 hg1 hat1; have c1 := cell_later hb3 h1; have c2 := cell_later hb3 h2; have hB3 := hb3.size; clear hown1 hg1 hat1)
            | (go_at_call 13; refine (hcall.out _).mono ?_; rintro e w4 ⟨rfl, hb34⟩; have hb4 := below_then hb3 hb34; have d1 := cell_later hb4 h1; have d2 := cell_later hb4 h2; have hV4 := OwnsH.kept hV3 hb34 (Nat.le_refl _); have hU4 := OwnsH.kept hU3 hb34 (Nat.le_refl _); have hB4 := hb4.size))
          go_roundw
          case rel => exact ⟨j, _, by omega, rfl, Lib.hid (by go_num), by rw [hr1.out]; exact hV4, by rw [hr2'.out]; exact hU4, hA3, hb4⟩
          case measure => simp [RowKit.intOf]
        | false =>
          have hr2' : Hid (((l.drop j).reverse.filter fun h => !headOk h.1 h.2) = ys ++ [(x, y)]) := Lib.hid (by rw [hr2.out]; simp)
          clear hr2
          go_wp2_with (first
            | (at_builtin; refine wpList_append_own_at _ rfl (.tmp 23) (.tmp 28) 28 rfl w.heap.size 26 i0 (.agg #[.string ByteArray.empty, .string ByteArray.empty]) 2 32 Tryd.underlying28 hinf hz0 hz1 hz2 rfl (by decide) _ _ _ rfl (hV.alloc _) _ 1 1 [.string x, .string y] rfl rfl (cells_pair_new _ _ _ _) (fun u hu => by simp at hu; rcases hu with rfl | rfl <;> rfl) (by simp only [maxLen]; omega) (by omega) (by simp; omega) ?_; intro v1 w3 hown1 hg1 _ hat1; obtain ⟨hV3, hU3, hA3, hb3⟩ := turn_one hV hU hA hb hB1 _ hown1 hg1 hat1; have c1 := cell_later hb3 h1; have c2 := cell_later hb3 h2; have hB3 := hb3.size; clear hown1 hg1 hat1)
            | (go_at_call 13; refine (hcall.out _).mono ?_; rintro e w4 ⟨rfl, hb34⟩; have hb4 := below_then hb3 hb34; have d1 := cell_later hb4 h1; have d2 := cell_later hb4 h2; have hV4 := OwnsH.kept hV3 hb34 (Nat.le_refl _); have hU4 := OwnsH.kept hU3 hb34 (Nat.le_refl _); have hB4 := hb4.size)
            | (at_builtin; refine wpList_append_own_at _ rfl (.tmp 36) (.tmp 41) 28 rfl w.heap.size 26 i0 (.agg #[.string ByteArray.empty, .string ByteArray.empty]) 2 32 Tryd.underlying28 hinf hz0 hz1 hz2 rfl (by decide) _ _ _ rfl (hU4.alloc _) _ 1 1 [.string x, .string y] rfl rfl (cells_pair_new _ _ _ _) (fun u hu => by simp at hu; rcases hu with rfl | rfl <;> rfl) (by simp only [maxLen]; omega) (by omega) (by simp; omega) ?_; intro v2 w5 hown2 hg2 _ hat2; obtain ⟨hU5, hV5, hA5, hb5⟩ := turn_one hU4 hV4 hA3.symm hb4 hB4 _ hown2 hg2 hat2; clear hown2 hg2 hat2))
          go_roundw
          case rel => exact ⟨j, _, by omega, rfl, Lib.hid (by go_num), by rw [hr1.out]; exact hV5, by rw [hr2'.out]; exact hU5, hA5.symm, hb5⟩
          case measure => simp [RowKit.intOf]
      · have ek : k = 0 := by omega
        subst ek
        have em : m = -1 := by rw [hm.out]; rfl
        subst em
        clear hm
        rw [List.drop_zero] at hV hU
        obtain ⟨Bv, nv, cv, rfl, hnv, hHv⟩ := hV.hds'
        obtain ⟨Bu, nu, cu, rfl, hnu, hHu⟩ := hU.hds'
        obtain ⟨Z, hZ⟩ : ∃ Z, Z = uns l := ⟨_, rfl⟩
        obtain ⟨N, hN⟩ : ∃ N, N = Z.length := ⟨_, rfl⟩
        have hN9 : N ≤ 9223372036854775807 := by have := uns_len l; rw [hL.out] at this; rw [hN, hZ]; omega
        have hlv : nv ≤ 30 := by rw [hnv.out, List.length_reverse, hL.out]; omega
        have hlu : nu ≤ 30 := by rw [hnu.out]; have := List.length_filter_le (fun h : Hd => !headOk h.1 h.2) l.reverse; rw [List.length_reverse, hL.out] at this; omega
        have k1 := Lib.hid (show ∀ W, Below wr.heap.size wr W → Calls Tryd.prog 17 #[.slice A n0 c] W (ReadsT W N Z) from fun W hW => (unsafe_any A n0 c l W ((hH.out.later hb).later hW) (by omega) hBm.out).mono fun e w' g => GivesT.reads hN (hZ ▸ g))
        have k2 := Lib.hid (show ∀ W, Below wr.heap.size wr W → Calls Tryd.prog 19 #[.slice A n0 c] W (ReadsT W N Z) from fun W hW => (refUns_any A n0 c l W ((hH.out.later hb).later hW) (by omega) hBf.out).mono fun e w' g => GivesT.reads hN (hZ ▸ g))
        have k3 := Lib.hid (show ∀ W, Below wr.heap.size wr W → Calls Tryd.prog 17 #[.slice Bv nv cv] W (ReadsT W N Z) from fun W hW => (unsafe_any Bv nv cv _ W (hHv.later hW) (by omega) hBm.out.reverse).mono fun e w' g => GivesT.reads hN ((uns_turned l).trans hZ.symm ▸ g))
        have k4 := Lib.hid (show ∀ W, Below wr.heap.size wr W → Calls Tryd.prog 17 #[.slice Bu nu cu] W (ReadsT W N Z) from fun W hW => (unsafe_any Bu nu cu _ W (hHu.later hW) (by omega) (hBm.out.reverse.filter _)).mono fun e w' g => GivesT.reads hN ((uns_only l).trans hZ.symm ▸ g))
        clear hV hU hHv hHu hZ hN hA
        go_wp2_with (first
          | (go_at_call 17; (with_reducible refine (k1.out _ (Below.refl _ _)).mono ?_); rintro e w1 ⟨B1, d1, rfl, T1, b1⟩; have t1 := Lib.hid T1; clear T1)
          | (go_at_call 6; refine (awake10_any _).mono ?_; rintro e w2 ⟨rfl, b2⟩; have bb2 := below_then b1 b2)
          | (go_at_call 19; refine (k2.out _ bb2).mono ?_; rintro e w3 ⟨B3, d3, rfl, T3, b3⟩; have t3 := Lib.hid T3; have bb3 := below_then bb2 b3; clear T3; have f1 := Lib.hid ((t1.out.later b2).later b3))
          | (go_at_call 18; (with_reducible refine (same_yes _ _ N _ _ Z w3 f1.out t3.out hN9).mono ?_); rintro e w4 ⟨rfl, b4⟩; have bb4 := below_then bb3 b4)
          | (go_at_call 17; (with_reducible refine (k3.out w4 bb4).mono ?_); rintro e w5 ⟨B5, d5, rfl, T5, b5⟩; have t5 := Lib.hid T5; have bb5 := below_then bb4 b5; clear T5; have f2 := Lib.hid ((f1.out.later b4).later b5))
          | (go_at_call 18; (with_reducible refine (same_yes _ _ N _ _ Z w5 f2.out t5.out hN9).mono ?_); rintro e w6 ⟨rfl, b6⟩; have bb6 := below_then bb5 b6)
          | (go_at_call 17; (with_reducible refine (k4.out w6 bb6).mono ?_); rintro e w7 ⟨B7, d7, rfl, T7, b7⟩; have t7 := Lib.hid T7; have bb7 := below_then bb6 b7; clear T7; have f3 := Lib.hid ((f2.out.later b6).later b7))
          | (go_at_call 18; (with_reducible refine (same_yes _ _ N _ _ Z w7 f3.out t7.out hN9).mono ?_); rintro e w8 ⟨rfl, b8⟩; have bb8 := below_then bb7 b8))
        go_ret
        exact ⟨rfl, below_then hb bb8⟩
end Go.Proofs.YtdnificbbmnnhaaDoor
