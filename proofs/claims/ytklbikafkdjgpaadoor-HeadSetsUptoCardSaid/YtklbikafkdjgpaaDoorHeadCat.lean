/-
  slices.IndexFunc, slices.Grow and slices.Concat at headers, as head.Set calls them. Conditions: those that each theorem states.
-/
import Derived.Test.YtklbikafkdjgpaaDoorHeadGet
namespace Go.Proofs.YtklbikafkdjgpaaDoor
open Go.RowKit Go.Lib Go.Shelf

/-- A slice value that reads as headers, as strings. -/
def HH (l : List Hd) (v : Value) (w : World) : Prop := ∃ A n c, v = .slice A n c ∧ Hds w A n c l
def SS (l : List ByteArray) (v : Value) (w : World) : Prop := ∃ A n c, v = .slice A n c ∧ Strs w A n c l
theorem HH.keeps {l : List Hd} {v : Value} {w w' : World} (h : HH l v w) (hk : Keeps w w') : HH l v w' := by
  obtain ⟨A, n, c, e, h1⟩ := h
  exact ⟨A, n, c, e, h1.keeps hk⟩
theorem SS.keeps {l : List ByteArray} {v : Value} {w w' : World} (h : SS l v w) (hk : Keeps w w') : SS l v w' := by
  obtain ⟨A, n, c, e, h1⟩ := h
  exact ⟨A, n, c, e, h1.keeps hk⟩
theorem OwnsH.hh {w : World} {base : Nat} {v : Value} {l : List Hd} (h : OwnsH w base v l) : HH l v w := by
  obtain ⟨A, c, e, h1⟩ := h.hds
  exact ⟨A, _, c, e, h1⟩
/-- A call gives back the headers l, and changes nothing that was there. -/
def ReadsH (w : World) (l : List Hd) (en : Ending) (w' : World) : Prop := ∃ v, en = .returned v ∧ HH l v w' ∧ Below w.heap.size w w'
theorem GivesH.reads {w : World} {l : List Hd} {e : Ending} {w' : World} (h : GivesH w l e w') : ReadsH w l e w' := by
  obtain ⟨v, he, ho, hb⟩ := h
  exact ⟨v, he, ho.hh, hb⟩

/-- What slices.IndexFunc returns. -/
def idxOf (n : ByteArray) (l : List Hd) : Int := if placeOf n l < l.length then placeOf n l else -1

set_option maxHeartbeats 2000000 in
set_option maxRecDepth 100000 in
theorem indexFunc_any (A : Option Addr) (n c : Nat) (l : List Hd) (name : ByteArray) (g : Nat) (w : World) (h : Hds w A n c l) (hB : Short maxLen l) (hL : Lowers w g [name]) :
    Calls Tryd.prog 29 #[.slice A n c, .func (.func 36) #[] #[.pointer (some ⟨g, 0, Option.none⟩)]] w fun e w' => e = .returned (.int .i64 (idxOf name l)) ∧ Below w.heap.size w w' := by
  have hn : n ≤ 9223372036854775807 := by have h1 := h.cap; have h2 := h.room; unfold maxLen at h2; omega
  have hl := Lib.hid h.len
  have hH := Lib.hid h
  have hB' := Lib.hid hB
  have hL' := Lib.hid hL
  clear h hB hL
  go_enter Tryd.func29, Tryd.ntmps29
  go_wp2
  go_loopw [8] (fun i wr => ∃ k : Nat, k ≤ n ∧ i = .int .i64 k ∧ Below w.heap.size w wr ∧ ∀ j (hj : j < l.length), j < k → alike l[j].1 name = false) (fun i _ => n - (RowKit.intOf i).toNat)
  case atStart => exact ⟨0, Nat.zero_le _, rfl, Below.refl _ _, fun j _ h => absurd h (by omega)⟩
  case round =>
    obtain ⟨k, hk, rfl, hb, hall0⟩ := hrel
    have hall := Lib.hid hall0
    clear hall0
    by_cases hlt : k < n
    · have hkl : k < l.length := by rw [hl.out]; exact hlt
      obtain ⟨b, off, rfl, h1, h2⟩ := (hH.out.later hb).at hlt
      have hcall := match_any [name] g l[k] (hB'.out _ (List.getElem_mem hkl)).1 wr (hL'.out.later hb)
      rw [hit_one] at hcall
      have hgo := Lib.hid (show alike l[k].1 name = false → ∀ j (hj : j < l.length), j < k + 1 → alike l[j].1 name = false from fun h j hj hjk => by
        by_cases e : j = k
        · subst e; exact h
        · exact hall.out j hj (by omega))
      have hplace := Lib.hid (show alike l[k].1 name = true → idxOf name l = k from fun h => by
        have hp : placeOf name l = k := place_is hkl h (fun j hj => hall.out j (by omega) hj)
        simp [idxOf, hp, hkl])
      generalize l[k].1 = x at h1 hcall hplace hgo
      generalize l[k].2 = y at h2 hcall
      cases ha : alike x name with
      | true =>
        have hf := Lib.hid (hplace.out ha)
        rw [ha] at hcall
        clear ha
        go_wp2_with (go_at_call 36; refine hcall.mono ?_; rintro e w2 ⟨rfl, hb2⟩)
        go_ret
        exact ⟨ret_int hf.out.symm, below_then hb hb2⟩
      | false =>
        have hf := Lib.hid (hgo.out ha)
        rw [ha] at hcall
        clear ha
        go_wp2_with (go_at_call 36; refine hcall.mono ?_; rintro e w2 ⟨rfl, hb2⟩)
        go_roundw
        case rel => exact ⟨k + 1, by omega, by go_num, below_then hb hb2, hf.out⟩
        case measure => simp [RowKit.intOf]; omega
    · have ek : k = n := by omega
      subst ek
      have hf := Lib.hid (show idxOf name l = -1 by
        have hp : placeOf name l = l.length := place_none (fun j hj => hall.out j hj (by rw [← hl.out]; exact hj))
        simp [idxOf, hp])
      go_wp2
      go_ret
      exact ⟨ret_int hf.out.symm, hb⟩

section
variable {P : Program} {w : World}
/-- 'append' of whatever reads as headers onto a slice of the call's own. -/
theorem run_append_hds (base : Nat) (t ty : TypeId) (i : TypeInfo) (ht : P.underlying t = some (.slice 29)) (hi : P.info? 29 = some i) (hz : i.zero = some (.agg #[.string ByteArray.empty, .string ByteArray.empty])) (hs : i.size = 2) (hb : i.bytes = 32)
    {v : Value} {xs : List Hd} (hown : OwnsH w base v xs) {A : Option Addr} {m c : Nat} {l : List Hd} (h : Hds w A m c l) (hlim : xs.length + m ≤ 1000000) (hbase : base ≤ w.heap.size) :
    ∃ v' w', (Builtin.append_ #[t, t] ty #[v, .slice A m c]).run P w = .ok v' w' ∧ OwnsH w' base v' (xs ++ l) ∧ w.grownBy w' v.ownBlock := by
  have hl := h.len
  subst hl
  cases A with
  | none =>
    have hc := h.bare rfl
    subst hc
    have h0 : l.length = 0 := by have := h.cap; omega
    have hl : l = [] := List.eq_nil_of_length_eq_zero h0
    subst hl
    exact ⟨v, w, run_append_owned_none (P := P) w base t ty _ i 2 ht hi v _ _ hown, by simpa using hown, World.grownBy.refl w _⟩
  | some ad =>
    have hcs : ∀ j u, (hcells l)[j]? = some u → w.cell? (ad.add j) = some u := by
      intro j u hu
      have hj : j < l.length * 2 := by
        have := (List.getElem?_eq_some_iff.1 hu).1
        rwa [hcells_len] at this
      obtain ⟨b, off, e1, _, hc⟩ := h.cell (by omega)
      injection e1 with e1
      subst e1
      rw [addr_add, hc j hj, hu]
    have h63 : xs.length + l.length ≤ maxLen := by simp only [maxLen]; omega
    obtain ⟨v', w', hrun, h2, h3, _, h5⟩ := run_append_own_at (P := P) w base t ty _ i _ 2 32 ht hi hz hs hb rfl (by omega) v _ _ hown ad l.length c (hcells l) (hcells_len l) hcs (hcells_one l) h63 (by omega) hbase
    refine ⟨v', w', hrun, ?_, h3⟩
    unfold OwnsH
    rw [List.length_append, hcells_append]
    exact h2
theorem wpList_append_hds {ops : Array Oper} {rest : List Oper} {o : Oper} {a : Act} {Q : Exit → Act → World → Prop} (hgd : o.guard = Option.none) (s x : Operand) (t : TypeId)
    (ho : o.op = .call { callee := .builtin .append, args := #[s, x], argTypes := #[t, t] })
    (base : Nat) (i : TypeInfo) (ht : P.underlying t = some (.slice 29)) (hi : P.info? 29 = some i) (hz : i.zero = some (.agg #[.string ByteArray.empty, .string ByteArray.empty])) (hz1 : i.size = 2) (hz2 : i.bytes = 32)
    (v : Value) (xs : List Hd) (hs : a.eval s = v) (hown : OwnsH w base v xs) (A : Option Addr) (m c : Nat) (l : List Hd) (hx : a.eval x = .slice A m c) (h : Hds w A m c l)
    (hlim : xs.length + m ≤ 1000000) (hbase : base ≤ w.heap.size)
    (hK : ∀ v' w', OwnsH w' base v' (xs ++ l) → w.grownBy w' v.ownBlock → wpList P ops Q rest (a.put o.dst v') w') : wpList P ops Q (o :: rest) a w :=
  wpList_plain hgd fun _ hK' => by
    obtain ⟨v', w', hrun, h2, h3⟩ := run_append_hds (P := P) base t o.type i ht hi hz hz1 hz2 hown h hlim hbase
    unfold Oper.wp execOp
    simp only [ho, resolve, invoke, builtin, Sem.run_bind, Sem.run_pure, Result.andThen_ok, List.map_toArray, List.map_cons, List.map_nil, hs, hx, hrun]
    exact hK' _ _ (hK v' w' h2 h3)
end

/-- slices.Grow of no slice. -/
theorem grow_any (m : Nat) (h1 : 0 < m) (hm : m ≤ 100000) (w : World) :
    Calls Tryd.prog 41 #[.slice Option.none 0 0, .int .i64 m] w (GivesH w []) := by
  obtain ⟨i0, hi, hz0, hz1, hz2⟩ := info_parts Tryd.infoHd
  refine (Any8.slices_Grow_grow Tryd.laysGrow i0 _ hi hz0 (by rw [hz1]; omega) Option.none 0 0 m [] w (Nat.le_refl _) (by omega) (by rw [hz2]; omega) (by omega) (by rw [Nat.zero_mul]; rfl) (fun _ => rfl) (fun a e => by cases e)).mono ?_
  rintro e w' ⟨rfl, rfl⟩
  refine ⟨_, rfl, ?_, (Below.refl _ _).drew.alloc (Nat.le_refl _) _⟩
  have hG := grownCap_ge w (0 + m) 0 (Tryd.laysGrow_ren.t 25)
  have hG2 := grownCap_le_maxLen w (0 + m) 0 (Tryd.laysGrow_ren.t 25) (by unfold maxLen; omega)
  generalize grownCap w (0 + m) 0 (Tryd.laysGrow_ren.t 25) = G at hG hG2
  refine World.ownsRow_made w.drew _ G (Nat.le_refl _) hG2 ?_
  have hc : (Value.agg #[.string ByteArray.empty, .string ByteArray.empty]).cells.size = 2 := rfl
  simp only [Array.size_append, size_zeroCells, hc, List.size_toArray, List.length_nil]
  omega

/-- Three slices of headers, in a block of their own. -/
structure Three (w : World) (g : Nat) (v1 v2 v3 : Value) (l1 l2 l3 : List Hd) : Prop where
  c1 : w.cell? ⟨g, 0, Option.none⟩ = some v1
  c2 : w.cell? ⟨g, 1, Option.none⟩ = some v2
  c3 : w.cell? ⟨g, 2, Option.none⟩ = some v3
  h1 : HH l1 v1 w
  h2 : HH l2 v2 w
  h3 : HH l3 v3 w

/-- The second loop of slices.Concat. -/
def CatRel (w : World) (ls : Nat → List Hd) (v i : Value) (wr : World) : Prop :=
  ∃ k : Nat, k ≤ 3 ∧ i = .int .i64 k ∧ OwnsH wr w.heap.size v (ls k) ∧ Below w.heap.size w wr

set_option maxHeartbeats 4000000 in
set_option maxRecDepth 100000 in
theorem concat_any (g : Nat) (v1 v2 v3 : Value) (l1 l2 l3 : List Hd) (w : World) (h : Three w g v1 v2 v3 l1 l2 l3) (hp : 0 < l2.length) (b1 : l1.length ≤ 1000) (b2 : l2.length ≤ 1000) (b3 : l3.length ≤ 1000) :
    Calls Tryd.prog 30 #[.slice (some ⟨g, 0, Option.none⟩) 3 3] w (GivesH w (l1 ++ l2 ++ l3)) := by
  obtain ⟨i0, hi, hz0, hz1, hz2⟩ := info_parts Tryd.infoHd
  obtain ⟨c1, c2, c3, ⟨A1, n1, d1, rfl, H1⟩, ⟨A2, n2, d2, rfl, H2⟩, ⟨A3, n3, d3, rfl, H3⟩⟩ := h
  have e1 := H1.len
  have e2 := H2.len
  have e3 := H3.len
  have k1 := Lib.hid H1
  have k2 := Lib.hid H2
  have k3 := Lib.hid H3
  rw [e1] at b1
  rw [e2] at b2 hp
  rw [e3] at b3
  have e1' := Lib.hid e1
  have e2' := Lib.hid e2
  have e3' := Lib.hid e3
  clear H1 H2 H3 e1 e2 e3
  have hgr := Lib.hid (fun (m : Nat) (h1 : 0 < m) (h2 : m ≤ 100000) W => grow_any m h1 h2 W)
  go_enter Tryd.func30, Tryd.ntmps30
  go_wp2
  go_loop [3, 11] (fun s i => ∃ k : Nat, k ≤ 3 ∧ i = .int .i64 k ∧ ∃ m : Nat, s = .int .i64 m ∧ m = (if k = 0 then 0 else if k = 1 then n1 else if k = 2 then n1 + n2 else n1 + n2 + n3)) (fun _ i => 3 - (RowKit.intOf i).toNat)
  case atStart => exact ⟨0, by omega, rfl, 0, rfl, rfl⟩
  case round =>
    obtain ⟨k, hk, rfl, m, rfl, hm⟩ := hrel
    have hm' := Lib.hid hm
    have hmb : m ≤ 3000 := by rw [hm]; split <;> (try split) <;> (try split) <;> omega
    clear hm
    rcases (show k = 0 ∨ k = 1 ∨ k = 2 ∨ k = 3 by omega) with rfl | rfl | rfl | rfl
    · go_wp2
      go_round
      case rel => exact ⟨1, by omega, rfl, m + n1, by go_num, by have := hm'.out; simp at this ⊢; omega⟩
      case measure => simp [RowKit.intOf]
    · go_wp2
      go_round
      case rel => exact ⟨2, by omega, rfl, m + n2, by go_num, by have := hm'.out; simp at this ⊢; omega⟩
      case measure => simp [RowKit.intOf]
    · go_wp2
      go_round
      case rel => exact ⟨3, by omega, rfl, m + n3, by go_num, by have := hm'.out; simp at this ⊢; omega⟩
      case measure => simp [RowKit.intOf]
    · have hmp : 0 < m := by have := hm'.out; simp at this; omega
      clear hm'
      go_wp2_with (go_at_call 41; refine (hgr.out m hmp (by omega) _).mono ?_; rintro e w1 ⟨v, rfl, hown0, hb0⟩)
      obtain ⟨ls, hls⟩ : ∃ ls : Nat → List Hd, ls = fun k => if k = 0 then [] else if k = 1 then [] ++ l1 else if k = 2 then [] ++ l1 ++ l2 else [] ++ l1 ++ l2 ++ l3 := ⟨_, rfl⟩
      have hl0 := Lib.hid (show ls 0 = [] by rw [hls]; rfl)
      have hl1 := Lib.hid (show ls 1 = ls 0 ++ l1 by rw [hls]; rfl)
      have hl2 := Lib.hid (show ls 2 = ls 1 ++ l2 by rw [hls]; rfl)
      have hl3 := Lib.hid (show ls 3 = ls 2 ++ l3 by rw [hls]; rfl)
      have hle := Lib.hid (show ls 3 = l1 ++ l2 ++ l3 by rw [hls]; rfl)
      have hlen : Hid (∀ k, k ≤ 3 → (ls k).length ≤ 3000) := Lib.hid (fun k hk => by
        have q1 := e1'.out; have q2 := e2'.out; have q3 := e3'.out
        rw [hls]
        rcases (show k = 0 ∨ k = 1 ∨ k = 2 ∨ k = 3 by omega) with rfl | rfl | rfl | rfl <;> simp <;> omega)
      clear hls
      go_loopw [6, 27] (fun v i wr => CatRel w ls v i wr) (fun _ i _ => 3 - (RowKit.intOf i).toNat)
      case atStart => exact ⟨0, by omega, rfl, by rw [hl0.out]; exact hown0, hb0⟩
      case round =>
        obtain ⟨k, hk, rfl, hown, hb⟩ := hrel
        have hB := hb.size
        have hlk := hlen.out k hk
        rcases (show k = 0 ∨ k = 1 ∨ k = 2 ∨ k = 3 by omega) with rfl | rfl | rfl | rfl
        · have hck := cell_later hb c1
          go_wp2_with (at_builtin; refine wpList_append_hds rfl (.tmp 31) (.tmp 32) 22 rfl w.heap.size i0 Tryd.underlying22 hi hz0 hz1 hz2 _ _ rfl hown _ _ _ _ rfl (k1.out.later hb) (by omega) hB ?_; intro v1 w3 hown1 hg1)
          go_roundw
          case rel => exact ⟨1, by omega, rfl, by rw [hl1.out]; exact hown1, hown.below hb hg1 hB⟩
          case measure => simp [RowKit.intOf]
        · have hck := cell_later hb c2
          go_wp2_with (at_builtin; refine wpList_append_hds rfl (.tmp 31) (.tmp 32) 22 rfl w.heap.size i0 Tryd.underlying22 hi hz0 hz1 hz2 _ _ rfl hown _ _ _ _ rfl (k2.out.later hb) (by omega) hB ?_; intro v1 w3 hown1 hg1)
          go_roundw
          case rel => exact ⟨2, by omega, rfl, by rw [hl2.out]; exact hown1, hown.below hb hg1 hB⟩
          case measure => simp [RowKit.intOf]
        · have hck := cell_later hb c3
          go_wp2_with (at_builtin; refine wpList_append_hds rfl (.tmp 31) (.tmp 32) 22 rfl w.heap.size i0 Tryd.underlying22 hi hz0 hz1 hz2 _ _ rfl hown _ _ _ _ rfl (k3.out.later hb) (by omega) hB ?_; intro v1 w3 hown1 hg1)
          go_roundw
          case rel => exact ⟨3, by omega, rfl, by rw [hl3.out]; exact hown1, hown.below hb hg1 hB⟩
          case measure => simp [RowKit.intOf]
        · go_wp2
          go_ret
          exact ⟨_, rfl, by rw [← hle.out]; exact hown, hb⟩
end Go.Proofs.YtklbikafkdjgpaaDoor
