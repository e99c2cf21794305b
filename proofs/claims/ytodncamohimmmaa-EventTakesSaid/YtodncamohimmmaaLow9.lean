/-
  Texts of one sort, one behind the other: numbers, memory, regions, strings, headers. Conditions: those that each theorem states.
-/
import Derived.Test.YtodncamohimmmaaLow8
import Derived.Test.YtodncamohimmmaaLow1
import Derived.Maps.OwnOps
import Derived.WalkSpells
import Derived.Test.YtodncamohimmmaaLow2
import Derived.Lib.AppendStr

namespace Go.Proofs.Ytodncamohimmmaa
open Go.RowKit Go.Lib Go.Maps Go.WideMaps Leb

def MapT (w : World) (o : Option Nat) (l : List (List UInt8)) : Prop :=
  match o with
  | Option.none => l = []
  | some mb => ∃ D : DataW Unit, w.ownsMap Try.prog 9 (plainElem Try.prog 23) mb l.length D ∧ TabOf .u64 D l
structure PT (w : World) (b : Nat) (o : Option Nat) (v : Value) (l : List (List UInt8)) : Prop where
  blk : w.heap[b]? = some (.cells #[v, .map o] 110 (0, 0))
  own : OwnsT w 0 v l
  map : MapT w o l
  n1 : o ≠ some b
  n2 : v.ownBlock ≠ some b
  n3 : ∀ mb, o = some mb → v.ownBlock ≠ some mb
def inP (b : Nat) (o : Option Nat) (v : Value) (k : Nat) : Prop := k = b ∨ o = some k ∨ v.ownBlock = some k

theorem keyed9 : Keyed Try.prog 9 := string_keyed Try.underlying9
theorem zero3 (w : World) : (zeroValue 23).run Try.prog w = .ok (.int .u64 0) w := by kernel_rfl
theorem key_mk {p : List UInt8} (h : p.length ≤ maxLen) : keyOf Try.prog 9 (.string (mk p)) = some (.string p) := by
  have := keyOf_string_mk (P := Try.prog) Try.underlying9 (s := mk p) (by rw [mk_size]; exact h)
  rwa [mk_list] at this

section
variable {w w' : World} {b : Nat} {o : Option Nat} {v : Value} {l : List (List UInt8)}
theorem MapT.lt (h : MapT w o l) {k : Nat} (hk : o = some k) : k < w.heap.size := by
  subst hk
  obtain ⟨D, hD, _⟩ := h
  exact hD.lt
theorem MapT.alt {S : Nat → Prop} (h : MapT w o l) (ha : Alt w w' S) (hS : ∀ k, o = some k → ¬ S k) : MapT w' o l := by
  cases o with
  | none => exact h
  | some mb =>
    obtain ⟨D, hD, hT⟩ := h
    exact ⟨D, ownsMap_alt hD ha (hS mb rfl), hT⟩
theorem PT.lt (h : PT w b o v l) : b < w.heap.size := (Array.getElem?_eq_some_iff.1 h.blk).1
theorem PT.low (h : PT w b o v l) : ∀ k, inP b o v k → k < w.heap.size := fun k hk => by
  rcases hk with rfl | hk | hk
  · exact h.lt
  · exact h.map.lt hk
  · exact (h.own.lt hk).2
theorem PT.cell0 (h : PT w b o v l) : w.cell? ⟨b, 0, Option.none⟩ = some v := by rw [cell_of_row w _ 0 _ _ _ h.blk]; rfl
theorem PT.cell1 (h : PT w b o v l) : w.cell? ⟨b, 1, Option.none⟩ = some (.map o) := by rw [cell_of_row w _ 1 _ _ _ h.blk]; rfl
theorem PT.free (h : PT w b o v l) : w.frozen? ⟨b, 0, Option.none⟩ = false := frozen_of_row w _ 0 _ _ h.blk
theorem PT.alt {S : Nat → Prop} (h : PT w b o v l) (ha : Alt w w' S) (hS : ∀ k, inP b o v k → ¬ S k) : PT w' b o v l :=
  ⟨(ha.block b h.lt (hS b (.inl rfl))).trans h.blk, h.own.alt ha fun g hg => hS g (.inr (.inr hg)), h.map.alt ha fun k hk => hS k (.inr (.inl hk)), h.n1, h.n2, h.n3⟩
theorem PT.later (h : PT w b o v l) (hb : Below w.heap.size w w') : PT w' b o v l := h.alt (alt_below hb fun _ => False) fun _ _ h => h
end

structure Mid (w : World) (b mb : Nat) (v : Value) (l : List (List UInt8)) (p : List UInt8) : Prop where
  blk : w.heap[b]? = some (.cells #[v, .map (some mb)] 110 (0, 0))
  own : OwnsT w 0 v (l ++ [p])
  map : ∃ D : DataW Unit, w.ownsMap Try.prog 9 (plainElem Try.prog 23) mb l.length D ∧ TabOf .u64 D l
  n1 : mb ≠ b
  n2 : v.ownBlock ≠ some b
  n3 : v.ownBlock ≠ some mb
section
variable {w w' wx w1 : World} {b mb : Nat} {v v1 : Value} {l : List (List UInt8)} {p : List UInt8}
theorem Mid.later (h : Mid w b mb v l p) (hb : Below w.heap.size w w') : Mid w' b mb v l p := by
  have ha := alt_below hb fun _ => False
  obtain ⟨D, hD, hT⟩ := h.map
  exact ⟨(hb.block b (Array.getElem?_eq_some_iff.1 h.blk).1).trans h.blk, h.own.alt ha fun _ _ h => h, ⟨D, ownsMap_alt hD ha (fun h => h), hT⟩, h.n1, h.n2, h.n3⟩
theorem Mid.cell0 (h : Mid w b mb v l p) : w.cell? ⟨b, 0, Option.none⟩ = some v := by rw [cell_of_row w _ 0 _ _ _ h.blk]; rfl
theorem Mid.cell1 (h : Mid w b mb v l p) : w.cell? ⟨b, 1, Option.none⟩ = some (.map (some mb)) := by rw [cell_of_row w _ 1 _ _ _ h.blk]; rfl
theorem PT.grown {o : Option Nat} (h : PT w b o v l) (hb : Below w.heap.size w wx) (hg : wx.grownBy w1 v.ownBlock) : w1.heap[b]? = some (.cells #[v, .map o] 110 (0, 0)) :=
  (hg.block b (Nat.lt_of_lt_of_le h.lt hb.size) fun e => h.n2 e.symm).trans ((hb.block b h.lt).trans h.blk)
theorem PT.mid (h : PT w b (some mb) v l) (hb : Below w.heap.size w wx) (hg : wx.grownBy w1 v.ownBlock) (ho : OwnsT w1 0 v1 (l ++ [p])) (hat : v1.ownBlock = v.ownBlock ∨ v1.ownBlock = some wx.heap.size) :
    Mid (w1.setCell ⟨b, 0, Option.none⟩ v1) b mb v1 l p ∧ Alt w (w1.setCell ⟨b, 0, Option.none⟩ v1) (inP b (some mb) v) := by
  have hblk := h.grown hb hg
  obtain ⟨D, hD, hT⟩ := h.map
  have hmb := hD.lt
  have hsz := hb.size
  have hlt := h.lt
  have m2 : v1.ownBlock ≠ some b := fun e => by
    rcases hat with hat | hat
    · exact h.n2 (by rw [← hat, e])
    · rw [hat] at e; injection e with e; omega
  have m3 : v1.ownBlock ≠ some mb := fun e => by
    rcases hat with hat | hat
    · exact h.n3 mb rfl (by rw [← hat, e])
    · rw [hat] at e; injection e with e; omega
  have ha1 : Alt w w1 (inP b (some mb) v) := Alt.ahead hb (alt_grown hg (S := inP b (some mb) v) fun k hk => .inr (.inr hk))
  have ha2 := alt_set w1 ⟨b, 0, Option.none⟩ v1 (S := fun k => k = b) rfl
  have n1 : mb ≠ b := fun e => h.n1 (by rw [e])
  refine ⟨⟨heap_setCell_same w1 b 0 _ _ v1 hblk, ho.alt ha2 fun g hg e => m2 (by rw [hg, e]), ⟨D, ?_, hT⟩, n1, m2, m3⟩, ha1.trans ha2 fun j _ e => .inl e⟩
  exact ownsMap_alt (ownsMap_alt (ownsMap_alt hD (alt_below hb fun _ => False) fun h => h) (alt_grown hg (S := fun k => v.ownBlock = some k) fun k hk => hk) (h.n3 mb rfl)) ha2 n1
theorem PT.mapped (h : PT w b Option.none v l) : PT ((w.alloc (.map #[] 0)).setCell ⟨b, 1, Option.none⟩ (.map (some w.heap.size))) b (some w.heap.size) v l ∧ Alt w ((w.alloc (.map #[] 0)).setCell ⟨b, 1, Option.none⟩ (.map (some w.heap.size))) (fun k => k = b) := by
  have hl : l = [] := h.map
  subst hl
  have hb := (Below.refl w.heap.size w).alloc (Nat.le_refl _) (.map #[] 0)
  have hblk := (hb.block b h.lt).trans h.blk
  have ha1 := alt_below hb (fun k => k = b)
  have ha2 := alt_set (w.alloc (.map #[] 0)) ⟨b, 1, Option.none⟩ (.map (some w.heap.size)) (S := fun k => k = b) rfl
  have hlt := h.lt
  refine ⟨⟨heap_setCell_same _ b 1 _ _ _ hblk, (h.own.alt ha1 fun g hg e => h.n2 (by rw [hg, e])).alt ha2 fun g hg e => h.n2 (by rw [hg, e]), ⟨.map [], ownsMap_alt (World.ownsMap_made w _ _ _) ha2 (by show ¬ _ = b; omega), tab_nil _⟩, by simp only [ne_eq, Option.some.injEq]; omega, h.n2, fun mb e1 e2 => ?_⟩, ha1.trans ha2 fun j _ e => e⟩
  injection e1 with e1
  have := (h.own.lt e2).2
  omega
end

section
variable {P : Program} {ops : Array Oper} {Q : Exit → Act → World → Prop} {i : Nat} {o : Oper} {a : Act} {w : World} {K : Act → World → Prop}
theorem wpOp_nil9 (ho : ops[i]? = some o) (hw : Region.wanted o (yielded ops a.tmps) = true) (x : Operand) (hop : o.op = .nilCheck x) (p : Addr) (hx : a.eval x = .pointer (some p)) (hK : K (a.put o.dst (.pointer (some p))) w) : wpOp P ops Q i K a w :=
  wpOp_value ho hw (v := .pointer (some p)) (w' := w) (by simp only [execOp, hop, hx]; rfl) hK
theorem wpOp_mapUpdate {w' : World} (ho : ops[i]? = some o) (hw : Region.wanted o (yielded ops a.tmps) = true) (t : TypeId) (m x y : Operand) (hop : o.op = .mapUpdate t m x y) (u k v : Value) (hm : a.eval m = u) (hx : a.eval x = k) (hy : a.eval y = v)
    (hr : (Instr.mapUpdate t u k v).run P w = .ok () w') (hK : K (a.put o.dst undef) w') : wpOp P ops Q i K a w :=
  wpOp_step ho fun K' hK' => by
    rw [if_pos hw]
    unfold Oper.wp
    have e : (execOp a.eval o).run P w = .ok .skip w' := by simp only [execOp, hop, hm, hx, hy, Sem.run_bind, hr]; rfl
    rw [e]
    exact hK' _ _ hK
end

set_option maxRecDepth 100000 in
theorem run_fieldT0 (w : World) (b : Nat) : (Instr.fieldAt 110 (.pointer (some ⟨b, 0, Option.none⟩)) 0).run Try.prog w = .ok (.pointer (some ⟨b, 0, Option.none⟩)) w := by go_simp
set_option maxRecDepth 100000 in
theorem run_fieldT1 (w : World) (b : Nat) : (Instr.fieldAt 110 (.pointer (some ⟨b, 0, Option.none⟩)) 1).run Try.prog w = .ok (.pointer (some ⟨b, 1, Option.none⟩)) w := by go_simp
set_option maxRecDepth 100000 in
theorem run_loadT0 (w : World) (b k mb : Nat) (h : w.cell? ⟨b, k, Option.none⟩ = some (.map (some mb))) : (Instr.loadAt 108 (.pointer (some ⟨b, k, Option.none⟩))).run Try.prog w = .ok (.map (some mb)) w := by go_simp
set_option maxRecDepth 100000 in
theorem run_loadT1 (w : World) (b k : Nat) (A : Option Addr) (n c : Nat) (h : w.cell? ⟨b, k, Option.none⟩ = some (.slice A n c)) : (Instr.loadAt 68 (.pointer (some ⟨b, k, Option.none⟩))).run Try.prog w = .ok (.slice A n c) w := by go_simp
set_option maxRecDepth 100000 in
theorem run_convT (w : World) (n : Nat) (h : IntKind.u64.wrap (n : Int) = n) : (convert 3 23 (.int .i64 (n : Int))).run Try.prog w = .ok (.int .u64 (n : Int)) w := by go_simp

section
variable {w : World} {ops : Array Oper} {rest : List Oper} {o : Oper} {a : Act} {Q : Exit → Act → World → Prop}
set_option maxRecDepth 100000 in
theorem wpList_lookup_tab (hg : o.guard = Option.none) (m x : Operand) (hop : o.op = Op.lookup 108 m x true)
    (mo : Option Nat) (l : List (List UInt8)) (hm : a.eval m = .map mo) (h : MapT w mo l) (s : ByteArray) (p : List UInt8) (hx : a.eval x = .string s) (hkey : keyOf Try.prog 9 (.string s) = some (.string p))
    (hK : ∀ z : Int, (numT l p ≠ 0 → z = numT l p) → wpList Try.prog ops Q rest (a.put o.dst (.tuple #[.int .u64 z, .bool (decide (numT l p ≠ 0))])) w) :
    wpList Try.prog ops Q (o :: rest) a w := by
  cases mo with
  | none =>
    have hl : l = [] := h
    subst hl
    refine wpList_plain hg fun K' hK' => ?_
    have hrun := Maps.look_nil (P := Try.prog) (t := 108) (e := 23) (w := w) true keyed9 Try.underlying108 (zero3 w) hkey
    unfold Oper.wp
    simp only [execOp, hop, hm, hx, hrun, Result.andThen, Sem.run_bind]
    exact hK' _ _ (hK 0 fun e => absurd rfl e)
  | some mb =>
    obtain ⟨D, hD, hT⟩ := h
    refine wpList_lookup_own_ok_int w hg m x _ hop 9 23 .u64 keyed9 Try.underlying108 Try.underlying23 (zero3 w) mb _ D hm hD _ _ hx hkey ?_
    intro c hat _
    rw [hT.has]
    refine hK c fun hn => ?_
    rw [hT.num p hn] at hat
    injection hat with hat
    injection hat with _ hat
    exact hat.symm
end

def adF (b mb : Nat) (s : ByteArray) (A : Option Addr) (n c : Nat) (j : Nat) (v : Value) (_ : World) : Prop :=
  match j with
  | 0 | 1 | 5 | 6 | 7 => v = .pointer (some ⟨b, 0, Option.none⟩)
  | 2 => v = .pointer (some ⟨b, 1, Option.none⟩)
  | 3 => v = .map (some mb)
  | 4 => v = .string s
  | 8 => v = .slice A n c
  | 9 => v = .int .i64 (n : Int)
  | 10 => v = .int .u64 (n : Int)
  | _ => True
theorem adF_later {b mb : Nat} {s : ByteArray} {A : Option Addr} {n c : Nat} : Outlives (adF b mb s A n c) := by
  intro j v w w' h _
  unfold adF at h ⊢
  split at h
  all_goals exact h

theorem Mid.done {w w5 : World} {b mb : Nat} {v : Value} {l : List (List UInt8)} {p : List UInt8} (h : Mid w b mb v l p) {D : DataW Unit} (hD : w5.ownsMap Try.prog 9 (plainElem Try.prog 23) mb (l.length + 1) (D.put (.string p) (.lit (.int .u64 ((l.length + 1 : Nat) : Int))))) (hT : TabOf .u64 D l) (hp : numT l p = 0) (hg : w.grownBy w5 (some mb)) :
    PT w5 b (some mb) v (l ++ [p]) := by
  have ha := alt_grown hg (S := fun k => k = mb) fun k hk => by injection hk with hk; exact hk.symm
  refine ⟨(ha.block b (Array.getElem?_eq_some_iff.1 h.blk).1 fun e => h.n1 e.symm).trans h.blk, h.own.alt ha fun g hg e => h.n3 (by rw [hg, e]), ⟨_, ?_, hT.put hp⟩, fun e => h.n1 (by injection e), h.n2, fun k hk e => h.n3 (by injection hk with hk; rw [hk]; exact e)⟩
  rw [List.length_append, List.length_singleton]
  exact hD

theorem own_len (A : Option Addr) (n m c d : Nat) : (Value.slice A n c).ownBlock = (Value.slice A m d).ownBlock := by cases A <;> rfl
structure PAdd (w w' : World) (b : Nat) (o o' : Option Nat) (v u : Value) (l' : List (List UInt8)) : Prop where
  tab : PT w' b o' u l'
  alt : Alt w w' (inP b o v)
  newm : o' = o ∨ ∀ k, o' = some k → w.heap.size ≤ k
  new : u.ownBlock = v.ownBlock ∨ ∀ k, u.ownBlock = some k → w.heap.size ≤ k

set_option maxHeartbeats 4000000 in
set_option maxRecDepth 100000 in
theorem add_some (b mb : Nat) (v : Value) (l : List (List UInt8)) (p : List UInt8) (w : World) (h : PT w b (some mb) v l) (hl : l.length ≤ 1000000) (hp : numT l p = 0) (hs : p.length ≤ maxLen) :
    Calls Try.prog 84 #[.pointer (some ⟨b, 0, Option.none⟩), .string (mk p)] w fun e w' => e = .returned (.tuple #[]) ∧ ∃ u, PAdd w w' b (some mb) (some mb) v u (l ++ [p]) := by
  obtain ⟨i9, hj, hy0, hy1, hy2⟩ := info_parts Try.info9
  have qT : ∀ (w : World) (r : Option Nat), (binOp .eql 108 (.map r) (.map Option.none)).run Try.prog w = .ok (.bool r.isNone) w := fun w r => run_eql_map_nil w _ _ _ r Try.underlying108
  have hlit := Lib.hid (owns_texts w [p] (by simp [maxLen]) #[.string (mk p)] rfl)
  have hP := Lib.hid h
  have hl' := Lib.hid hl
  have hc0 := h.cell0
  have hc1 := h.cell1
  have hkey := key_mk hs
  obtain ⟨Av, nv, cv, rfl⟩ : ∃ A n c, v = .slice A n c := by
    obtain ⟨A, c, rfl, _⟩ := h.own.texts
    exact ⟨_, _, _, rfl⟩
  obtain ⟨s, hsz⟩ : ∃ s, s = mk p := ⟨_, rfl⟩
  rw [← hsz] at hkey hlit ⊢
  have hp' := Lib.hid hp
  have hwr := Lib.hid (show IntKind.u64.wrap (((l ++ [p]).length : Nat) : Int) = ((l ++ [p]).length : Nat) from IntWalk.u64_in _ ⟨by omega, by simp; omega⟩)
  clear h hl hp hsz hs
  go_enter Try.func84, Try.ntmps84
  go_wp2_with (at_builtin; refine wpList_append_texts rfl (.tmp 17) (.tmp 19) 68 rfl 0 i9 Try.underlying68 hj hy0 hy1 hy2 _ l rfl (hP.out.own.alloc _) _ [p] w.heap.size rfl hlit.out (by have := hl'.out; simp; omega) (Nat.zero_le _) ?_; intro v1 w1 hown1 hg1 hat1; have hM := Lib.hid (hP.out.mid (below_box w _) hg1 hown1 hat1); have hblk := hP.out.grown (below_box w _) hg1; have hc2 := (show w1.cell? ⟨b, 0, Option.none⟩ = some _ by rw [cell_of_row w1 _ 0 _ _ _ hblk]; rfl); have hf2 := frozen_of_row w1 b 0 _ _ hblk; have hat1' := Lib.hid hat1; obtain ⟨A1, c1, rfl, _⟩ := hown1.texts; obtain ⟨n1, hn1⟩ : ∃ n1, n1 = (l ++ [p]).length := ⟨_, rfl⟩; rw [← hn1] at hM hwr; have hn1' := Lib.hid hn1; rw [← hn1]; clear hown1 hg1 hat1 hblk hn1)
  refine wp_region_tail 11 12 (by decide) (by kernel_rfl) (RInv 34 [23, 24, 25, 26, 27, 28, 29, 30, 31, 32, 33] _ (adF b mb s A1 n1 c1) _ NoMore) (by kernel_rfl) (by kernel_rfl) (RInv.start rfl trivial (Below.refl _ _).drew) ?_ ?_
  · intro i hi D a wy hI hcl hnd hpre
    have hi' : i < 11 := hi
    have hcase : i = 0 ∨ i = 1 ∨ i = 2 ∨ i = 3 ∨ i = 4 ∨ i = 5 ∨ i = 6 ∨ i = 7 ∨ i = 8 ∨ i = 9 ∨ i = 10 := by omega
    have hF := hI.fact
    have hMy := hM.out.1.later hI.below
    rcases hcase with rfl | rfl | rfl | rfl | rfl | rfl | rfl | rfl | rfl | rfl | rfl
    · exact wpOp_move rfl (wanted_free rfl) _ rfl _ (hI.same 0 (by decide)) (hI.add (by decide) adF_later (by decide) (Below.refl _ _) rfl)
    · exact wpOp_nil9 rfl (wanted_free rfl) _ rfl _ (hF 0 (hpre 0 (by kernel_rfl))) (hI.add (by decide) adF_later (by decide) (Below.refl _ _) rfl)
    · exact wpOp_field rfl (wanted_free rfl) _ _ _ rfl _ _ (hF 1 (hpre 1 (by kernel_rfl))) (run_fieldT1 wy b) (hI.add (by decide) adF_later (by decide) (Below.refl _ _) rfl)
    · exact wpOp_load rfl (wanted_free rfl) _ _ rfl _ _ (hF 2 (hpre 2 (by kernel_rfl))) (run_loadT0 wy b 1 mb hMy.cell1) (hI.add (by decide) adF_later (by decide) (Below.refl _ _) rfl)
    · exact wpOp_move rfl (wanted_free rfl) _ rfl _ (hI.same 1 (by decide)) (hI.add (by decide) adF_later (by decide) (Below.refl _ _) rfl)
    · exact wpOp_move rfl (wanted_free rfl) _ rfl _ (hI.same 0 (by decide)) (hI.add (by decide) adF_later (by decide) (Below.refl _ _) rfl)
    · exact wpOp_nil9 rfl (wanted_free rfl) _ rfl _ (hF 5 (hpre 5 (by kernel_rfl))) (hI.add (by decide) adF_later (by decide) (Below.refl _ _) rfl)
    · exact wpOp_field rfl (wanted_free rfl) _ _ _ rfl _ _ (hF 6 (hpre 6 (by kernel_rfl))) (run_fieldT0 wy b) (hI.add (by decide) adF_later (by decide) (Below.refl _ _) rfl)
    · exact wpOp_load rfl (wanted_free rfl) _ _ rfl _ _ (hF 7 (hpre 7 (by kernel_rfl))) (run_loadT1 wy b 0 A1 n1 c1 hMy.cell0) (hI.add (by decide) adF_later (by decide) (Below.refl _ _) rfl)
    · exact wpOp_len rfl (wanted_free rfl) _ _ rfl _ Try.underlying68 A1 n1 c1 (hF 8 (hpre 8 (by kernel_rfl))) (hI.add (by decide) adF_later (by decide) (Below.refl _ _) rfl)
    · exact wpOp_convert rfl (wanted_free rfl) _ _ _ rfl _ _ (hF 9 (hpre 9 (by kernel_rfl))) (run_convT wy n1 hwr.out) (hI.add (by decide) adF_later (by decide) (Below.refl _ _) rfl)
  · intro D a wy hI hall
    have e17 : a.eval (.tmp 26) = .map (some mb) := hI.fact 3 (hall 3 (by decide))
    have e18 : a.eval (.tmp 27) = .string s := hI.fact 4 (hall 4 (by decide))
    have e23 : a.eval (.tmp 33) = .int .u64 (n1 : Int) := hI.fact 10 (hall 10 (by decide))
    have hd := hI.defs
    have hMy := hM.out.1.later hI.below
    obtain ⟨D0, hD0, hT0⟩ := hMy.map
    have hn2 : n1 = l.length + 1 := by rw [hn1'.out]; simp
    obtain ⟨w5, hrun, hD5, hg5⟩ := hD0.update (t := 108) keyed9 Try.underlying108 (by have := hl'.out; simp only [maxLen]; omega) hkey (plainElem_int Try.underlying23 (a := (n1 : Int)) (WalkArith.wf_u64 (by have := hl'.out; omega)))
    show wpOps _ _ _ [11] a wy
    rw [wpOps_cons]
    refine wpOp_mapUpdate rfl (wanted_free rfl) _ _ _ _ rfl _ _ _ e17 e18 e23 hrun ?_
    rw [wpOps]
    rw [hn2] at hD5
    have hfin := hMy.done hD5 hT0 hp'.out hg5
    refine bodyPost_end (results_none rfl _ _ _) (by first | exact hd | rfl) ⟨rfl, _, hfin, ?_, .inl rfl, ?_⟩
    · exact ((hM.out.2.behind hI.below).trans (alt_grown hg5 (S := inP b (some mb) _) fun k hk => by injection hk with hk; exact .inr (.inl (by rw [hk]))) fun j _ h => h).mono fun j _ h => by
        rcases h with h | h | h
        · exact .inl h
        · exact .inr (.inl h)
        · exact .inr (.inr h)
    · rcases hat1'.out with h | h
      · exact .inl ((own_len A1 n1 _ c1 c1).trans h)
      · refine .inr fun k hk => ?_
        rw [own_len A1 n1 (l ++ [p]).length c1 c1, h] at hk
        injection hk with hk
        simp at hk
        omega

set_option maxHeartbeats 4000000 in
set_option maxRecDepth 100000 in
theorem add_none (b : Nat) (v : Value) (l : List (List UInt8)) (p : List UInt8) (w : World) (h : PT w b Option.none v l) (hl : l.length ≤ 1000000) (hp : numT l p = 0) (hs : p.length ≤ maxLen) :
    Calls Try.prog 84 #[.pointer (some ⟨b, 0, Option.none⟩), .string (mk p)] w fun e w' => e = .returned (.tuple #[]) ∧ ∃ o' u, PAdd w w' b Option.none o' v u (l ++ [p]) := by
  obtain ⟨i9, hj, hy0, hy1, hy2⟩ := info_parts Try.info9
  have qT : ∀ (w : World) (r : Option Nat), (binOp .eql 108 (.map r) (.map Option.none)).run Try.prog w = .ok (.bool r.isNone) w := fun w r => run_eql_map_nil w _ _ _ r Try.underlying108
  have hmm := @run_makeMap Try.prog
  obtain ⟨W2, hW2⟩ : ∃ W2, W2 = (w.alloc (.map #[] 0)).setCell ⟨b, 1, Option.none⟩ (.map (some w.heap.size)) := ⟨_, rfl⟩
  have hlit := Lib.hid (owns_texts W2 [p] (by simp [maxLen]) #[.string (mk p)] rfl)
  have hPm := h.mapped
  rw [← hW2] at hPm
  have hsz2 : W2.heap.size = w.heap.size + 1 := by rw [hW2]; simp [World.setCell]
  obtain ⟨mb, hmb⟩ : ∃ mb, mb = w.heap.size := ⟨_, rfl⟩
  rw [← hmb] at hPm
  have hP := Lib.hid hPm.1
  have hA2 := Lib.hid hPm.2
  have hl' := Lib.hid hl
  have hc0 := h.cell0
  have hc1 := h.cell1
  have hbA := (Below.refl w.heap.size w).alloc (Nat.le_refl _) (.map #[] 0)
  have hc1A := (h.later hbA).cell1
  have hf1A := frozen_of_row (w.alloc (.map #[] 0)) b 1 _ _ (h.later hbA).blk
  have hc02 := hPm.1.cell0
  have hkey := key_mk hs
  obtain ⟨Av, nv, cv, rfl⟩ : ∃ A n c, v = .slice A n c := by
    obtain ⟨A, c, rfl, _⟩ := h.own.texts
    exact ⟨_, _, _, rfl⟩
  obtain ⟨s, hsz⟩ : ∃ s, s = mk p := ⟨_, rfl⟩
  rw [← hsz] at hkey hlit ⊢
  have hp' := Lib.hid hp
  have hwr := Lib.hid (show IntKind.u64.wrap (((l ++ [p]).length : Nat) : Int) = ((l ++ [p]).length : Nat) from IntWalk.u64_in _ ⟨by omega, by simp; omega⟩)
  have hW2' := Lib.hid hW2
  have hsz2' := Lib.hid hsz2
  have hmb' := Lib.hid hmb
  rw [hW2] at hc02
  clear h hl hp hsz hs hPm hW2 hsz2 hmb hbA
  go_enter Try.func84, Try.ntmps84
  go_wp2_with (at_builtin; rw [← hW2'.out, ← hmb'.out]; refine wpList_append_texts rfl (.tmp 17) (.tmp 19) 68 rfl 0 i9 Try.underlying68 hj hy0 hy1 hy2 _ l rfl (hP.out.own.alloc _) _ [p] W2.heap.size (by rw [show W2.heap.size = mb + 1 by rw [hsz2'.out, hmb'.out]]; rfl) hlit.out (by have := hl'.out; simp; omega) (Nat.zero_le _) ?_; intro v1 w1 hown1 hg1 hat1; have hM := Lib.hid (hP.out.mid (below_box W2 _) hg1 hown1 hat1); have hblk := hP.out.grown (below_box W2 _) hg1; have hc2 := (show w1.cell? ⟨b, 0, Option.none⟩ = some _ by rw [cell_of_row w1 _ 0 _ _ _ hblk]; rfl); have hf2 := frozen_of_row w1 b 0 _ _ hblk; have hat1' := Lib.hid hat1; obtain ⟨A1, c1, rfl, _⟩ := hown1.texts; obtain ⟨n1, hn1⟩ : ∃ n1, n1 = (l ++ [p]).length := ⟨_, rfl⟩; rw [← hn1] at hM hwr; have hn1' := Lib.hid hn1; rw [← hn1]; clear hown1 hg1 hat1 hblk hn1)
  refine wp_region_tail 11 12 (by decide) (by kernel_rfl) (RInv 34 [23, 24, 25, 26, 27, 28, 29, 30, 31, 32, 33] _ (adF b mb s A1 n1 c1) _ NoMore) (by kernel_rfl) (by kernel_rfl) (RInv.start rfl trivial (Below.refl _ _).drew) ?_ ?_
  · intro i hi D a wy hI hcl hnd hpre
    have hi' : i < 11 := hi
    have hcase : i = 0 ∨ i = 1 ∨ i = 2 ∨ i = 3 ∨ i = 4 ∨ i = 5 ∨ i = 6 ∨ i = 7 ∨ i = 8 ∨ i = 9 ∨ i = 10 := by omega
    have hF := hI.fact
    have hMy := hM.out.1.later hI.below
    rcases hcase with rfl | rfl | rfl | rfl | rfl | rfl | rfl | rfl | rfl | rfl | rfl
    · exact wpOp_move rfl (wanted_free rfl) _ rfl _ (hI.same 0 (by decide)) (hI.add (by decide) adF_later (by decide) (Below.refl _ _) rfl)
    · exact wpOp_nil9 rfl (wanted_free rfl) _ rfl _ (hF 0 (hpre 0 (by kernel_rfl))) (hI.add (by decide) adF_later (by decide) (Below.refl _ _) rfl)
    · exact wpOp_field rfl (wanted_free rfl) _ _ _ rfl _ _ (hF 1 (hpre 1 (by kernel_rfl))) (run_fieldT1 wy b) (hI.add (by decide) adF_later (by decide) (Below.refl _ _) rfl)
    · exact wpOp_load rfl (wanted_free rfl) _ _ rfl _ _ (hF 2 (hpre 2 (by kernel_rfl))) (run_loadT0 wy b 1 mb hMy.cell1) (hI.add (by decide) adF_later (by decide) (Below.refl _ _) rfl)
    · exact wpOp_move rfl (wanted_free rfl) _ rfl _ (hI.same 1 (by decide)) (hI.add (by decide) adF_later (by decide) (Below.refl _ _) rfl)
    · exact wpOp_move rfl (wanted_free rfl) _ rfl _ (hI.same 0 (by decide)) (hI.add (by decide) adF_later (by decide) (Below.refl _ _) rfl)
    · exact wpOp_nil9 rfl (wanted_free rfl) _ rfl _ (hF 5 (hpre 5 (by kernel_rfl))) (hI.add (by decide) adF_later (by decide) (Below.refl _ _) rfl)
    · exact wpOp_field rfl (wanted_free rfl) _ _ _ rfl _ _ (hF 6 (hpre 6 (by kernel_rfl))) (run_fieldT0 wy b) (hI.add (by decide) adF_later (by decide) (Below.refl _ _) rfl)
    · exact wpOp_load rfl (wanted_free rfl) _ _ rfl _ _ (hF 7 (hpre 7 (by kernel_rfl))) (run_loadT1 wy b 0 A1 n1 c1 hMy.cell0) (hI.add (by decide) adF_later (by decide) (Below.refl _ _) rfl)
    · exact wpOp_len rfl (wanted_free rfl) _ _ rfl _ Try.underlying68 A1 n1 c1 (hF 8 (hpre 8 (by kernel_rfl))) (hI.add (by decide) adF_later (by decide) (Below.refl _ _) rfl)
    · exact wpOp_convert rfl (wanted_free rfl) _ _ _ rfl _ _ (hF 9 (hpre 9 (by kernel_rfl))) (run_convT wy n1 hwr.out) (hI.add (by decide) adF_later (by decide) (Below.refl _ _) rfl)
  · intro D a wy hI hall
    have e17 : a.eval (.tmp 26) = .map (some mb) := hI.fact 3 (hall 3 (by decide))
    have e18 : a.eval (.tmp 27) = .string s := hI.fact 4 (hall 4 (by decide))
    have e23 : a.eval (.tmp 33) = .int .u64 (n1 : Int) := hI.fact 10 (hall 10 (by decide))
    have hd := hI.defs
    have hMy := hM.out.1.later hI.below
    obtain ⟨D0, hD0, hT0⟩ := hMy.map
    have hn2 : n1 = l.length + 1 := by rw [hn1'.out]; simp
    obtain ⟨w5, hrun, hD5, hg5⟩ := hD0.update (t := 108) keyed9 Try.underlying108 (by have := hl'.out; simp only [maxLen]; omega) hkey (plainElem_int Try.underlying23 (a := (n1 : Int)) (WalkArith.wf_u64 (by have := hl'.out; omega)))
    show wpOps _ _ _ [11] a wy
    rw [wpOps_cons]
    refine wpOp_mapUpdate rfl (wanted_free rfl) _ _ _ _ rfl _ _ _ e17 e18 e23 hrun ?_
    rw [wpOps]
    rw [hn2] at hD5
    have hfin := hMy.done hD5 hT0 hp'.out hg5
    refine bodyPost_end (results_none rfl _ _ _) (by first | exact hd | rfl) ⟨rfl, _, _, hfin, ?_, .inr fun k hk => ?_, ?_⟩
    · refine (hA2.out.mono (S' := inP b Option.none _) fun j _ e => .inl e).trans ((hM.out.2.behind hI.below).trans (alt_grown hg5 (S := inP b (some mb) _) fun k hk => by injection hk with hk; exact .inr (.inl (by rw [hk]))) fun j _ h => h) fun j hj h => ?_
      rcases h with h | h | h
      · exact .inl h
      · injection h with h
        have := hmb'.out
        omega
      · exact .inr (.inr h)
    · injection hk with hk
      rw [← hk, hmb'.out]
      exact Nat.le_refl _
    · rcases hat1'.out with h | h
      · exact .inl ((own_len A1 n1 _ c1 c1).trans h)
      · refine .inr fun k hk => ?_
        rw [own_len A1 n1 (l ++ [p]).length c1 c1, h] at hk
        injection hk with hk
        have := hsz2'.out
        simp at hk
        omega

theorem add_any (b : Nat) (o : Option Nat) (v : Value) (l : List (List UInt8)) (p : List UInt8) (w : World) (h : PT w b o v l) (hl : l.length ≤ 1000000) (hp : numT l p = 0) (hs : p.length ≤ maxLen) :
    Calls Try.prog 84 #[.pointer (some ⟨b, 0, Option.none⟩), .string (mk p)] w fun e w' => e = .returned (.tuple #[]) ∧ ∃ o' u, PAdd w w' b o o' v u (l ++ [p]) := by
  cases o with
  | none =>
    refine (add_none b v l p w h hl hp hs).mono ?_
    rintro e w' ⟨rfl, o', u, hA⟩
    exact ⟨rfl, o', u, hA⟩
  | some mb =>
    refine (add_some b mb v l p w h hl hp hs).mono ?_
    rintro e w' ⟨rfl, u, hA⟩
    exact ⟨rfl, _, u, hA⟩

set_option maxHeartbeats 2000000 in
set_option maxRecDepth 100000 in
theorem new19_any (w : World) : Calls Try.prog 30 #[] w fun e w' => ∃ b, e = .returned (.pointer (some ⟨b, 0, Option.none⟩)) ∧ PT w' b Option.none (.slice Option.none 0 0) [] ∧ w.heap.size ≤ b ∧ Below w.heap.size w w' := by
  have hP : Hid (PT (w.alloc (.cells #[.slice Option.none 0 0, .map Option.none] 110)) w.heap.size Option.none (.slice Option.none 0 0) []) := Lib.hid
    ⟨heap_alloc_new w _, World.ownsRow_nil _ _ _ _, rfl, by simp, by simp [Value.ownBlock], by simp⟩
  have hb := Lib.hid ((Below.refl w.heap.size w).alloc (Nat.le_refl _) (.cells #[.slice Option.none 0 0, .map Option.none] 110))
  go_enter Try.func30, Try.ntmps30
  go_wp2
  go_ret
  exact ⟨_, rfl, hP.out, Nat.le_refl _, hb.out⟩
end Go.Proofs.Ytodncamohimmmaa

namespace Go.Proofs.Ytodncamohimmmaa
open Go.RowKit Go.Lib Go.Maps Go.WideMaps Leb

theorem PAdd.same {w w' : World} {b : Nat} {o : Option Nat} {v : Value} {l : List (List UInt8)} (h : PT w b o v l) (hb : Below w.heap.size w w') : PAdd w w' b o o v v l := ⟨h.later hb, alt_below hb _, .inl rfl, .inl rfl⟩
theorem PAdd.inNew {w w' : World} {b : Nat} {o o' : Option Nat} {v u : Value} {l' : List (List UInt8)} (h : PAdd w w' b o o' v u l') : ∀ k, inP b o' u k → inP b o v k ∨ w.heap.size ≤ k := fun k hk => by
  rcases hk with hk | hk | hk
  · exact .inl (.inl hk)
  · rcases h.newm with e | e
    · exact .inl (.inr (.inl (by rw [← e]; exact hk)))
    · exact .inr (e k hk)
  · rcases h.new with e | e
    · exact .inl (.inr (.inr (by rw [← e]; exact hk)))
    · exact .inr (e k hk)
theorem PAdd.on {w w1 w' : World} {b : Nat} {o o' : Option Nat} {v u : Value} {l' : List (List UInt8)} (h : PAdd w w1 b o o' v u l') (ha : Alt w1 w' (fun k => w1.heap.size ≤ k)) : PAdd w w' b o o' v u l' :=
  ⟨h.tab.alt ha fun k hk hs => by have := h.tab.low k hk; omega, h.alt.trans ha fun j hj hs => by have := h.alt.size; omega, h.newm, h.new⟩
theorem bytes_congr {a b : List Int} (h : Bytes a) (e : a = b) : Bytes b := e ▸ h
theorem strCells_mk (p : List UInt8) : strCells (mk p) = (nums p).map (Value.int .u8) := by simp [strCells, mk, nums]

section
variable (b : Nat) (o : Option Nat) (v : Value) (l : List (List UInt8)) (A : Option Addr) (n c : Nat) (X : List Int) (p : List UInt8) (w : World)
set_option maxHeartbeats 4000000 in
set_option maxRecDepth 100000 in
theorem put19_old (h : PT w b o v l) (hl : l.length ≤ 1000000) (hX : Holds w A n c X) (hn : n + p.length ≤ 140737488000000) (hp : numT l p ≠ 0) :
    Calls Try.prog 82 #[.pointer (some ⟨b, 0, Option.none⟩), .slice A n c, .string (mk p)] w (Gives w 5 (X ++ enc (numT l p))) := by
  have hkey := key_mk (p := p) (by simp only [maxLen]; omega)
  have hmap := Lib.hid h.map
  have hc1 := h.cell1
  have hle := numT_le l p
  obtain ⟨k, hk⟩ : ∃ k, k = numT l p := ⟨_, rfl⟩
  rw [← hk] at hle ⊢
  have hU : U64 k := by unfold U64; omega
  have hwr := wrap_of hU
  have hput := Lib.hid (put_any A n c X k w hU hX (by omega))
  obtain ⟨s, hs⟩ : ∃ s, s = mk p := ⟨_, rfl⟩
  rw [← hs] at hkey ⊢
  have hkey' := Lib.hid hkey
  have hp' := Lib.hid hp
  have hk' := Lib.hid hk
  clear h hX hs hU hk hkey hp hle
  go_enter Try.func82, Try.ntmps82
  go_wp2_with (first
    | (at_lookup; refine wpList_lookup_tab rfl _ _ rfl _ l rfl hmap.out _ p rfl hkey'.out ?_; intro z hz; have hz2 : z = (k : Int) := (hz hp'.out).trans (by rw [hk'.out]); subst hz2; clear hz; rw [decide_eq_true hp'.out])
    | (go_at_call 57; refine hput.out.mono ?_; rintro e w2 ⟨v2, rfl, hown2, hb2⟩))
  go_ret
  exact ⟨_, rfl, hown2, hb2⟩

set_option maxHeartbeats 8000000 in
set_option maxRecDepth 100000 in
theorem put19_new (h : PT w b o v l) (hl : l.length ≤ 1000000) (hX : Holds w A n c X) (ho : Off (inP b o v) A n) (hn : n + p.length ≤ 140737488000000) (hp : numT l p = 0) :
    Calls Try.prog 82 #[.pointer (some ⟨b, 0, Option.none⟩), .slice A n c, .string (mk p)] w fun e w' => ∃ r o' u, e = .returned r ∧ Owns w' w.heap.size 5 r (X ++ (0 :: enc p.length ++ nums p)) ∧ OffV (inP b o' u) r ∧ PAdd w w' b o o' v u (l ++ [p]) := by
  obtain ⟨i0, hi, hz0, hz1, hz2⟩ := info_parts Try.info8
  have hmap := Lib.hid h.map
  have hml : p.length ≤ maxLen := by simp only [maxLen]; omega
  have hkey := key_mk hml
  have hc1 := h.cell1
  have hadd := Lib.hid (add_any b o v l p w h hl hp hml)
  obtain ⟨Y, hY⟩ : ∃ Y, Y = X ++ enc 0 := ⟨_, rfl⟩
  have hX' := Lib.hid (fun W (hA : Alt w W (inP b o v)) => put_any A n c X 0 W (show U64 0 by unfold U64; omega) (hX.alt hA ho) (by omega))
  rw [← hY] at hX'
  have hYl : Y.length = n + 1 := by rw [hY, enc_small (by omega), List.length_append, hX.len]; rfl
  have hU : U64 p.length := by unfold U64; omega
  have hwr := wrap_of hU
  have hU' := Lib.hid hU
  have hY0 := Lib.hid (show Y = X ++ [0] by rw [hY, enc_small (by omega)]; rfl)
  have hYl' := Lib.hid hYl
  have hszk := Lib.hid (show (enc p.length).length ≤ 10 from size_le10 hU)
  have hsz : (mk p).size = p.length := mk_size p
  have hcs := Lib.hid (strCells_mk p)
  obtain ⟨m, hm⟩ : ∃ m, m = p.length := ⟨_, rfl⟩
  rw [← hm] at hsz hwr hn hszk
  have hmi : (m : Int) ≤ 9223372036854775807 := by omega
  have hn' := Lib.hid hn
  have hm' := Lib.hid hm
  have hp' := Lib.hid hp
  obtain ⟨s, hs⟩ : ∃ s, s = mk p := ⟨_, rfl⟩
  rw [← hs] at hkey hadd hcs hsz ⊢
  have hkey' := Lib.hid hkey
  have tok1 : True := trivial
  have tok2 : True := trivial
  rw [← hm] at hU'
  clear h hX hs hU hkey hm hp hl hml ho hn hY hYl
  go_enter Try.func82, Try.ntmps82
  go_wp2_with (first
    | (at_lookup; refine wpList_lookup_tab rfl _ _ rfl _ l rfl hmap.out _ p rfl hkey'.out ?_; intro z hz; clear hz; rw [decide_eq_false (fun e => e hp'.out)])
    | (go_at_call 84; refine hadd.out.mono ?_; rintro e w1 ⟨rfl, o1, u, hA⟩; have hA' := Lib.hid hA; clear hA)
    | (go_at_call 57; have _t := tok1; refine (hX'.out w1 hA'.out.alt).mono ?_; rintro e w2 ⟨v2, rfl, hown2, hb2⟩; have hb2' := Lib.hid hb2; obtain ⟨A2, c2, rfl, hH2⟩ := hown2.holds; have hH2' := Lib.hid hH2; clear hb2 hown2 hH2 tok1)
    | (go_at_call 57; have _t := tok2; refine (put_any A2 _ c2 Y m w2 hU'.out hH2'.out (by have := hn'.out; have := hYl'.out; omega)).mono ?_; rintro e w3 ⟨v3, rfl, hown3, hb3⟩; have hb3' := Lib.hid hb3; have hown3' := Lib.hid hown3; clear hb3 hown3 tok2)
    | (at_builtin; refine wpList_append_own_string _ rfl (.tmp 35) (.tmp 36) 43 9 rfl w2.heap.size 5 i0 Try.underlying43 Try.underlying9 hi hz0 hz1 hz2 _ _ _ rfl hown3'.out.2 s rfl (by have := hn'.out; have := hYl'.out; have := hszk.out; rw [hsz]; simp only [maxLen, List.length_append]; omega) (by have := hn'.out; have := hYl'.out; have := hszk.out; rw [hsz]; simp only [List.length_append]; omega) hb3'.out.size ?_; intro v4 w4 hown4 hg4 _; have hown4' := Lib.hid hown4; have hg4' := Lib.hid hg4; clear hown4 hg4))
  go_ret
  have hown4 := hown4'.out
  rw [hcs.out, hsz, hm'.out] at hown4
  have hown : Owns w4 w2.heap.size 5 v4 (X ++ (0 :: enc p.length ++ nums p)) := by
    refine ⟨bytes_congr (hown3'.out.1.append (nums_bytes p)) (by rw [hY0.out, hm'.out]; simp), ?_⟩
    have e : X ++ (0 :: enc p.length ++ nums p) = Y ++ enc m ++ nums p := by rw [hY0.out, hm'.out]; simp
    rw [e, List.map_append, List.length_append, nums_len, hm'.out]
    exact hown4
  have hs1 := hA'.out.alt.size
  have hs2 := hb2'.out.size
  have hin := hA'.out.tab.low
  refine ⟨_, _, _, rfl, hown.low (Nat.le_trans hs1 hs2), fun g hg ht => ?_, hA'.out.on (((alt_below hb2'.out _).trans (alt_below hb3'.out _) fun _ _ h => h).trans (alt_grown hg4'.out (S := fun k => w1.heap.size ≤ k) fun k hk => ?_) fun _ _ h => h)⟩
  · have h1 := (hown.2.lt g hg).1
    have h2 := hin g ht
    omega
  · have h1 := (hown3'.out.2.lt k hk).1
    omega

theorem put19_any (h : PT w b o v l) (hl : l.length ≤ 1000000) (hX : Holds w A n c X) (ho : Off (inP b o v) A n) (hn : n + p.length ≤ 140737488000000) :
    Calls Try.prog 82 #[.pointer (some ⟨b, 0, Option.none⟩), .slice A n c, .string (mk p)] w fun e w' => ∃ r o' u, e = .returned r ∧ Owns w' w.heap.size 5 r (X ++ putB l p) ∧ OffV (inP b o' u) r ∧ PAdd w w' b o o' v u (putL l p) := by
  by_cases hp : numT l p = 0
  · rw [putB_new hp, putL_new hp]
    exact put19_new b o v l A n c X p w h hl hX ho hn hp
  · rw [putB_old hp, putL_old hp]
    refine (put19_old b o v l A n c X p w h hl hX hn hp).mono ?_
    rintro e w' ⟨r, rfl, hr, hb⟩
    exact ⟨r, _, v, rfl, hr, hr.off h.low, PAdd.same h hb⟩
end
end Go.Proofs.Ytodncamohimmmaa
