/-
  Texts of one sort, one behind the other: numbers, memory, regions, strings, headers. Conditions: those that each theorem states.
-/
import Derived.Test.YtodncamohimmmaaLow1
import Derived.Maps.OwnSet
import Derived.Maps.OwnOps
import Derived.DeepKeys4
import Derived.Test.YtodncamohimmmaaProg
import Derived.Test.YtodncamohimmmaaLow3
import Derived.Test.YtodncamohimmmaaLow12
import Derived.Carry
import Derived.Test.YtodncamohimmmaaLow15
import Derived.Test.YtodncamohimmmaaEvPVisit
import Derived.Test.YtodncamohimmmaaLow13

namespace Go.Proofs.Ytodncamohimmmaa
open Go.RowKit Go.Lib Go.Maps

def heldElem (v : Value) : Option (DataW Value × List MemPlace) := some (.held v, [])
def nilS : Value := .slice Option.none 0 0
def I64 (s : Int) : Prop := -9223372036854775808 ≤ s ∧ s ≤ 9223372036854775807
structure KeyW (P : Program) (k : TypeId) (key : Int → Bool → Value) (kl : Int → Bool → Lit) : Prop where
  keyed : Keyed P k
  reads : ∀ s a, I64 s → keyOf P k (key s a) = some (kl s a)
  isKey : ∀ s a, WideAt.IsKeyLit (kl s a)
  inj : ∀ s a s' a', I64 s → I64 s' → kl s a = kl s' a' → s = s' ∧ a = a'
theorem nodup_below : ∀ (N : Nat) (l : List Nat), l.Nodup → (∀ x ∈ l, x < N) → l.length ≤ N
  | 0, l, _, h => by
    cases l with
    | nil => simp
    | cons x r => exact absurd (h x (by simp)) (by omega)
  | N + 1, l, hd, h => by
    by_cases hN : N ∈ l
    · have h1 := nodup_below N (l.erase N) (hd.erase N) fun x hx => by
        have h2 := h x (List.mem_of_mem_erase hx)
        have h3 : x ≠ N := fun e => by
          subst e
          exact (List.Nodup.not_mem_erase hd) hx
        omega
      rw [List.length_erase_of_mem hN] at h1
      omega
    · have h1 := nodup_below N l hd fun x hx => by
        have h2 := h x hx
        have h3 : x ≠ N := fun e => hN (e ▸ hx)
        omega
      omega
def inDom (x : Int × Bool) : Prop := 0 ≤ x.1 ∧ x.1 ≤ 1048576
def numK (x : Int × Bool) : Nat := 2 * x.1.toNat + (if x.2 = true then 1 else 0)
theorem few_keys {ks : List (Int × Bool)} (hd : ks.Nodup) (h : ∀ x ∈ ks, inDom x) : ks.length ≤ 2097154 := by
  have h1 := nodup_below 2097154 (ks.map numK) (by
    rw [List.Nodup, List.pairwise_map]
    refine List.Pairwise.imp_of_mem ?_ hd
    intro a b ha hb hne e
    have ha := h a ha
    have hb := h b hb
    unfold inDom at ha hb
    obtain ⟨a1, a2⟩ := a
    obtain ⟨b1, b2⟩ := b
    unfold numK at e
    simp only at ha hb e
    refine hne ?_
    have e1 : a1 = b1 := by cases a2 <;> cases b2 <;> simp at e <;> omega
    subst e1
    cases a2 <;> cases b2 <;> simp at e <;> first | rfl | omega) (fun x hx => by
    obtain ⟨y, hy, rfl⟩ := List.mem_map.1 hx
    have := h y hy
    unfold inDom at this
    unfold numK
    split <;> omega)
  simpa using h1
theorem ownsMap_tight {H : Type} {w : World} {P : Program} {k : TypeId} {R : Value → Option (DataW H × List MemPlace)} {b n : Nat} {D : DataW H} (h : w.ownsMap P k R b n D) : w.ownsMap P k R b (Maps.size D) D := by
  obtain ⟨es, clock, hb, F, _, rfl⟩ := h
  refine ⟨es, clock, hb, F, ?_, rfl⟩
  rw [Maps.size_eq, length_sorted]
  simp
structure MapV (w : World) (P : Program) (k : TypeId) (kl : Int → Bool → Lit) (mb : Nat) (ks : List (Int × Bool)) (val : Int → Bool → Value) : Prop where
  ex : ∃ D : DataW Value, w.ownsMap P k heldElem mb ks.length D ∧ Maps.size D = ks.length ∧ (∀ s a, I64 s → D.atKey (kl s a) (.held nilS) = .held (val s a)) ∧ ∀ s a, I64 s → Maps.has D (kl s a) = decide ((s, a) ∈ ks)
  one : ks.Nodup
  dom : ∀ x ∈ ks, inDom x
section
variable {w w' : World} {P : Program} {k : TypeId} {key : Int → Bool → Value} {kl : Int → Bool → Lit} {mb : Nat} {ks : List (Int × Bool)} {val : Int → Bool → Value}
theorem mapV_made (w : World) (P : Program) (k : TypeId) (kl : Int → Bool → Lit) : MapV (w.alloc (.map #[] 0)) P k kl w.heap.size [] (fun _ _ => nilS) :=
  ⟨⟨_, World.ownsMap_made w P k heldElem, rfl, fun s a _ => by simp [DataW.atKey], fun s a _ => by simp [Maps.has]⟩, List.nodup_nil, fun x h => by cases h⟩
theorem MapV.lt (h : MapV w P k kl mb ks val) : mb < w.heap.size := by
  obtain ⟨D, hD, _⟩ := h.ex
  exact hD.lt
theorem MapV.alt {S : Nat → Prop} (h : MapV w P k kl mb ks val) (ha : Alt w w' S) (hS : ¬ S mb) : MapV w' P k kl mb ks val := by
  obtain ⟨D, hD, hm, hv⟩ := h.ex
  exact ⟨⟨D, ownsMap_alt hD ha hS, hm, hv⟩, h.one, h.dom⟩
end
section
variable {w : World} {P : Program} {k : TypeId} {key : Int → Bool → Value} {kl : Int → Bool → Lit} {mb : Nat} {ks : List (Int × Bool)} {val : Int → Bool → Value} {ops : Array Oper} {rest : List Oper} {o : Oper} {a : Act} {Q : Exit → Act → World → Prop}
theorem MapV.look {t e : TypeId} (hK : KeyW P k key kl) (ht : P.underlying t = some (.map k e)) (hz : (zeroValue e).run P w = .ok nilS w) (h : MapV w P k kl mb ks val) (s : Int) (q : Bool) (hs : I64 s) :
    (Instr.lookup t (.map (some mb)) (key s q) false).run P w = .ok (val s q) w := by
  obtain ⟨D, hD, _, hv, _⟩ := h.ex
  obtain ⟨v, ps, hrun, hR⟩ := hD.lookup hK.keyed ht hz (zd := .held nilS) (zp := []) rfl (hK.reads s q hs)
  rw [hv s q hs] at hR
  unfold heldElem at hR
  simp only [Option.some.injEq, Prod.mk.injEq, DataW.held.injEq] at hR
  rw [hrun, hR.1]
theorem wpList_store_V (hg : o.guard = Option.none) (m x y : Operand) (t e : TypeId) (hop : o.op = Op.mapUpdate t m x y) (hK : KeyW P k key kl) (ht : P.underlying t = some (.map k e))
    (hm : a.eval m = .map (some mb)) (h : MapV w P k kl mb ks val) (s : Int) (q : Bool) (hs : inDom (s, q)) (hx : a.eval x = key s q) (v : Value) (hy : a.eval y = v)
    (hQ : ∀ w', MapV w' P k kl mb (if (s, q) ∈ ks then ks else (s, q) :: ks) (fun s' a' => if s' = s ∧ a' = q then v else val s' a') → w.grownBy w' (some mb) → wpList P ops Q rest (a.put o.dst undef) w') : wpList P ops Q (o :: rest) a w := by
  have hs9 : I64 s := by unfold inDom at hs; unfold I64; simp only at hs; omega
  have hfew := few_keys h.one h.dom
  obtain ⟨D, hD, hsz, hv, hh⟩ := h.ex
  refine wpList_mapUpdate_own w hg m x y t hop k e hK.keyed ht heldElem mb ks.length D hm hD (by unfold maxLen; omega) _ _ _ hx hy (hK.reads s q hs9) (.held v) [] rfl fun w' h1 h2 => hQ w' ?_ h2
  have hT := hD.tidy hK.keyed
  have hz := Maps.size_put (k := kl s q) hT (.held v)
  rw [hh s q hs9, hsz] at hz
  have hne : ∀ s' a', I64 s' → ¬ (s' = s ∧ a' = q) → kl s' a' ≠ kl s q := fun s' a' hs' e e' => e (hK.inj _ _ _ _ hs' hs9 e')
  have hat : ∀ s' a', I64 s' → (D.put (kl s q) (.held v)).atKey (kl s' a') (.held nilS) = .held (if s' = s ∧ a' = q then v else val s' a') := fun s' a' hs' => by
    by_cases e : s' = s ∧ a' = q
    · obtain ⟨rfl, rfl⟩ := e
      rw [atKey_put_same hT.isMap (hK.isKey _ _), if_pos ⟨rfl, rfl⟩]
    · rw [atKey_put_other (hne _ _ hs' e), hv _ _ hs', if_neg e]
  have hput : ∀ s' a', I64 s' → Maps.has (D.put (kl s q) (.held v)) (kl s' a') = (decide ((s', a') ∈ ks) || decide (s' = s ∧ a' = q)) := fun s' a' hs' => by
    by_cases e : s' = s ∧ a' = q
    · obtain ⟨rfl, rfl⟩ := e
      rw [has_put_same hT.isMap (hK.isKey _ _)]
      simp
    · rw [has_put_other (hne _ _ hs' e), hh _ _ hs']
      simp [e]
  have h1t := ownsMap_tight h1
  by_cases hin : (s, q) ∈ ks
  · rw [if_pos hin]
    rw [decide_eq_true hin, if_pos rfl] at hz
    rw [hz] at h1t
    refine ⟨⟨_, h1t, hz, hat, fun s' a' hs' => ?_⟩, h.one, h.dom⟩
    rw [hput s' a' hs']
    by_cases e : s' = s ∧ a' = q
    · obtain ⟨rfl, rfl⟩ := e
      simp [hin]
    · simp [e]
  · rw [if_neg hin]
    rw [decide_eq_false hin, if_neg (by simp)] at hz
    rw [hz] at h1t
    refine ⟨⟨_, h1t, hz, hat, fun s' a' hs' => ?_⟩, List.nodup_cons.2 ⟨hin, h.one⟩, fun x hx => ?_⟩
    · rw [hput s' a' hs']
      by_cases e : s' = s ∧ a' = q
      · obtain ⟨rfl, rfl⟩ := e
        simp
      · simp [e]
    · rcases List.mem_cons.1 hx with rfl | hx
      · exact hs
      · exact h.dom x hx
end
end Go.Proofs.Ytodncamohimmmaa

namespace Go.Proofs.Ytodncamohimmmaa
open Go.RowKit Go.Lib Go.Maps

def streamV (s : Int) (a : Bool) : Value := .agg #[.int .i64 s, .bool a]
def streamL (s : Int) (a : Bool) : Lit := .string (keyBytes [.int .i64 s, .bool a])
theorem laidS : laidOutB Try.prog = true := by kernel_rfl
theorem rowS : (76 : TypeId) < Try.prog.types.size := of_decide_eq_true (by kernel_rfl)
theorem wideS : (match Try.prog.underlying 76 with | some (.array _ _) | some (.struct _) => true | _ => false) = true := by rw [Try.underlying76]
set_option maxRecDepth 100000 in
theorem lawS : WideMaps.KeyLaw Try.prog 76 := deep_law_laid laidS (m := 2) (by omega) rowS (by kernel_rfl) wideS
set_option maxRecDepth 100000 in
theorem litsS (s : Int) (a : Bool) (h : I64 s) : Try.prog.keyLits (Try.prog.types.size + 1) 76 [.int .i64 s, .bool a] = some [.int .i64 s, .bool a] := by
  have hw : (Lit.int .i64 s).wf = true := by
    unfold I64 at h
    simp [Lit.wf, IntKind.min, IntKind.max, IntKind.signed, IntKind.bits]
    omega
  obtain ⟨N, hs⟩ : ∃ N, Try.prog.types.size = N + 1 := ⟨_, (Nat.sub_add_cancel (show 1 ≤ Try.prog.types.size from of_decide_eq_true (by kernel_rfl))).symm⟩
  have c1 : Try.prog.cellsOf 76 = 2 := by kernel_rfl
  have c2 : Try.prog.cellsOf 3 = 1 := by kernel_rfl
  have c3 : Try.prog.cellsOf 4 = 1 := by kernel_rfl
  rw [hs]
  simp [Program.keyLits, Try.underlying76, Try.underlying3, Try.underlying4, c1, c2, c3, hw]
set_option maxRecDepth 100000 in
theorem readsS (s : Int) (a : Bool) (h : I64 s) : keyOf Try.prog 76 (streamV s a) = some (streamL s a) := by
  have hk : Try.prog.keyType 76 = true := by kernel_rfl
  have hf : (streamV s a).formed Try.prog 76 = true := by
    have c1 : Try.prog.cellsOf 76 = 2 := by kernel_rfl
    simp [Value.formed, streamV, Try.underlying76, c1]
  unfold keyOf
  rw [Try.underlying76]
  simp only [hk, hf, Bool.and_self, if_true]
  show ((Try.prog.keyLits (Try.prog.types.size + 1) 76 [.int .i64 s, .bool a]).map fun ls => Lit.string (keyBytes ls)) = _
  rw [litsS s a h]
  rfl
theorem keyW_stream : KeyW Try.prog 76 streamV streamL where
  keyed := Keyed.of_law lawS
  reads := readsS
  isKey := fun s a => by simp [streamL, WideAt.IsKeyLit]
  inj := fun s a s' a' h h' e => by
    have e1 : keyBytes [Lit.int .i64 s, .bool a] = keyBytes [Lit.int .i64 s', .bool a'] := by
      unfold streamL at e
      injection e
    have := keyLits_inj (litsS s a h) (litsS s' a' h') e1
    simpa using this
end Go.Proofs.Ytodncamohimmmaa

namespace Go.Proofs.Ytodncamohimmmaa
open Go.RowKit Go.Lib Go.Maps Leb

structure BkP (w : World) (b tb mb : Nat) (T0 L : Nat → Prop) (ks : List (Int × Bool)) (val : Int → Bool → Value) (k : Bk) : Prop where
  blk : w.heap[b]? = some (.cells #[.pointer (some ⟨tb, 0, Option.none⟩), .int .i64 k.tick, .map (some mb)] 66 (0, 0))
  tab : PTab w tb k.tab T0
  map : MapV w Try.prog 76 streamL mb ks val
  rd : ∀ s a, I64 s → ∃ A m c, val s a = .slice A m c ∧ Hds w A m c (k.look s a) ∧ ∀ g off, A = some ⟨g, off, Option.none⟩ → 0 < m → L g
  lowL : ∀ j, L j → j < w.heap.size
  b0 : ¬ T0 b
  m0 : ¬ T0 mb
  bm : mb ≠ b
  bL : ¬ L b
  mL : ¬ L mb
  tL : ∀ j, T0 j → ¬ L j
def inK (b mb : Nat) (T0 L : Nat → Prop) (j : Nat) : Prop := j = b ∨ T0 j ∨ j = mb ∨ L j
def PBk (w : World) (b : Nat) (S : Nat → Prop) (k : Bk) : Prop := ∃ tb mb T0 L ks val, BkP w b tb mb T0 L ks val k ∧ ∀ j, S j ↔ inK b mb T0 L j
section
variable {w w' : World} {b tb mb : Nat} {T0 T1 L S S' : Nat → Prop} {ks : List (Int × Bool)} {val : Int → Bool → Value} {k : Bk}
theorem BkP.lt (h : BkP w b tb mb T0 L ks val k) : b < w.heap.size := (Array.getElem?_eq_some_iff.1 h.blk).1
theorem BkP.low (h : BkP w b tb mb T0 L ks val k) : ∀ j, inK b mb T0 L j → j < w.heap.size := fun j hj => by
  rcases hj with rfl | hj | rfl | hj
  · exact h.lt
  · exact h.tab.low j hj
  · exact h.map.lt
  · exact h.lowL j hj
theorem BkP.cell (h : BkP w b tb mb T0 L ks val k) : w.cell? ⟨b, 0, Option.none⟩ = some (.pointer (some ⟨tb, 0, Option.none⟩)) ∧ w.cell? ⟨b, 1, Option.none⟩ = some (.int .i64 k.tick) ∧ w.cell? ⟨b, 2, Option.none⟩ = some (.map (some mb)) := by
  refine ⟨?_, ?_, ?_⟩
  · rw [cell_of_row w _ 0 _ _ _ h.blk]; rfl
  · rw [cell_of_row w _ 1 _ _ _ h.blk]; rfl
  · rw [cell_of_row w _ 2 _ _ _ h.blk]; rfl
theorem BkP.free (h : BkP w b tb mb T0 L ks val k) (i : Nat) : w.frozen? ⟨b, i, Option.none⟩ = false := frozen_of_row w _ i _ _ h.blk
theorem BkP.alt (h : BkP w b tb mb T0 L ks val k) (ha : Alt w w' S') (hS : ∀ j, inK b mb T0 L j → ¬ S' j) : BkP w' b tb mb T0 L ks val k :=
  ⟨(ha.block b h.lt (hS b (.inl rfl))).trans h.blk, h.tab.alt ha fun j hj => hS j (.inr (.inl hj)), h.map.alt ha (hS mb (.inr (.inr (.inl rfl)))), fun s a hs => by
    obtain ⟨A, m, c, e, hH, hL⟩ := h.rd s a hs
    exact ⟨A, m, c, e, hH.alt ha fun g off e h0 hk => hS g (.inr (.inr (.inr (hL g off e h0)))) hk, hL⟩, fun j hj => Nat.lt_of_lt_of_le (h.lowL j hj) ha.size, h.b0, h.m0, h.bm, h.bL, h.mL, h.tL⟩
theorem BkP.later (h : BkP w b tb mb T0 L ks val k) (hb : Below w.heap.size w w') : BkP w' b tb mb T0 L ks val k := h.alt (alt_below hb fun _ => False) fun _ _ h => h
theorem BkP.turn (h : BkP w b tb mb T0 L ks val k) {T' : List (List UInt8)} (hs : PStep w w' tb T0 T1 T') : BkP w' b tb mb T1 L ks val { k with tab := T' } := by
  have hb := h.lt
  have hm := h.map.lt
  refine ⟨(hs.alt.block b hb h.b0).trans h.blk, hs.tab, h.map.alt hs.alt h.m0, fun s a hsa => ?_, fun j hj => Nat.lt_of_lt_of_le (h.lowL j hj) hs.alt.size, fun hk => (hs.new _ hk).elim h.b0 fun h1 => by omega, fun hk => (hs.new _ hk).elim h.m0 fun h1 => by omega, h.bm, h.bL, h.mL, fun j hj hL => (hs.new _ hj).elim (fun h1 => h.tL j h1 hL) fun h1 => by have := h.lowL j hL; omega⟩
  obtain ⟨A, m, c, e, hH, hL⟩ := h.rd s a hsa
  exact ⟨A, m, c, e, hH.alt hs.alt fun g off e h0 hk => h.tL g hk (hL g off e h0), hL⟩
theorem BkP.tick (h : BkP w b tb mb T0 L ks val k) (t : Int) : BkP (w.setCell ⟨b, 1, Option.none⟩ (.int .i64 t)) b tb mb T0 L ks val { k with tick := t } := by
  have ha := alt_set w ⟨b, 1, Option.none⟩ (.int .i64 t) (S := fun j => j = b) rfl
  refine ⟨heap_setCell_same w b 1 _ _ _ h.blk, h.tab.alt ha fun j hj e => h.b0 (e ▸ hj), h.map.alt ha h.bm, fun s a hs => ?_, fun j hj => Nat.lt_of_lt_of_le (h.lowL j hj) ha.size, h.b0, h.m0, h.bm, h.bL, h.mL, h.tL⟩
  obtain ⟨A, m, c, e, hH, hL⟩ := h.rd s a hs
  exact ⟨A, m, c, e, hH.alt ha fun g off e h0 hk => h.bL (hk ▸ hL g off e h0), hL⟩
theorem BkP.store (h : BkP w b tb mb T0 L ks val k) {ks' : List (Int × Bool)} {s0 : Int} {q : Bool} {A : Option Addr} {m c : Nat} {hs : List Hd}
    (hM : MapV w' Try.prog 76 streamL mb ks' (fun s a => if s = s0 ∧ a = q then .slice A m c else val s a)) (hg : w.grownBy w' (some mb)) (hH : Hds w A m c hs) (hof : ∀ g off, A = some ⟨g, off, Option.none⟩ → 0 < m → ¬ inK b mb T0 L g) :
    BkP w' b tb mb T0 (fun j => L j ∨ ∃ off, A = some ⟨j, off, Option.none⟩ ∧ 0 < m) ks' (fun s a => if s = s0 ∧ a = q then .slice A m c else val s a) { k with look := fun s a => if s = s0 ∧ a = q then hs else k.look s a } := by
  have ha : Alt w w' (fun j => j = mb) := alt_grown hg fun j e => by injection e with e; exact e.symm
  have hlt : ∀ g off, A = some ⟨g, off, Option.none⟩ → 0 < m → g < w.heap.size := fun g off e h0 => by
    subst e
    exact hH.block h0
  refine ⟨(ha.block b h.lt fun e => h.bm e.symm).trans h.blk, h.tab.alt ha fun j hj e => h.m0 (e ▸ hj), hM, fun s a hsa => ?_, fun j hj => ?_, h.b0, h.m0, h.bm, fun hj => ?_, fun hj => ?_, fun j hj hL => ?_⟩
  · by_cases e : s = s0 ∧ a = q
    · rw [if_pos e]
      simp only [if_pos e]
      exact ⟨A, m, c, rfl, hH.alt ha fun g off e h0 hk => hof g off e h0 (.inr (.inr (.inl hk))), fun g off e h0 => .inr ⟨off, e, h0⟩⟩
    · rw [if_neg e]
      simp only [if_neg e]
      obtain ⟨B, n, d, e1, hH1, hL⟩ := h.rd s a hsa
      exact ⟨B, n, d, e1, hH1.alt ha fun g off e h0 hk => h.mL (hk ▸ hL g off e h0), fun g off e h0 => .inl (hL g off e h0)⟩
  · rcases hj with hj | ⟨off, e, h0⟩
    · exact Nat.lt_of_lt_of_le (h.lowL j hj) ha.size
    · exact Nat.lt_of_lt_of_le (hlt j off e h0) ha.size
  · rcases hj with hj | ⟨off, e, h0⟩
    · exact h.bL hj
    · exact hof b off e h0 (.inl rfl)
  · rcases hj with hj | ⟨off, e, h0⟩
    · exact h.mL hj
    · exact hof mb off e h0 (.inr (.inr (.inl rfl)))
  · rcases hL with hL | ⟨off, e, h0⟩
    · exact h.tL j hj hL
    · exact hof j off e h0 (.inr (.inl hj))
theorem PBk.low (h : PBk w b S k) : ∀ j, S j → j < w.heap.size := by
  obtain ⟨tb, mb, T0, L, ks, val, h, hS⟩ := h
  exact fun j hj => h.low j ((hS j).1 hj)
theorem PBk.alt (h : PBk w b S k) (ha : Alt w w' S') (hS' : ∀ j, S j → ¬ S' j) : PBk w' b S k := by
  obtain ⟨tb, mb, T0, L, ks, val, h, hS⟩ := h
  exact ⟨tb, mb, T0, L, ks, val, h.alt ha fun j hj => hS' j ((hS j).2 hj), hS⟩
end
end Go.Proofs.Ytodncamohimmmaa

namespace Go.Proofs.Ytodncamohimmmaa
open Go.RowKit Go.Lib Go.Maps Leb

set_option maxHeartbeats 8000000 in
set_option maxRecDepth 100000 in
theorem newE_any (w : World) : Calls Try.prog 14 #[] w fun e w' => ∃ b S, e = .returned (.pointer (some ⟨b, 0, Option.none⟩)) ∧ PBk w' b S newB ∧ (∀ k, S k → w.heap.size ≤ k) ∧ Below w.heap.size w w' := by
  have hnew := Lib.hid (newP_any (w := w))
  have hmk := fun W : World => run_makeMap (P := Try.prog) 64 W
  go_enter Try.func14, Try.ntmps14
  go_wp2_with (go_at_call 30; refine hnew.out.mono ?_; rintro e w1 ⟨tb, T0, rfl, hP, hlo, hb⟩; have hP' := Lib.hid hP; have hlo' := Lib.hid hlo; have hb' := Lib.hid hb; have hmm := hmk w1; clear hP hlo hb)
  go_ret
  have hM := mapV_made w1 Try.prog 76 streamL
  have hbm := below_box w1 (.map #[] 0)
  have hbb := below_box (w1.alloc (.map #[] 0)) (.cells #[.pointer (some ⟨tb, 0, Option.none⟩), .int .i64 0, .map (some w1.heap.size)] 66)
  have hlowT : ∀ j, T0 j → j < w1.heap.size := hP'.out.low
  have hsz : (w1.alloc (.map #[] 0)).heap.size = w1.heap.size + 1 := by simp
  have hblk := heap_alloc_new (w1.alloc (.map #[] 0)) (.cells #[.pointer (some ⟨tb, 0, Option.none⟩), .int .i64 0, .map (some w1.heap.size)] 66)
  rw [hsz] at hblk
  refine ⟨w1.heap.size + 1, _, rfl, ⟨tb, w1.heap.size, T0, fun _ => False, [], fun _ _ => nilS, ⟨hblk, (hP'.out.later hbm).later hbb, hM.alt (alt_below hbb fun _ => False) (fun h => h), fun s a _ => ⟨Option.none, 0, 0, rfl, hds_empty _ _ _ (Nat.zero_le _) (fun _ => rfl), fun g off e => by cases e⟩, fun _ h => h.elim, fun h => ?_, fun h => ?_, ?_, fun h => h, fun h => h, fun _ _ h => h⟩, fun _ => Iff.rfl⟩, fun j hj => ?_, below_then hb'.out (below_then hbm hbb)⟩
  · have := hlowT _ h
    omega
  · have := hlowT _ h
    omega
  · omega
  · have h1 := hb'.out.size
    rcases hj with rfl | hj | rfl | hj
    · omega
    · exact hlo'.out j hj
    · exact h1
    · exact hj.elim
end Go.Proofs.Ytodncamohimmmaa

namespace Go.Proofs.Ytodncamohimmmaa
open Go.RowKit Go.Lib Go.Maps Leb

structure WR (w1 : World) (b tb mb : Nat) (T0 L : Nat → Prop) (ks : List (Int × Bool)) (val : Int → Bool → Value) (k : Bk) (g h lb : Nat) (x : Ev) (A : Option Addr) (m c : Nat) (d : Int) (Aw : Option Addr) (nw cw : Nat) (T : List (List UInt8)) (Y : List Int) (oc out : Value) (W : World) : Prop where
  ex : ∃ T1, BkP W b tb mb T1 L ks val { k with tab := T } ∧ (∀ j, T1 j → T0 j ∨ w1.heap.size ≤ j) ∧ OffV T1 out ∧ ¬ T1 g ∧ ¬ T1 h ∧ ¬ T1 lb
  alt : Alt w1 W T0
  own : Owns W w1.heap.size 5 out Y
  away : ∀ q, out.ownBlock = some q → q ≠ g ∧ q ≠ h ∧ q ≠ lb
  bh : W.heap[h]? = some (.cells #[oc, .pointer (some ⟨tb, 0, Option.none⟩), .slice Aw nw cw] 79 (0, 0))
  bg : W.heap[g]? = some (.cells (ecell12 x A m c) 25 (0, 0))
  bl : W.heap[lb]? = some (.cells #[.int .i64 d] 3 (0, 0))
  gw : w1.heap.size ≤ g
  hw : w1.heap.size ≤ h
  lw : w1.heap.size ≤ lb
  gh : g ≠ h
  lh : lb ≠ h
  old : b < w1.heap.size ∧ mb < w1.heap.size ∧ ∀ j, L j → j < w1.heap.size
section
variable {w1 W W' : World} {b tb mb : Nat} {T0 T1 T2 L : Nat → Prop} {ks : List (Int × Bool)} {val : Int → Bool → Value} {k : Bk} {g h lb : Nat} {x : Ev} {A : Option Addr} {m c : Nat} {d : Int} {Aw : Option Addr} {nw cw : Nat} {T T' : List (List UInt8)} {Y Y' : List Int} {oc out out' : Value}
theorem WR.size (H : WR w1 b tb mb T0 L ks val k g h lb x A m c d Aw nw cw T Y oc out W) : w1.heap.size ≤ W.heap.size := H.alt.size
theorem WR.none (H : WR w1 b tb mb T0 L ks val k g h lb x A m c d Aw nw cw T Y oc out W) : Below ({ w1 with heap := #[] } : World).heap.size { w1 with heap := #[] } W := ⟨H.alt.os, H.alt.tape, H.alt.output, Nat.zero_le _, fun k hk => absurd hk (by simp)⟩
theorem WR.lt (H : WR w1 b tb mb T0 L ks val k g h lb x A m c d Aw nw cw T Y oc out W) : g < W.heap.size ∧ h < W.heap.size ∧ lb < W.heap.size := ⟨(Array.getElem?_eq_some_iff.1 H.bg).1, (Array.getElem?_eq_some_iff.1 H.bh).1, (Array.getElem?_eq_some_iff.1 H.bl).1⟩
theorem WR.later (H : WR w1 b tb mb T0 L ks val k g h lb x A m c d Aw nw cw T Y oc out W) (hb : Below W.heap.size W W') : WR w1 b tb mb T0 L ks val k g h lb x A m c d Aw nw cw T Y oc out W' := by
  obtain ⟨T1, hB, hn, ho, h1, h2, h3⟩ := H.ex
  obtain ⟨l1, l2, l3⟩ := H.lt
  exact ⟨⟨T1, hB.later hb, hn, ho, h1, h2, h3⟩, H.alt.behind hb, H.own.kept hb (Nat.le_refl _), H.away, (hb.block _ l2).trans H.bh, (hb.block _ l1).trans H.bg, (hb.block _ l3).trans H.bl, H.gw, H.hw, H.lw, H.gh, H.lh, H.old⟩
theorem WR.app (H : WR w1 b tb mb T0 L ks val k g h lb x A m c d Aw nw cw T Y oc out W) (hown : Owns W' w1.heap.size 5 out' Y') (hg : W.grownBy W' out.ownBlock) (hat : out'.ownBlock = out.ownBlock ∨ out'.ownBlock = some W.heap.size) :
    WR w1 b tb mb T0 L ks val k g h lb x A m c d Aw nw cw T Y' oc out' W' := by
  obtain ⟨T1, hB, hn, ho, h1, h2, h3⟩ := H.ex
  obtain ⟨l1, l2, l3⟩ := H.lt
  obtain ⟨o1, o2, o3⟩ := H.old
  have ha : Alt W W' (fun k => out.ownBlock = some k) := alt_grown hg fun _ hk => hk
  have hlt : ∀ q, out.ownBlock = some q → w1.heap.size ≤ q := fun q e => (H.own.2.lt q e).1
  refine ⟨⟨T1, hB.alt ha fun j hj e => ?_, hn, fun q e hq => ?_, h1, h2, h3⟩, H.alt.trans ha fun j hj e => absurd (hlt j e) (by omega), hown, fun q e => ?_, (ha.block _ l2 fun e => (H.away _ e).2.1 rfl).trans H.bh, (ha.block _ l1 fun e => (H.away _ e).1 rfl).trans H.bg, (ha.block _ l3 fun e => (H.away _ e).2.2 rfl).trans H.bl, H.gw, H.hw, H.lw, H.gh, H.lh, H.old⟩
  · have h9 := hlt j e
    rcases hj with rfl | hj | rfl | hj
    · omega
    · exact ho j e hj
    · omega
    · have := o3 j hj
      omega
  · rcases hat with hat | hat
    · exact ho q (by rw [← hat, e]) hq
    · rw [hat] at e
      injection e with e
      have := hB.tab.low q hq
      omega
  · rcases hat with hat | hat
    · exact H.away q (by rw [← hat, e])
    · rw [hat] at e
      injection e with e
      omega
theorem WR.turn (H : WR w1 b tb mb T0 L ks val k g h lb x A m c d Aw nw cw T Y oc out W) {T1 : Nat → Prop} (hB : BkP W b tb mb T1 L ks val { k with tab := T }) (hn : ∀ j, T1 j → T0 j ∨ w1.heap.size ≤ j) (ho : OffV T1 out) (h1 : ¬ T1 g) (h2 : ¬ T1 h) (h3 : ¬ T1 lb) (hs : PStep W W' tb T1 T2 T') :
    WR w1 b tb mb T0 L ks val k g h lb x A m c d Aw nw cw T' Y oc out W' := by
  obtain ⟨l1, l2, l3⟩ := H.lt
  have hsz := H.size
  have hof : ∀ j, j < W.heap.size → ¬ T1 j → ¬ T2 j := fun j hj hk h9 => (hs.new j h9).elim hk fun h8 => by omega
  exact ⟨⟨T2, hB.turn hs, fun j hj => (hs.new j hj).elim (hn j) fun h8 => .inr (Nat.le_trans hsz h8), fun q e => hof q (H.own.2.lt q e).2 (ho q e), hof g l1 h1, hof h l2 h2, hof lb l3 h3⟩, H.alt.trans hs.alt fun j hj hk => (hn j hk).resolve_right (by omega), H.own.alt hs.alt ho, H.away, (hs.alt.block _ l2 h2).trans H.bh, (hs.alt.block _ l1 h1).trans H.bg, (hs.alt.block _ l3 h3).trans H.bl, H.gw, H.hw, H.lw, H.gh, H.lh, H.old⟩
theorem WR.store (H : WR w1 b tb mb T0 L ks val k g h lb x A m c d Aw nw cw T Y oc out W) : WR w1 b tb mb T0 L ks val k g h lb x A m c d Aw nw cw T Y out out (W.setCell ⟨h, 0, Option.none⟩ out) := by
  obtain ⟨T1, hB, hn, ho, h1, h2, h3⟩ := H.ex
  obtain ⟨l1, l2, l3⟩ := H.lt
  obtain ⟨o1, o2, o3⟩ := H.old
  have hh := H.hw
  have ha := alt_set W ⟨h, 0, Option.none⟩ out (S := fun j => j = h) rfl
  refine ⟨⟨T1, hB.alt ha fun j hj e => ?_, hn, ho, h1, h2, h3⟩, H.alt.trans ha fun j hj e => by omega, H.own.alt ha fun q e hq => (H.away q e).2.1 hq, H.away, heap_setCell_same W h 0 _ _ _ H.bh, (ha.block _ l1 H.gh).trans H.bg, (ha.block _ l3 H.lh).trans H.bl, H.gw, H.hw, H.lw, H.gh, H.lh, H.old⟩
  subst e
  rcases hj with rfl | hj | rfl | hj
  · omega
  · exact h2 hj
  · omega
  · have := o3 _ hj
    omega
theorem WR.cells (H : WR w1 b tb mb T0 L ks val k g h lb x A m c d Aw nw cw T Y oc out W) : W.cell? ⟨h, 0, Option.none⟩ = some oc ∧ W.cell? ⟨h, 1, Option.none⟩ = some (.pointer (some ⟨tb, 0, Option.none⟩)) ∧ W.cell? ⟨h, 2, Option.none⟩ = some (.slice Aw nw cw) := by
  refine ⟨?_, ?_, ?_⟩ <;> (rw [cell_of_row W h _ _ _ _ H.bh]; rfl)
theorem WR.ev (H : WR w1 b tb mb T0 L ks val k g h lb x A m c d Aw nw cw T Y oc out W) : EvAt W g x A m c := EvAt.row H.bg
end
def WK (S0 : World → Prop) (S1 S2 : Value → World → Prop) (j : Nat) (v : Value) (W : World) : Prop := match j with | 0 => S0 W | 1 => S1 v W | _ => S2 v W
theorem iqf_wk {S0 : World → Prop} {S1 S2 : Value → World → Prop} {P : World → Prop} {E1 E2 : Value → World → Prop} {ov : Value} {i1 s1 j1 t1 i2 s2 j2 t2 : Nat} {D : Nat → Prop} {a : Act} {W : World} (hI : IQF (WK S0 S1 S2) E1 E2 ov i1 s1 j1 t1 i2 s2 j2 t2 D a W) (h0 : ∀ W, S0 W → P W) (h1 : ∀ v W, S1 v W → P W) (h2 : ∀ v W, S2 v W → P W) : P W := by
  obtain ⟨k, v, hk⟩ := hI.get
  match k, hk with
  | 0, hk => exact h0 _ hk
  | 1, hk => exact h1 _ _ hk
  | n + 2, hk => exact h2 _ _ hk
set_option maxRecDepth 100000 in
theorem run_fieldW0 (w : World) (h : Nat) : (Instr.fieldAt 79 (.pointer (some ⟨h, 0, Option.none⟩)) 0).run Try.prog w = .ok (.pointer (some ⟨h, 0, Option.none⟩)) w := by go_simp
set_option maxRecDepth 100000 in
theorem run_fieldW1 (w : World) (h : Nat) : (Instr.fieldAt 79 (.pointer (some ⟨h, 0, Option.none⟩)) 1).run Try.prog w = .ok (.pointer (some ⟨h, 1, Option.none⟩)) w := by go_simp
set_option maxRecDepth 100000 in
theorem run_fieldW2 (w : World) (h : Nat) : (Instr.fieldAt 79 (.pointer (some ⟨h, 0, Option.none⟩)) 2).run Try.prog w = .ok (.pointer (some ⟨h, 2, Option.none⟩)) w := by go_simp
set_option maxRecDepth 100000 in
theorem run_loadWB (w : World) (p : Addr) (v : Value) (hc : w.cell? p = some v) : (Instr.loadAt 43 (.pointer (some p))).run Try.prog w = .ok v w := by go_simp
set_option maxRecDepth 100000 in
theorem run_loadWT (w : World) (p : Addr) (v : Value) (hc : w.cell? p = some v) : (Instr.loadAt 62 (.pointer (some p))).run Try.prog w = .ok v w := by go_simp
set_option maxRecDepth 100000 in
theorem run_loadWH (w : World) (p : Addr) (v : Value) (hc : w.cell? p = some v) : (Instr.loadAt 22 (.pointer (some p))).run Try.prog w = .ok v w := by go_simp
set_option maxRecDepth 100000 in
theorem run_loadWU (w : World) (p : Addr) (v : Value) (hc : w.cell? p = some v) : (Instr.loadAt 23 (.pointer (some p))).run Try.prog w = .ok v w := by go_simp
set_option maxRecDepth 100000 in
theorem run_loadWS (w : World) (p : Addr) (v : Value) (hc : w.cell? p = some v) : (Instr.loadAt 9 (.pointer (some p))).run Try.prog w = .ok v w := by go_simp
set_option maxRecDepth 100000 in
theorem run_storeW (w : World) (p : Addr) (A : Option Addr) (n c : Nat) (u : Value) (hc : w.cell? p = some u) (hf : w.frozen? p = false) : (Instr.storeAt 43 (.pointer (some p)) (.slice A n c)).run Try.prog w = .ok () (w.setCell p (.slice A n c)) := by go_simp
theorem enters_lebput (vs : Array Value) (w : World) : (callFunc 57 vs).run Try.prog w = .ok (.enter 57 vs) w := by kernel_rfl
theorem enters_tabput (vs : Array Value) (w : World) : (callFunc 82 vs).run Try.prog w = .ok (.enter 82 vs) w := by kernel_rfl
theorem enters_delput (vs : Array Value) (w : World) : (callFunc 81 vs).run Try.prog w = .ok (.enter 81 vs) w := by kernel_rfl
def wn9 (hp q i : Nat) (ov : Value) (n : Nat) (j : Nat) (v : Value) (_ : World) : Prop :=
  match j with
  | 0 => v = .pointer (some ⟨hp, 0, Option.none⟩)
  | 1 => v = .pointer (some ⟨hp, 0, Option.none⟩)
  | 2 => v = .pointer (some ⟨hp, 0, Option.none⟩)
  | 3 => v = .pointer (some ⟨hp, 0, Option.none⟩)
  | 4 => v = ov
  | 5 => v = .pointer (some ⟨q, i, Option.none⟩)
  | 6 => v = .pointer (some ⟨q, i, Option.none⟩)
  | 7 => v = .int .u64 n
  | 8 => True
  | 9 => True
  | _ => True
theorem wn9_any {hp q i : Nat} {ov : Value} {n : Nat} {j : Nat} {v : Value} {w w' : World} (h : wn9 hp q i ov n j v w) : wn9 hp q i ov n j v w' := by
  unfold wn9 at h ⊢
  split at h
  all_goals exact h
set_option maxHeartbeats 32000000 in
set_option maxRecDepth 100000 in
theorem wnumber_any (w1 : World) (b tb mb : Nat) (T0 L : Nat → Prop) (ks : List (Int × Bool)) (val : Int → Bool → Value) (k : Bk) (g h lb : Nat) (x : Ev) (A : Option Addr) (m c : Nat) (d : Int) (Aw : Option Addr) (nw cw : Nat) (T : List (List UInt8)) (Y : List Int) (ov : Value) (q i : Nat) (n : Nat) (W : World) (hW : WR w1 b tb mb T0 L ks val k g h lb x A m c d Aw nw cw T Y ov ov W) (hc : W.cell? ⟨q, i, Option.none⟩ = some (.int .u64 n)) (hn : U64 n) (hY : Y.length ≤ 2000000000) :
    Calls Try.prog 51 #[.pointer (some ⟨h, 0, Option.none⟩), .pointer (some ⟨q, i, Option.none⟩)] W fun e W' => e = .returned (.tuple #[]) ∧ ∃ out, WR w1 b tb mb T0 L ks val k g h lb x A m c d Aw nw cw T (Y ++ enc n) out out W' := by
  obtain ⟨i0, hi8, hz0, hz1, hz2⟩ := info_parts Try.info8
  replace hW := Lib.hid (And.intro hW hc)
  clear hc
  go_enter Try.func51, Try.ntmps51
  go_wp2
  refine wp_region_tail 10 4 (by decide) (by kernel_rfl) (RInv 16 [4, 5, 6, 7, 8, 9, 10, 11, 12, 13] _ (wn9 h q i ov n) { w1 with heap := #[] } (IQF (WK (fun W => WR w1 b tb mb T0 L ks val k g h lb x A m c d Aw nw cw T Y ov ov W ∧ W.cell? ⟨q, i, Option.none⟩ = some (.int .u64 n)) (fun v W => WR w1 b tb mb T0 L ks val k g h lb x A m c d Aw nw cw T Y ov ov W ∧ ReadsB (enc n) v W) (fun v W => WR w1 b tb mb T0 L ks val k g h lb x A m c d Aw nw cw T (Y ++ enc n) ov v W)) (fun _ _ => True) (fun _ _ => True) ov 8 12 98 998 9 13 99 999)) (by kernel_rfl) (by kernel_rfl) (RInv.start rfl (IQF.start ⟨hW.out.1.later (Below.refl _ _).drew, hW.out.2⟩) (hW.out.1.later (Below.refl _ _).drew).none) ?_ ?_
  · intro i hi D a wy hI hcl hnd hpre
    have hi' : i < 10 := hi
    have hcase : i = 0 ∨ i = 1 ∨ i = 2 ∨ i = 3 ∨ i = 4 ∨ i = 5 ∨ i = 6 ∨ i = 7 ∨ i = 8 ∨ i = 9 := by omega
    have hF := hI.fact
    rcases hcase with rfl | rfl | rfl | rfl | rfl | rfl | rfl | rfl | rfl | rfl
    · exact wpOp_move rfl (wanted_free rfl) _ rfl _ (hI.same 0 (by decide)) (hI.put (by decide) (by decide) (fun j _ _ h => wn9_any h) rfl (hI.more.pure _ (by decide) (by decide)) (hI.below))
    · exact wpOp_move rfl (wanted_free rfl) _ rfl _ (hI.same 0 (by decide)) (hI.put (by decide) (by decide) (fun j _ _ h => wn9_any h) rfl (hI.more.pure _ (by decide) (by decide)) (hI.below))
    · exact wpOp_nil9 rfl (wanted_free rfl) _ rfl _ (hF 1 (hpre 1 (by kernel_rfl))) (hI.put (by decide) (by decide) (fun j _ _ h => wn9_any h) rfl (hI.more.pure _ (by decide) (by decide)) (hI.below))
    · exact wpOp_field rfl (wanted_free rfl) _ _ _ rfl _ _ (hF 2 (hpre 2 (by kernel_rfl))) (run_fieldW0 wy h) (hI.put (by decide) (by decide) (fun j _ _ h => wn9_any h) rfl (hI.more.pure _ (by decide) (by decide)) (hI.below))
    · exact wpOp_load rfl (wanted_free rfl) _ _ rfl _ _ (hF 3 (hpre 3 (by kernel_rfl))) (run_loadWB wy _ _ (iqf_wk hI.more (P := fun W => W.cell? ⟨h, 0, Option.none⟩ = some ov ∧ W.cell? ⟨h, 1, Option.none⟩ = some (.pointer (some ⟨tb, 0, Option.none⟩)) ∧ W.cell? ⟨h, 2, Option.none⟩ = some (.slice Aw nw cw)) (fun _ h => h.1.cells) (fun _ _ h => h.1.cells) (fun _ _ h => h.cells)).1) (hI.put (by decide) (by decide) (fun j _ _ h => wn9_any h) rfl (hI.more.pure _ (by decide) (by decide)) (hI.below))
    · exact wpOp_move rfl (wanted_free rfl) _ rfl _ (hI.same 1 (by decide)) (hI.put (by decide) (by decide) (fun j _ _ h => wn9_any h) rfl (hI.more.pure _ (by decide) (by decide)) (hI.below))
    · exact wpOp_nil9 rfl (wanted_free rfl) _ rfl _ (hF 5 (hpre 5 (by kernel_rfl))) (hI.put (by decide) (by decide) (fun j _ _ h => wn9_any h) rfl (hI.more.pure _ (by decide) (by decide)) (hI.below))
    · exact wpOp_load rfl (wanted_free rfl) _ _ rfl _ _ (hF 6 (hpre 6 (by kernel_rfl))) (run_loadWU wy _ _ (hI.more.n1 (fun h9 => hnd (hcl _ h9 7 (by kernel_rfl))) (fun h9 => hnd (hcl _ (hcl _ h9 8 (by kernel_rfl)) 7 (by kernel_rfl)))).2) (hI.put (by decide) (by decide) (fun j _ _ h => wn9_any h) rfl (hI.more.pure _ (by decide) (by decide)) (hI.below))
    · have hK0 := hI.more.n1 hnd (fun h9 => hnd (hcl _ h9 8 (by kernel_rfl)))
      replace hK0 : WR w1 b tb mb T0 L ks val k g h lb x A m c d Aw nw cw T Y ov ov wy ∧ _ := hK0
      have hcall := put_any Option.none 0 0 [] n wy hn (holds_nil wy) (by omega)
      exact wpOp_call2 rfl (wanted_free rfl) 57 _ _ _ rfl _ _ (rfl) (hF 7 (hpre 7 (by kernel_rfl))) (enters_lebput _ _) hcall (fun e w' hq => by
        obtain ⟨r, rfl, hown, hb⟩ := hq
        rw [List.nil_append] at hown
        have hK1 := hK0.1.later hb
        have hR := hown.reads
        exact ⟨_, rfl, (hI.put (by decide) (by decide) (fun j _ _ h => wn9_any h) trivial (IQF.first ⟨hK1, hR⟩ (fun h9 => hnd (hcl _ h9 8 (by kernel_rfl))) (fun h9 => absurd (hI.few 99 h9) (by decide)) (by rw [hI.size]; decide) (by decide) (by decide)) (hK1.none))⟩)
    · obtain ⟨hK1, A3, c3, e3, hH3⟩ := hI.more.d1 (hpre 8 (by kernel_rfl)) hnd
      obtain ⟨v9, w9, hrun, hO9, hg9, hm9⟩ := run_append_bytes (P := Try.prog) w1.heap.size 43 43 5 i0 Try.underlying43 hi8 hz0 hz1 hz2 hK1.own hH3 (by have := size_le10 hn; have : (enc n).length = size n := rfl; omega) hK1.size
      have hK2 := hK1.app hO9 hg9 hm9
      exact wpOp_appendL rfl (wanted_free rfl) _ _ _ rfl _ _ _ (hF 4 (hpre 4 (by kernel_rfl))) e3 hrun (hI.put (by decide) (by decide) (fun j _ _ h => wn9_any h) trivial (IQF.second hK2 (hpre 8 (by kernel_rfl)) (by rw [hI.size]; decide)) (hK2.none))
  · intro D a w5 hI hall
    have hS := hI.more.d2 (hall 9 (by decide))
    have e4 : a.eval (.tmp 4) = _ := hI.fact 0 (hall 0 (by decide))
    have hsz := hI.size
    have hdf := hI.defs
    clear hI hall
    replace hS : WR w1 b tb mb T0 L ks val k g h lb x A m c d Aw nw cw T (Y ++ enc n) ov (a.eval (.tmp 13)) w5 := hS
    have hs9 := Lib.hid hS.store
    obtain ⟨A9, c9, e9, q9⟩ := hS.own.holds
    clear q9
    generalize (Y ++ enc n).length = ln at e9
    have hc9 := hS.cells.1
    have hf9 := frozen_of_row w5 h 0 _ _ hS.bh
    obtain ⟨v9, hv9⟩ : ∃ v9, v9 = a.eval (.tmp 13) := ⟨_, rfl⟩
    rw [← hv9] at hs9 e9
    show wpOps _ _ _ [10, 11, 12] a w5
    rw [wpOps_cons]
    refine wpOp_nil9 rfl (wanted_free rfl) _ rfl _ e4 ?_
    show wpOps _ _ _ _ (a.put (some 14) _) w5
    rw [wpOps_cons]
    refine wpOp_field rfl (wanted_free rfl) _ _ _ rfl _ _ (eval_put_same _ _ _ (by rw [hsz]; decide)) (run_fieldW0 w5 h) ?_
    show wpOps _ _ _ _ ((a.put (some 14) _).put (some 15) _) w5
    rw [wpOps_cons]
    subst e9
    refine wpOp_store rfl (wanted_free rfl) _ _ _ rfl _ _ (eval_put_same _ _ _ (by rw [size_put, hsz]; decide)) (by rw [eval_put_other _ _ (by decide), eval_put_other _ _ (by decide)]; exact hv9.symm) (run_storeW w5 _ _ _ _ _ hc9 hf9) ?_
    show wpOps _ _ _ [] (((a.put (some 14) (.pointer (some ⟨h, 0, Option.none⟩))).put (some 15) (.pointer (some ⟨h, 0, Option.none⟩))).put Option.none undef) _
    rw [wpOps]
    obtain ⟨a9, ha9⟩ : ∃ a9, a9 = (((a.put (some 14) (.pointer (some ⟨h, 0, Option.none⟩))).put (some 15) (.pointer (some ⟨h, 0, Option.none⟩))).put Option.none undef) := ⟨_, rfl⟩
    have hd9 : a9.defers = [] := by rw [ha9, defers_put, defers_put, defers_put, hdf]
    clear hv9
    rw [← ha9]
    go_wp2
    exact bodyPost_end (results_none rfl _ _ _) (by first | exact hd9 | rfl) ⟨rfl, _, hs9.out⟩
def wt9 (hp q i tb : Nat) (ov : Value) (p : ByteArray) (j : Nat) (v : Value) (_ : World) : Prop :=
  match j with
  | 0 => v = .pointer (some ⟨hp, 0, Option.none⟩)
  | 1 => v = .pointer (some ⟨hp, 0, Option.none⟩)
  | 2 => v = .pointer (some ⟨hp, 0, Option.none⟩)
  | 3 => v = .pointer (some ⟨hp, 0, Option.none⟩)
  | 4 => v = ov
  | 5 => v = .pointer (some ⟨hp, 0, Option.none⟩)
  | 6 => v = .pointer (some ⟨hp, 0, Option.none⟩)
  | 7 => v = .pointer (some ⟨hp, 1, Option.none⟩)
  | 8 => v = .pointer (some ⟨tb, 0, Option.none⟩)
  | 9 => v = .pointer (some ⟨q, i, Option.none⟩)
  | 10 => v = .pointer (some ⟨q, i, Option.none⟩)
  | 11 => v = .string p
  | 12 => True
  | 13 => True
  | _ => True
theorem wt9_any {hp q i tb : Nat} {ov : Value} {p : ByteArray} {j : Nat} {v : Value} {w w' : World} (h : wt9 hp q i tb ov p j v w) : wt9 hp q i tb ov p j v w' := by
  unfold wt9 at h ⊢
  split at h
  all_goals exact h
set_option maxHeartbeats 32000000 in
set_option maxRecDepth 100000 in
theorem wtext_any (w1 : World) (b tb mb : Nat) (T0 L : Nat → Prop) (ks : List (Int × Bool)) (val : Int → Bool → Value) (k : Bk) (g h lb : Nat) (x : Ev) (A : Option Addr) (m c : Nat) (d : Int) (Aw : Option Addr) (nw cw : Nat) (T : List (List UInt8)) (Y : List Int) (ov : Value) (q i : Nat) (p : ByteArray) (W : World) (hW : WR w1 b tb mb T0 L ks val k g h lb x A m c d Aw nw cw T Y ov ov W) (hc : W.cell? ⟨q, i, Option.none⟩ = some (.string p)) (hT : T.length ≤ 300000) (hps : p.data.size ≤ 4000) (hZ : (putB T p.data.toList).length ≤ 10000) (hY : Y.length ≤ 2000000000) :
    Calls Try.prog 80 #[.pointer (some ⟨h, 0, Option.none⟩), .pointer (some ⟨q, i, Option.none⟩)] W fun e W' => e = .returned (.tuple #[]) ∧ ∃ out, WR w1 b tb mb T0 L ks val k g h lb x A m c d Aw nw cw (putL T p.data.toList) (Y ++ putB T p.data.toList) out out W' := by
  obtain ⟨i0, hi8, hz0, hz1, hz2⟩ := info_parts Try.info8
  replace hT := Lib.hid hT
  replace hps := Lib.hid hps
  replace hZ := Lib.hid hZ
  replace hY := Lib.hid hY
  replace hW := Lib.hid (And.intro hW hc)
  clear hc
  go_enter Try.func80, Try.ntmps80
  go_wp2
  refine wp_region_tail 14 4 (by decide) (by kernel_rfl) (RInv 20 [4, 5, 6, 7, 8, 9, 10, 11, 12, 13, 14, 15, 16, 17] _ (wt9 h q i tb ov p) { w1 with heap := #[] } (IQF (WK (fun W => WR w1 b tb mb T0 L ks val k g h lb x A m c d Aw nw cw T Y ov ov W ∧ W.cell? ⟨q, i, Option.none⟩ = some (.string p)) (fun v W => WR w1 b tb mb T0 L ks val k g h lb x A m c d Aw nw cw (putL T p.data.toList) Y ov ov W ∧ ReadsB (putB T p.data.toList) v W) (fun v W => WR w1 b tb mb T0 L ks val k g h lb x A m c d Aw nw cw (putL T p.data.toList) (Y ++ putB T p.data.toList) ov v W)) (fun _ _ => True) (fun _ _ => True) ov 12 16 98 998 13 17 99 999)) (by kernel_rfl) (by kernel_rfl) (RInv.start rfl (IQF.start ⟨hW.out.1.later (Below.refl _ _).drew, hW.out.2⟩) (hW.out.1.later (Below.refl _ _).drew).none) ?_ ?_
  · intro i hi D a wy hI hcl hnd hpre
    have hi' : i < 14 := hi
    have hcase : i = 0 ∨ i = 1 ∨ i = 2 ∨ i = 3 ∨ i = 4 ∨ i = 5 ∨ i = 6 ∨ i = 7 ∨ i = 8 ∨ i = 9 ∨ i = 10 ∨ i = 11 ∨ i = 12 ∨ i = 13 := by omega
    have hF := hI.fact
    rcases hcase with rfl | rfl | rfl | rfl | rfl | rfl | rfl | rfl | rfl | rfl | rfl | rfl | rfl | rfl
    · exact wpOp_move rfl (wanted_free rfl) _ rfl _ (hI.same 0 (by decide)) (hI.put (by decide) (by decide) (fun j _ _ h => wt9_any h) rfl (hI.more.pure _ (by decide) (by decide)) (hI.below))
    · exact wpOp_move rfl (wanted_free rfl) _ rfl _ (hI.same 0 (by decide)) (hI.put (by decide) (by decide) (fun j _ _ h => wt9_any h) rfl (hI.more.pure _ (by decide) (by decide)) (hI.below))
    · exact wpOp_nil9 rfl (wanted_free rfl) _ rfl _ (hF 1 (hpre 1 (by kernel_rfl))) (hI.put (by decide) (by decide) (fun j _ _ h => wt9_any h) rfl (hI.more.pure _ (by decide) (by decide)) (hI.below))
    · exact wpOp_field rfl (wanted_free rfl) _ _ _ rfl _ _ (hF 2 (hpre 2 (by kernel_rfl))) (run_fieldW0 wy h) (hI.put (by decide) (by decide) (fun j _ _ h => wt9_any h) rfl (hI.more.pure _ (by decide) (by decide)) (hI.below))
    · exact wpOp_load rfl (wanted_free rfl) _ _ rfl _ _ (hF 3 (hpre 3 (by kernel_rfl))) (run_loadWB wy _ _ (iqf_wk hI.more (P := fun W => W.cell? ⟨h, 0, Option.none⟩ = some ov ∧ W.cell? ⟨h, 1, Option.none⟩ = some (.pointer (some ⟨tb, 0, Option.none⟩)) ∧ W.cell? ⟨h, 2, Option.none⟩ = some (.slice Aw nw cw)) (fun _ h => h.1.cells) (fun _ _ h => h.1.cells) (fun _ _ h => h.cells)).1) (hI.put (by decide) (by decide) (fun j _ _ h => wt9_any h) rfl (hI.more.pure _ (by decide) (by decide)) (hI.below))
    · exact wpOp_move rfl (wanted_free rfl) _ rfl _ (hI.same 0 (by decide)) (hI.put (by decide) (by decide) (fun j _ _ h => wt9_any h) rfl (hI.more.pure _ (by decide) (by decide)) (hI.below))
    · exact wpOp_nil9 rfl (wanted_free rfl) _ rfl _ (hF 5 (hpre 5 (by kernel_rfl))) (hI.put (by decide) (by decide) (fun j _ _ h => wt9_any h) rfl (hI.more.pure _ (by decide) (by decide)) (hI.below))
    · exact wpOp_field rfl (wanted_free rfl) _ _ _ rfl _ _ (hF 6 (hpre 6 (by kernel_rfl))) (run_fieldW1 wy h) (hI.put (by decide) (by decide) (fun j _ _ h => wt9_any h) rfl (hI.more.pure _ (by decide) (by decide)) (hI.below))
    · exact wpOp_load rfl (wanted_free rfl) _ _ rfl _ _ (hF 7 (hpre 7 (by kernel_rfl))) (run_loadWT wy _ _ (iqf_wk hI.more (P := fun W => W.cell? ⟨h, 0, Option.none⟩ = some ov ∧ W.cell? ⟨h, 1, Option.none⟩ = some (.pointer (some ⟨tb, 0, Option.none⟩)) ∧ W.cell? ⟨h, 2, Option.none⟩ = some (.slice Aw nw cw)) (fun _ h => h.1.cells) (fun _ _ h => h.1.cells) (fun _ _ h => h.cells)).2.1) (hI.put (by decide) (by decide) (fun j _ _ h => wt9_any h) rfl (hI.more.pure _ (by decide) (by decide)) (hI.below))
    · exact wpOp_move rfl (wanted_free rfl) _ rfl _ (hI.same 1 (by decide)) (hI.put (by decide) (by decide) (fun j _ _ h => wt9_any h) rfl (hI.more.pure _ (by decide) (by decide)) (hI.below))
    · exact wpOp_nil9 rfl (wanted_free rfl) _ rfl _ (hF 9 (hpre 9 (by kernel_rfl))) (hI.put (by decide) (by decide) (fun j _ _ h => wt9_any h) rfl (hI.more.pure _ (by decide) (by decide)) (hI.below))
    · exact wpOp_load rfl (wanted_free rfl) _ _ rfl _ _ (hF 10 (hpre 10 (by kernel_rfl))) (run_loadWS wy _ _ (hI.more.n1 (fun h9 => hnd (hcl _ h9 11 (by kernel_rfl))) (fun h9 => hnd (hcl _ (hcl _ h9 12 (by kernel_rfl)) 11 (by kernel_rfl)))).2) (hI.put (by decide) (by decide) (fun j _ _ h => wt9_any h) rfl (hI.more.pure _ (by decide) (by decide)) (hI.below))
    · have hK0 := hI.more.n1 hnd (fun h9 => hnd (hcl _ h9 12 (by kernel_rfl)))
      replace hK0 : WR w1 b tb mb T0 L ks val k g h lb x A m c d Aw nw cw T Y ov ov wy ∧ _ := hK0
      obtain ⟨T1, hB, hn1, ho, h1, h2, h3⟩ := hK0.1.ex
      have hcall := putP_any tb T T1 Option.none 0 0 [] p.data.toList wy hB.tab (by have := hT.out; omega) (holds_nil wy) (fun _ _ e => by cases e) (by have := hps.out; simp only [Array.length_toList]; omega)
      rw [mk_of] at hcall
      exact wpOp_call3t rfl (wanted_free rfl) 82 _ _ _ _ rfl _ _ _ (hF 8 (hpre 8 (by kernel_rfl))) (rfl) (hF 11 (hpre 11 (by kernel_rfl))) (enters_tabput _ _) hcall (fun e w' hq => by
        obtain ⟨r, T2, rfl, hown, hof, hs⟩ := hq
        rw [List.nil_append] at hown
        have hK1 := hK0.1.turn hB hn1 ho h1 h2 h3 hs
        have hR := hown.reads
        exact ⟨_, rfl, (hI.put (by decide) (by decide) (fun j _ _ h => wt9_any h) trivial (IQF.first ⟨hK1, hR⟩ (fun h9 => hnd (hcl _ h9 12 (by kernel_rfl))) (fun h9 => absurd (hI.few 99 h9) (by decide)) (by rw [hI.size]; decide) (by decide) (by decide)) (hK1.none))⟩)
    · obtain ⟨hK1, A3, c3, e3, hH3⟩ := hI.more.d1 (hpre 12 (by kernel_rfl)) hnd
      obtain ⟨v9, w9, hrun, hO9, hg9, hm9⟩ := run_append_bytes (P := Try.prog) w1.heap.size 43 43 5 i0 Try.underlying43 hi8 hz0 hz1 hz2 hK1.own hH3 (by have := hZ.out; have := hY.out; omega) hK1.size
      have hK2 := hK1.app hO9 hg9 hm9
      exact wpOp_appendL rfl (wanted_free rfl) _ _ _ rfl _ _ _ (hF 4 (hpre 4 (by kernel_rfl))) e3 hrun (hI.put (by decide) (by decide) (fun j _ _ h => wt9_any h) trivial (IQF.second hK2 (hpre 12 (by kernel_rfl)) (by rw [hI.size]; decide)) (hK2.none))
  · intro D a w5 hI hall
    have hS := hI.more.d2 (hall 13 (by decide))
    have e4 : a.eval (.tmp 4) = _ := hI.fact 0 (hall 0 (by decide))
    have hsz := hI.size
    have hdf := hI.defs
    clear hI hall
    replace hS : WR w1 b tb mb T0 L ks val k g h lb x A m c d Aw nw cw (putL T p.data.toList) (Y ++ putB T p.data.toList) ov (a.eval (.tmp 17)) w5 := hS
    have hs9 := Lib.hid hS.store
    obtain ⟨A9, c9, e9, q9⟩ := hS.own.holds
    clear q9
    generalize (Y ++ putB T p.data.toList).length = ln at e9
    have hc9 := hS.cells.1
    have hf9 := frozen_of_row w5 h 0 _ _ hS.bh
    obtain ⟨v9, hv9⟩ : ∃ v9, v9 = a.eval (.tmp 17) := ⟨_, rfl⟩
    rw [← hv9] at hs9 e9
    show wpOps _ _ _ [14, 15, 16] a w5
    rw [wpOps_cons]
    refine wpOp_nil9 rfl (wanted_free rfl) _ rfl _ e4 ?_
    show wpOps _ _ _ _ (a.put (some 18) _) w5
    rw [wpOps_cons]
    refine wpOp_field rfl (wanted_free rfl) _ _ _ rfl _ _ (eval_put_same _ _ _ (by rw [hsz]; decide)) (run_fieldW0 w5 h) ?_
    show wpOps _ _ _ _ ((a.put (some 18) _).put (some 19) _) w5
    rw [wpOps_cons]
    subst e9
    refine wpOp_store rfl (wanted_free rfl) _ _ _ rfl _ _ (eval_put_same _ _ _ (by rw [size_put, hsz]; decide)) (by rw [eval_put_other _ _ (by decide), eval_put_other _ _ (by decide)]; exact hv9.symm) (run_storeW w5 _ _ _ _ _ hc9 hf9) ?_
    show wpOps _ _ _ [] (((a.put (some 18) (.pointer (some ⟨h, 0, Option.none⟩))).put (some 19) (.pointer (some ⟨h, 0, Option.none⟩))).put Option.none undef) _
    rw [wpOps]
    obtain ⟨a9, ha9⟩ : ∃ a9, a9 = (((a.put (some 18) (.pointer (some ⟨h, 0, Option.none⟩))).put (some 19) (.pointer (some ⟨h, 0, Option.none⟩))).put Option.none undef) := ⟨_, rfl⟩
    have hd9 : a9.defers = [] := by rw [ha9, defers_put, defers_put, defers_put, hdf]
    clear hv9
    rw [← ha9]
    go_wp2
    exact bodyPost_end (results_none rfl _ _ _) (by first | exact hd9 | rfl) ⟨rfl, _, hs9.out⟩
def wh9 (hp q i tb : Nat) (ov : Value) (A Aw : Option Addr) (m c nw cw : Nat) (j : Nat) (v : Value) (_ : World) : Prop :=
  match j with
  | 0 => v = .pointer (some ⟨hp, 0, Option.none⟩)
  | 1 => v = .pointer (some ⟨hp, 0, Option.none⟩)
  | 2 => v = .pointer (some ⟨hp, 0, Option.none⟩)
  | 3 => v = .pointer (some ⟨hp, 0, Option.none⟩)
  | 4 => v = ov
  | 5 => v = .pointer (some ⟨hp, 0, Option.none⟩)
  | 6 => v = .pointer (some ⟨hp, 0, Option.none⟩)
  | 7 => v = .pointer (some ⟨hp, 1, Option.none⟩)
  | 8 => v = .pointer (some ⟨tb, 0, Option.none⟩)
  | 9 => v = .pointer (some ⟨hp, 0, Option.none⟩)
  | 10 => v = .pointer (some ⟨hp, 0, Option.none⟩)
  | 11 => v = .pointer (some ⟨hp, 2, Option.none⟩)
  | 12 => v = .slice Aw nw cw
  | 13 => v = .pointer (some ⟨q, i, Option.none⟩)
  | 14 => v = .pointer (some ⟨q, i, Option.none⟩)
  | 15 => v = .slice A m c
  | 16 => True
  | 17 => True
  | _ => True
theorem wh9_any {hp q i tb : Nat} {ov : Value} {A Aw : Option Addr} {m c nw cw : Nat} {j : Nat} {v : Value} {w w' : World} (h : wh9 hp q i tb ov A Aw m c nw cw j v w) : wh9 hp q i tb ov A Aw m c nw cw j v w' := by
  unfold wh9 at h ⊢
  split at h
  all_goals exact h
set_option maxHeartbeats 32000000 in
set_option maxRecDepth 100000 in
theorem wheaders_any (w1 : World) (b tb mb : Nat) (T0 L : Nat → Prop) (ks : List (Int × Bool)) (val : Int → Bool → Value) (k : Bk) (g h lb : Nat) (x : Ev) (A : Option Addr) (m c : Nat) (d : Int) (Aw : Option Addr) (nw cw : Nat) (T : List (List UInt8)) (Y : List Int) (ov : Value) (q i : Nat) (was : List Hd) (W : World) (hW : WR w1 b tb mb T0 L ks val k g h lb x A m c d Aw nw cw T Y ov ov W) (hc : W.cell? ⟨q, i, Option.none⟩ = some (.slice A m c)) (hx : HdO w1 A m c x.hs (inK b mb T0 L)) (hw : HdO w1 Aw nw cw was T0) (hT : T.length ≤ 300000) (hnw : nw ≤ 1000) (hm : m ≤ 1000) (hsh : Short 2048 x.hs) (hZ : (dputB T was x.hs).length ≤ 1000000) (hY : Y.length ≤ 2000000000) :
    Calls Try.prog 79 #[.pointer (some ⟨h, 0, Option.none⟩), .pointer (some ⟨q, i, Option.none⟩)] W fun e W' => e = .returned (.tuple #[]) ∧ ∃ out, WR w1 b tb mb T0 L ks val k g h lb x A m c d Aw nw cw (dputL T was x.hs) (Y ++ dputB T was x.hs) out out W' := by
  obtain ⟨i0, hi8, hz0, hz1, hz2⟩ := info_parts Try.info8
  replace hW := Lib.hid (And.intro hW hc)
  clear hc
  go_enter Try.func79, Try.ntmps79
  go_wp2
  refine wp_region_tail 18 4 (by decide) (by kernel_rfl) (RInv 24 [4, 5, 6, 7, 8, 9, 10, 11, 12, 13, 14, 15, 16, 17, 18, 19, 20, 21] _ (wh9 h q i tb ov A Aw m c nw cw) { w1 with heap := #[] } (IQF (WK (fun W => WR w1 b tb mb T0 L ks val k g h lb x A m c d Aw nw cw T Y ov ov W ∧ W.cell? ⟨q, i, Option.none⟩ = some (.slice A m c)) (fun v W => WR w1 b tb mb T0 L ks val k g h lb x A m c d Aw nw cw (dputL T was x.hs) Y ov ov W ∧ ReadsB (dputB T was x.hs) v W) (fun v W => WR w1 b tb mb T0 L ks val k g h lb x A m c d Aw nw cw (dputL T was x.hs) (Y ++ dputB T was x.hs) ov v W)) (fun _ _ => True) (fun _ _ => True) ov 16 20 98 998 17 21 99 999)) (by kernel_rfl) (by kernel_rfl) (RInv.start rfl (IQF.start ⟨hW.out.1.later (Below.refl _ _).drew, hW.out.2⟩) (hW.out.1.later (Below.refl _ _).drew).none) ?_ ?_
  · intro i hi D a wy hI hcl hnd hpre
    have hi' : i < 18 := hi
    have hcase : i = 0 ∨ i = 1 ∨ i = 2 ∨ i = 3 ∨ i = 4 ∨ i = 5 ∨ i = 6 ∨ i = 7 ∨ i = 8 ∨ i = 9 ∨ i = 10 ∨ i = 11 ∨ i = 12 ∨ i = 13 ∨ i = 14 ∨ i = 15 ∨ i = 16 ∨ i = 17 := by omega
    have hF := hI.fact
    rcases hcase with rfl | rfl | rfl | rfl | rfl | rfl | rfl | rfl | rfl | rfl | rfl | rfl | rfl | rfl | rfl | rfl | rfl | rfl
    · exact wpOp_move rfl (wanted_free rfl) _ rfl _ (hI.same 0 (by decide)) (hI.put (by decide) (by decide) (fun j _ _ h => wh9_any h) rfl (hI.more.pure _ (by decide) (by decide)) (hI.below))
    · exact wpOp_move rfl (wanted_free rfl) _ rfl _ (hI.same 0 (by decide)) (hI.put (by decide) (by decide) (fun j _ _ h => wh9_any h) rfl (hI.more.pure _ (by decide) (by decide)) (hI.below))
    · exact wpOp_nil9 rfl (wanted_free rfl) _ rfl _ (hF 1 (hpre 1 (by kernel_rfl))) (hI.put (by decide) (by decide) (fun j _ _ h => wh9_any h) rfl (hI.more.pure _ (by decide) (by decide)) (hI.below))
    · exact wpOp_field rfl (wanted_free rfl) _ _ _ rfl _ _ (hF 2 (hpre 2 (by kernel_rfl))) (run_fieldW0 wy h) (hI.put (by decide) (by decide) (fun j _ _ h => wh9_any h) rfl (hI.more.pure _ (by decide) (by decide)) (hI.below))
    · exact wpOp_load rfl (wanted_free rfl) _ _ rfl _ _ (hF 3 (hpre 3 (by kernel_rfl))) (run_loadWB wy _ _ (iqf_wk hI.more (P := fun W => W.cell? ⟨h, 0, Option.none⟩ = some ov ∧ W.cell? ⟨h, 1, Option.none⟩ = some (.pointer (some ⟨tb, 0, Option.none⟩)) ∧ W.cell? ⟨h, 2, Option.none⟩ = some (.slice Aw nw cw)) (fun _ h => h.1.cells) (fun _ _ h => h.1.cells) (fun _ _ h => h.cells)).1) (hI.put (by decide) (by decide) (fun j _ _ h => wh9_any h) rfl (hI.more.pure _ (by decide) (by decide)) (hI.below))
    · exact wpOp_move rfl (wanted_free rfl) _ rfl _ (hI.same 0 (by decide)) (hI.put (by decide) (by decide) (fun j _ _ h => wh9_any h) rfl (hI.more.pure _ (by decide) (by decide)) (hI.below))
    · exact wpOp_nil9 rfl (wanted_free rfl) _ rfl _ (hF 5 (hpre 5 (by kernel_rfl))) (hI.put (by decide) (by decide) (fun j _ _ h => wh9_any h) rfl (hI.more.pure _ (by decide) (by decide)) (hI.below))
    · exact wpOp_field rfl (wanted_free rfl) _ _ _ rfl _ _ (hF 6 (hpre 6 (by kernel_rfl))) (run_fieldW1 wy h) (hI.put (by decide) (by decide) (fun j _ _ h => wh9_any h) rfl (hI.more.pure _ (by decide) (by decide)) (hI.below))
    · exact wpOp_load rfl (wanted_free rfl) _ _ rfl _ _ (hF 7 (hpre 7 (by kernel_rfl))) (run_loadWT wy _ _ (iqf_wk hI.more (P := fun W => W.cell? ⟨h, 0, Option.none⟩ = some ov ∧ W.cell? ⟨h, 1, Option.none⟩ = some (.pointer (some ⟨tb, 0, Option.none⟩)) ∧ W.cell? ⟨h, 2, Option.none⟩ = some (.slice Aw nw cw)) (fun _ h => h.1.cells) (fun _ _ h => h.1.cells) (fun _ _ h => h.cells)).2.1) (hI.put (by decide) (by decide) (fun j _ _ h => wh9_any h) rfl (hI.more.pure _ (by decide) (by decide)) (hI.below))
    · exact wpOp_move rfl (wanted_free rfl) _ rfl _ (hI.same 0 (by decide)) (hI.put (by decide) (by decide) (fun j _ _ h => wh9_any h) rfl (hI.more.pure _ (by decide) (by decide)) (hI.below))
    · exact wpOp_nil9 rfl (wanted_free rfl) _ rfl _ (hF 9 (hpre 9 (by kernel_rfl))) (hI.put (by decide) (by decide) (fun j _ _ h => wh9_any h) rfl (hI.more.pure _ (by decide) (by decide)) (hI.below))
    · exact wpOp_field rfl (wanted_free rfl) _ _ _ rfl _ _ (hF 10 (hpre 10 (by kernel_rfl))) (run_fieldW2 wy h) (hI.put (by decide) (by decide) (fun j _ _ h => wh9_any h) rfl (hI.more.pure _ (by decide) (by decide)) (hI.below))
    · exact wpOp_load rfl (wanted_free rfl) _ _ rfl _ _ (hF 11 (hpre 11 (by kernel_rfl))) (run_loadWH wy _ _ (iqf_wk hI.more (P := fun W => W.cell? ⟨h, 0, Option.none⟩ = some ov ∧ W.cell? ⟨h, 1, Option.none⟩ = some (.pointer (some ⟨tb, 0, Option.none⟩)) ∧ W.cell? ⟨h, 2, Option.none⟩ = some (.slice Aw nw cw)) (fun _ h => h.1.cells) (fun _ _ h => h.1.cells) (fun _ _ h => h.cells)).2.2) (hI.put (by decide) (by decide) (fun j _ _ h => wh9_any h) rfl (hI.more.pure _ (by decide) (by decide)) (hI.below))
    · exact wpOp_move rfl (wanted_free rfl) _ rfl _ (hI.same 1 (by decide)) (hI.put (by decide) (by decide) (fun j _ _ h => wh9_any h) rfl (hI.more.pure _ (by decide) (by decide)) (hI.below))
    · exact wpOp_nil9 rfl (wanted_free rfl) _ rfl _ (hF 13 (hpre 13 (by kernel_rfl))) (hI.put (by decide) (by decide) (fun j _ _ h => wh9_any h) rfl (hI.more.pure _ (by decide) (by decide)) (hI.below))
    · exact wpOp_load rfl (wanted_free rfl) _ _ rfl _ _ (hF 14 (hpre 14 (by kernel_rfl))) (run_loadWH wy _ _ (hI.more.n1 (fun h9 => hnd (hcl _ h9 15 (by kernel_rfl))) (fun h9 => hnd (hcl _ (hcl _ h9 16 (by kernel_rfl)) 15 (by kernel_rfl)))).2) (hI.put (by decide) (by decide) (fun j _ _ h => wh9_any h) rfl (hI.more.pure _ (by decide) (by decide)) (hI.below))
    · have hK0 := hI.more.n1 hnd (fun h9 => hnd (hcl _ h9 16 (by kernel_rfl)))
      replace hK0 : WR w1 b tb mb T0 L ks val k g h lb x A m c d Aw nw cw T Y ov ov wy ∧ _ := hK0
      obtain ⟨T1, hB, hn1, ho, h1, h2, h3⟩ := hK0.1.ex
      have hx9 := hx.rd.alt hK0.1.alt (Off.mono hx.off fun j hj => .inr (.inl hj))
      have hw9 := hw.rd.alt hK0.1.alt hw.off
      have hxo : Off T1 A m := fun g' off e h0 hk => (hn1 g' hk).elim (fun h8 => hx.off g' off e h0 (.inr (.inl h8))) fun h8 => by have := hx.rd; rw [e] at this; have := this.block h0; omega
      have hcall := dput_any tb T T1 Option.none 0 0 [] Aw nw cw was A m c x.hs wy hB.tab hT (holds_nil wy) (by omega) hw9 hx9 hxo hnw hm hsh
      exact wpOp_call4e rfl (wanted_free rfl) 81 _ _ _ _ _ rfl _ _ _ _ (rfl) (hF 8 (hpre 8 (by kernel_rfl))) (hF 12 (hpre 12 (by kernel_rfl))) (hF 15 (hpre 15 (by kernel_rfl))) (enters_delput _ _) hcall (fun e w' hq => by
        obtain ⟨r, T2, rfl, hown, hof, hs⟩ := hq
        rw [List.nil_append] at hown
        have hK1 := hK0.1.turn hB hn1 ho h1 h2 h3 hs
        have hR := hown.reads
        exact ⟨_, rfl, (hI.put (by decide) (by decide) (fun j _ _ h => wh9_any h) trivial (IQF.first ⟨hK1, hR⟩ (fun h9 => hnd (hcl _ h9 16 (by kernel_rfl))) (fun h9 => absurd (hI.few 99 h9) (by decide)) (by rw [hI.size]; decide) (by decide) (by decide)) (hK1.none))⟩)
    · obtain ⟨hK1, A3, c3, e3, hH3⟩ := hI.more.d1 (hpre 16 (by kernel_rfl)) hnd
      obtain ⟨v9, w9, hrun, hO9, hg9, hm9⟩ := run_append_bytes (P := Try.prog) w1.heap.size 43 43 5 i0 Try.underlying43 hi8 hz0 hz1 hz2 hK1.own hH3 (by have := hZ; omega) hK1.size
      have hK2 := hK1.app hO9 hg9 hm9
      exact wpOp_appendL rfl (wanted_free rfl) _ _ _ rfl _ _ _ (hF 4 (hpre 4 (by kernel_rfl))) e3 hrun (hI.put (by decide) (by decide) (fun j _ _ h => wh9_any h) trivial (IQF.second hK2 (hpre 16 (by kernel_rfl)) (by rw [hI.size]; decide)) (hK2.none))
  · intro D a w5 hI hall
    have hS := hI.more.d2 (hall 17 (by decide))
    have e4 : a.eval (.tmp 4) = _ := hI.fact 0 (hall 0 (by decide))
    have hsz := hI.size
    have hdf := hI.defs
    clear hI hall
    replace hS : WR w1 b tb mb T0 L ks val k g h lb x A m c d Aw nw cw (dputL T was x.hs) (Y ++ dputB T was x.hs) ov (a.eval (.tmp 21)) w5 := hS
    have hs9 := Lib.hid hS.store
    obtain ⟨A9, c9, e9, q9⟩ := hS.own.holds
    clear q9
    generalize (Y ++ dputB T was x.hs).length = ln at e9
    have hc9 := hS.cells.1
    have hf9 := frozen_of_row w5 h 0 _ _ hS.bh
    obtain ⟨v9, hv9⟩ : ∃ v9, v9 = a.eval (.tmp 21) := ⟨_, rfl⟩
    rw [← hv9] at hs9 e9
    show wpOps _ _ _ [18, 19, 20] a w5
    rw [wpOps_cons]
    refine wpOp_nil9 rfl (wanted_free rfl) _ rfl _ e4 ?_
    show wpOps _ _ _ _ (a.put (some 22) _) w5
    rw [wpOps_cons]
    refine wpOp_field rfl (wanted_free rfl) _ _ _ rfl _ _ (eval_put_same _ _ _ (by rw [hsz]; decide)) (run_fieldW0 w5 h) ?_
    show wpOps _ _ _ _ ((a.put (some 22) _).put (some 23) _) w5
    rw [wpOps_cons]
    subst e9
    refine wpOp_store rfl (wanted_free rfl) _ _ _ rfl _ _ (eval_put_same _ _ _ (by rw [size_put, hsz]; decide)) (by rw [eval_put_other _ _ (by decide), eval_put_other _ _ (by decide)]; exact hv9.symm) (run_storeW w5 _ _ _ _ _ hc9 hf9) ?_
    show wpOps _ _ _ [] (((a.put (some 22) (.pointer (some ⟨h, 0, Option.none⟩))).put (some 23) (.pointer (some ⟨h, 0, Option.none⟩))).put Option.none undef) _
    rw [wpOps]
    obtain ⟨a9, ha9⟩ : ∃ a9, a9 = (((a.put (some 22) (.pointer (some ⟨h, 0, Option.none⟩))).put (some 23) (.pointer (some ⟨h, 0, Option.none⟩))).put Option.none undef) := ⟨_, rfl⟩
    have hd9 : a9.defers = [] := by rw [ha9, defers_put, defers_put, defers_put, hdf]
    clear hv9
    rw [← ha9]
    go_wp2
    exact bodyPost_end (results_none rfl _ _ _) (by first | exact hd9 | rfl) ⟨rfl, _, hs9.out⟩
end Go.Proofs.Ytodncamohimmmaa
