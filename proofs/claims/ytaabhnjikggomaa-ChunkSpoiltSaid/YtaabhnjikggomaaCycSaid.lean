/-
  What the functions of layer 2 are held to: Table, Sum and Put, as statements that the laws' walks take as premises.
-/
import Derived.Test.YtaabhnjikggomaaCycBase
import Derived.Test.YtaabhnjikggomaaRegion
import Derived.Laws.Tables
import Derived.Laws.CopyOwn
namespace Go.Proofs.Ytaabhnjikggomaa
open Go.RowKit

/-- A slice of slices of bytes reads as the texts ls. -/
structure Parts (w : World) (P : Option Addr) (n : Nat) (ls : List (List Int)) : Prop where
  len : ls.length = n
  cell : 0 < n → ∃ b off, P = some ⟨b, off, Option.none⟩ ∧ ∀ j, j < n → ∃ A k c, w.cell? ⟨b, off + j, Option.none⟩ = some (.slice A k c) ∧ Holds w A k c (ls[j]?.getD [])

theorem Parts.later {w w' : World} {P : Option Addr} {n : Nat} {ls : List (List Int)} (h : Parts w P n ls) (hb : Below w.heap.size w w') : Parts w' P n ls :=
  ⟨h.len, fun hn => by
    obtain ⟨b, off, e, hc⟩ := h.cell hn
    refine ⟨b, off, e, fun j hj => ?_⟩
    obtain ⟨A, k, c, h1, h2⟩ := hc j hj
    exact ⟨A, k, c, cell_later hb h1, h2.later hb⟩⟩

/-- The register behind the first texts. -/
def regs (t : Nat → Nat) (ls : List (List Int)) : Nat := Cyc.byTab t 4294967295 ls.flatten
theorem regs_snoc (t : Nat → Nat) (ls : List (List Int)) (k : Nat) (hk : k < ls.length) : regs t (ls.take (k + 1)) = Cyc.byTab t (regs t (ls.take k)) (ls[k]?.getD []) := by
  unfold regs
  rw [List.take_succ_eq_append_getElem hk, List.flatten_append, Cyc.byTab_append, List.getElem?_eq_getElem hk]
  simp
theorem regs_lt (t : Nat → Nat) (ht : ∀ c, t c < 4294967296) (ls : List (List Int)) : regs t ls < 4294967296 := byTab_lt t ht _ _ (by omega)

theorem Parts.keeps {w w' : World} {P : Option Addr} {n : Nat} {ls : List (List Int)} (h : Parts w P n ls) (hk : Keeps w w') : Parts w' P n ls :=
  ⟨h.len, fun hn => by
    obtain ⟨b, off, e, hc⟩ := h.cell hn
    refine ⟨b, off, e, fun j hj => ?_⟩
    obtain ⟨A, k, c, h1, h2⟩ := hc j hj
    exact ⟨A, k, c, hk.cell _ _ h1, h2.keeps hk⟩⟩

/-- The bound of a table of numbers of 32 bits. -/
theorem tab_lt (c : Nat) : Cyc.tab c < 4294967296 ∨ 4294967296 ≤ c := by
  rcases Nat.lt_or_ge c 4294967296 with h | h
  · exact .inl (Cyc.stps_lt 8 h)
  · exact .inr h

/-- The table, with nothing behind its 256 numbers. -/
def tab0 (c : Nat) : Nat := if c < 256 then Cyc.tab c else 0
theorem tab0_lt (c : Nat) : tab0 c < 4294967296 := by
  unfold tab0
  split
  · exact Cyc.stps_lt 8 (by omega)
  · omega
theorem cells32_tab0 : cells32 tab0 = cells32 Cyc.tab := by
  unfold cells32
  apply List.map_congr_left
  intro c hc
  rw [List.mem_range] at hc
  simp [tab0, hc]
theorem byTab_tab0 : ∀ (l : List Int) (n : Nat), Leb.Bytes l → Cyc.byTab tab0 n l = Cyc.byTab Cyc.tab n l
  | [], _, _ => rfl
  | b :: l, n, h => by
    have hb := h b (by simp)
    have hx : (n % 256) ^^^ b.toNat < 256 := Nat.xor_lt_two_pow (n := 8) (by omega) (by omega)
    show Cyc.byTab tab0 (tab0 ((n % 256) ^^^ b.toNat) ^^^ n / 256) l = Cyc.byTab Cyc.tab (Cyc.tab ((n % 256) ^^^ b.toNat) ^^^ n / 256) l
    rw [tab0, if_pos hx]
    exact byTab_tab0 l _ (fun x hx => h x (by simp [hx]))

/-- The zero table's cells, a constant that no simp opens. (At a seat of over 80 functions the loader itself has 'Try.zeroCells25' and its facts: there make this an abbreviation of that one and drop zero32 and zeros32_ne.) -/
def zeros32 : Array Value := Array.replicate 256 (.int .u32 0)
@[simp] theorem zero32 (w : World) : Sem.run Try.prog (zeroValue 25) w = .ok (.agg zeros32) w := by kernel_rfl
theorem size_zeros32 : zeros32.size = 256 := by kernel_rfl
@[simp] theorem zeros32_ne : zeros32 ≠ #[] := fun h => by
  have := size_zeros32
  rw [h] at this
  exact absurd this (by decide)
theorem info32 : (Try.prog.info? 25).map (·.size) = some 256 := by kernel_rfl
theorem length_cells32 (t : Nat → Nat) : (cells32 t).length = 256 := by simp [cells32]
theorem one_cells32 (t : Nat → Nat) : (cells32 t).toArray.all (·.oneCell') = true := all_oneCell_toArray (fun v hv => by
  unfold cells32 at hv
  rw [List.mem_map] at hv
  obtain ⟨c, _, rfl⟩ := hv
  rfl)

/-- 't := f()' of a table: the new variable, and the table stored into it. -/
theorem wpList_table {ops : Array Oper} {rest : List Oper} {o : Oper} {a : Act} {w : World} {Q : Exit → Act → World → Prop} (hgd : o.guard = Option.none) (x y : Operand) (ho : o.op = .store 25 x y) (hd : o.dst = Option.none)
    (g : Nat) (hg : g = w.heap.size) (t : Nat → Nat) (hx : a.eval x = .pointer (some ⟨g, 0, Option.none⟩)) (hy : a.eval y = .agg (cells32 t).toArray)
    (h : ∀ W, (∀ c, c < 256 → W.cell? ⟨g, c, Option.none⟩ = some (.int .u32 (t c))) → W.heap[g]? = some (.cells (cells32 t).toArray 25 (0, 0)) → Below w.heap.size w W → wpList Try.prog ops Q rest a W) :
    wpList Try.prog ops Q (o :: rest) a (w.alloc (.cells zeros32 25)) := by
  subst hg
  have hb : (w.alloc (.cells zeros32 25)).heap[w.heap.size]? = some (.cells zeros32 25 (0, 0)) := heap_alloc_new w _
  have hr := setRow_heap (w.alloc (.cells zeros32 25)) w.heap.size zeros32 (cells32 t).toArray 25 (0, 0) hb
  refine wpList_store_row hgd _ x y ho w.heap.size _ hx hy 25 zeros32 hb (by rw [info32]; simp [length_cells32]) (by rw [size_zeros32]; simp [length_cells32]) (one_cells32 t) ?_
  rw [hd]
  refine h _ (fun c hc => ?_) hr ?_
  · rw [cell_of_row _ w.heap.size c _ _ (0, 0) hr]
    simpa using cells32_at t hc
  · exact below_setRow ((Below.refl _ _).alloc (Nat.le_refl _) _) (Nat.le_refl _) _

def TableSaid : Prop := ∀ w, Calls Try.prog 12 #[] w fun e w' => e = .returned (.agg (cells32 tab0).toArray) ∧ Below w.heap.size w w'
def SumSaid : Prop := ∀ (t : Nat → Nat), (∀ c, t c < 4294967296) → ∀ (P : Option Addr) (n c : Nat) (ls : List (List Int)) (w : World), Parts w P n ls → n ≤ 1000000 →
  Calls Try.prog 18 #[.agg (cells32 t).toArray, .slice P n c] w fun e w' => e = .returned (.int .u32 ((4294967295 - regs t ls : Nat) : Int)) ∧ Below w.heap.size w w'
def PutSaid : Prop := ∀ (A : Option Addr) (k c : Nat) (l : List Int) (n : Nat) (w : World), n < 4294967296 → Holds w A k c l → k + 4 ≤ 140737488355328 →
  Calls Try.prog 17 #[.slice A k c, .int .u32 n] w (Gives w 5 (l ++ four n))
end Go.Proofs.Ytaabhnjikggomaa
