/-
  Words for slices of bytes in memory: that a slice value reads as a list of bytes, that the call itself owns one, and what append and the conversion to a string do with them. Conditions: those that each theorem states.
-/
import Derived.Test.YtlmchoonokglaaaLebMath
import Derived.Lib.Hide
import Derived.WalkKit
import Derived.WalkSpells
import Derived.Maps.AppendAt
import Derived.Laws.BytesArg
import Derived.Lib.Bytes
import Derived.OpenShut
import Derived.Deep.Draws
import Derived.WalkSmall
namespace Go.Proofs.Ytlmchoonokglaaa
open Go.RowKit Go.Lib Leb

theorem ret_int {k : IntKind} {a b : Int} (h : a = b) : Ending.returned (.int k a) = .returned (.int k b) := by rw [h]
theorem ret_bool {a b : Bool} (h : a = b) : Ending.returned (.bool a) = .returned (.bool b) := by rw [h]

/-- A number of 64 bits (the bound behind a name, out of the walk's sight). -/
def U64 (n : Nat) : Prop := n < 18446744073709551616
theorem U64.out {n : Nat} (h : U64 n) : n < 18446744073709551616 := h
theorem U64.div {n : Nat} (h : U64 n) (k : Nat) : U64 (n / k) := Nat.lt_of_le_of_lt (Nat.div_le_self _ _) h

theorem wrap_of {n : Nat} (h : U64 n) : IntKind.u64.wrap (n : Int) = n := IntWalk.u64_in _ ⟨by omega, by have := h.out; omega⟩
theorem wrap_div {n : Nat} (h : U64 n) : IntKind.u64.wrap ((n : Int) / 128) = ((n / 128 : Nat) : Int) := by
  have := wrap_of (h.div 128)
  simpa using this

/-- The slice value with address A, length n and capacity c reads as the bytes l. -/
structure Holds (w : World) (A : Option Addr) (n c : Nat) (l : List Int) : Prop where
  len : l.length = n
  byt : Bytes l
  cap : n ≤ c
  room : c ≤ maxLen
  bare : A = Option.none → c = 0
  cell : 0 < n → ∃ b off, A = some ⟨b, off, Option.none⟩ ∧ ∀ j, j < n → w.cell? ⟨b, off + j, Option.none⟩ = some (.int .u8 (l[j]?.getD 0))

theorem addr_add (b o j : Nat) : (⟨b, o, Option.none⟩ : Addr).add j = ⟨b, o + j, Option.none⟩ := by
  unfold Addr.add
  split
  · simp_all
  · rfl

section
variable {w w' : World} {A : Option Addr} {n c : Nat} {l : List Int}

theorem Holds.later (h : Holds w A n c l) (hb : Below w.heap.size w w') : Holds w' A n c l :=
  ⟨h.len, h.byt, h.cap, h.room, h.bare, fun hn => by
    obtain ⟨b, off, e, hc⟩ := h.cell hn
    exact ⟨b, off, e, fun j hj => cell_later hb (hc j hj)⟩⟩

theorem Holds.drew (h : Holds w A n c l) : Holds w.drew A n c l := ⟨h.len, h.byt, h.cap, h.room, h.bare, h.cell⟩
theorem Holds.drewN (h : Holds w A n c l) (k : Nat) : Holds (w.drewN k) A n c l := ⟨h.len, h.byt, h.cap, h.room, h.bare, h.cell⟩
theorem Holds.alloc (h : Holds w A n c l) (o : Obj) : Holds (w.alloc o) A n c l := h.later ((Below.refl _ _).alloc (Nat.le_refl _) o)

theorem holds_nil (w : World) : Holds w Option.none 0 0 [] := ⟨rfl, Bytes.nil, Nat.le_refl _, Nat.zero_le _, fun _ => rfl, fun h => absurd h (by omega)⟩

/-- A slice of bytes that came in, as the frame of a law's proof hands it over. -/
theorem holds_of_row {zs : List Int} (h : (A = Option.none ∧ n = 0 ∧ c = 0 ∧ zs = []) ∨
    ∃ x, A = some x ∧ n ≤ c ∧ c ≤ maxLen ∧ zs.length = c ∧ (∀ i, i < zs.length → w.cell? (x.add i) = some (.int .u8 (zs.getD i 0))) ∧ ∀ k ∈ zs, (Lit.int .u8 k).wf = true) : Holds w A n c (zs.take n) := by
  rcases h with ⟨rfl, rfl, rfl, rfl⟩ | ⟨x, rfl, hn, hc, hz, hcell, hwf⟩
  · exact holds_nil w
  · refine ⟨by rw [List.length_take]; omega, fun y hy => ?_, hn, hc, (fun e => by cases e), fun hp => ?_⟩
    · have := bounds_u8 (hwf y (List.mem_of_mem_take hy))
      omega
    · obtain ⟨b, off, spot⟩ := x
      have h0 := hcell 0 (by omega)
      have hs : spot = Option.none := by simpa [Addr.add] using World.cell?_spot h0
      subst hs
      refine ⟨b, off, rfl, fun j hj => ?_⟩
      have := hcell j (by omega)
      rw [addr_add] at this
      rw [this, List.getElem?_take, if_pos hj]
      rfl

theorem nat_of_u64 {x : Int} (h : (Lit.int .u64 x).wf = true) : ∃ m : Nat, x = m ∧ U64 m := by
  have := bounds_u64 h
  exact ⟨x.toNat, by omega, by unfold U64; omega⟩

theorem nat_of_u32 {x : Int} (h : (Lit.int .u32 x).wf = true) : ∃ m : Nat, x = m ∧ m < 4294967296 := by
  have := bounds_u32 h
  exact ⟨x.toNat, by omega, by omega⟩

theorem nat_of_u16 {x : Int} (h : (Lit.int .u16 x).wf = true) : ∃ m : Nat, x = m ∧ m < 65536 := by
  have := bounds_u16 h
  exact ⟨x.toNat, by omega, by omega⟩

theorem nat_of_u8 {x : Int} (h : (Lit.int .u8 x).wf = true) : ∃ m : Nat, x = m ∧ m < 256 := by
  have := bounds_u8 h
  exact ⟨x.toNat, by omega, by omega⟩

/-- The first k bytes. -/
theorem Holds.front (h : Holds w A n c l) {k : Nat} (hk : k ≤ n) : Holds w A k c (l.take k) :=
  ⟨by rw [List.length_take, h.len]; omega, h.byt.take k, Nat.le_trans hk h.cap, h.room, h.bare, fun hp => by
    obtain ⟨b, off, e, hc⟩ := h.cell (by omega)
    refine ⟨b, off, e, fun j hj => ?_⟩
    rw [hc j (by omega), List.getElem?_take, if_pos hj]⟩

/-- A slice of length 0 reads as nothing, wherever it lies. -/
theorem holds_empty (w : World) (A : Option Addr) (c : Nat) (hc : c ≤ maxLen) (hb : A = Option.none → c = 0) : Holds w A 0 c [] :=
  ⟨rfl, Bytes.nil, Nat.zero_le _, hc, hb, fun h => absurd h (by omega)⟩

/-- The bytes from k on, k within. -/
theorem Holds.back {b off : Nat} (h : Holds w (some ⟨b, off, Option.none⟩) n c l) {k : Nat} (hk : k ≤ n) : Holds w (some ⟨b, off + k, Option.none⟩) (n - k) (c - k) (l.drop k) :=
  ⟨by rw [List.length_drop, h.len], h.byt.drop k, by have := h.cap; omega, by have := h.room; omega, (fun e => by cases e), fun hp => by
    obtain ⟨b', off', e, hc⟩ := h.cell (by omega)
    injection e with e
    injection e with e1 e2
    subst e1
    subst e2
    refine ⟨b, off + k, rfl, fun j hj => ?_⟩
    rw [show off + k + j = off + (k + j) by omega, hc (k + j) (by omega), List.getElem?_drop]⟩

/-- A new block of bytes. -/
theorem holds_new (w : World) (e : TypeId) (cs : Array Value) (l : List Int) (hcs : cs = (l.map (Value.int .u8)).toArray) (hb : Bytes l) (hm : l.length ≤ maxLen) :
    Holds (w.alloc (.cells cs e)) (some ⟨w.heap.size, 0, Option.none⟩) l.length l.length l :=
  ⟨rfl, hb, Nat.le_refl _, hm, (fun e => by cases e), fun _ => ⟨w.heap.size, 0, rfl, fun j hj => by
    rw [Nat.zero_add]
    have := cell_of_row (w.alloc (.cells cs e)) w.heap.size j cs e (0, 0) (heap_alloc_new w _)
    rw [this, hcs]
    simp [List.getElem?_eq_getElem hj]⟩⟩

/-- The call owns the slice v, which reads as the bytes l; its block is number 'base' or above. -/
def Owns (w : World) (base : Nat) (e : TypeId) (v : Value) (l : List Int) : Prop := Bytes l ∧ w.ownsRow base e 1 v l.length (l.map (Value.int .u8))

theorem Owns.holds {base : Nat} {e : TypeId} {v : Value} (h : Owns w base e v l) : ∃ A c, v = .slice A l.length c ∧ Holds w A l.length c l := by
  rcases h.2.2 with ⟨rfl, h0⟩ | ⟨g, cap, cur, rfl, hb, hg, hn, hm, hs, ht⟩
  · have hl : l = [] := List.eq_nil_of_length_eq_zero h0
    subst hl
    exact ⟨Option.none, 0, rfl, holds_nil w⟩
  · refine ⟨_, cap, rfl, rfl, h.1, hn, hm, (fun e => by cases e), fun hp => ⟨g, 0, rfl, fun j hj => ?_⟩⟩
    have := (h.2.cells (g := g) rfl) j (.int .u8 (l[j]?.getD 0)) (by simp [List.getElem?_eq_getElem hj])
    rwa [addr_add] at this

/-- A call gives back the bytes l in memory of its own, and changes nothing that was there. -/
def Gives (w : World) (e : TypeId) (l : List Int) (en : Ending) (w' : World) : Prop := ∃ v, en = .returned v ∧ Owns w' w.heap.size e v l ∧ Below w.heap.size w w'

theorem Owns.alloc {base : Nat} {e : TypeId} {v : Value} (h : Owns w base e v l) (o : Obj) : Owns (w.alloc o) base e v l := ⟨h.1, h.2.alloc o⟩

theorem Owns.kept {base : Nat} {e : TypeId} {v : Value} {B : Nat} (h : Owns w base e v l) (hb : Below B w w') (hB : w.heap.size ≤ B) : Owns w' base e v l :=
  ⟨h.1, h.2.kept (row := Option.none) ⟨hb.os, hb.tape, hb.output, hb.size, fun k hk _ => hb.block k (by omega)⟩ (by cases hv : v.ownBlock <;> simp)⟩

theorem owns_lit (w : World) (base : Nat) (e : TypeId) (cs : Array Value) (l : List Int) (hcs : cs = (l.map (Value.int .u8)).toArray) (hb : Bytes l) (hm : l.length ≤ maxLen) (hB : base ≤ w.heap.size) :
    Owns (w.alloc (.cells cs e)) base e (.slice (some ⟨w.heap.size, 0, Option.none⟩) l.length l.length) l := by
  refine ⟨hb, ?_⟩
  have := World.ownsRow_lit (size := 1) (e := e) w cs l.length hB hm (by rw [hcs]; simp)
  rw [hcs] at this ⊢
  simpa using this

theorem Owns.low {base base' : Nat} {e : TypeId} {v : Value} (h : Owns w base e v l) (hB : base' ≤ base) : Owns w base' e v l := by
  refine ⟨h.1, h.2.1, ?_⟩
  rcases h.2.2 with h0 | ⟨g, cap, cur, e1, hb, rest⟩
  · exact .inl h0
  · exact .inr ⟨g, cap, cur, e1, Nat.le_trans hB hb, rest⟩
end

section
variable {P : Program} {w : World}

/-- 'string(b)' of a slice that reads as l. -/
theorem run_text (src dst e : TypeId) (hs : P.underlying src = some (.slice e)) (he : P.underlying e = some (.int .u8)) (hd : P.underlying dst = some .string)
    {A : Option Addr} {n c : Nat} {l : List Int} (h : Holds w A n c l) : (convert src dst (.slice A n c)).run P w = .ok (.string (strOfNums l)) w := by
  by_cases hn : 0 < n
  · obtain ⟨b, off, rfl, hc⟩ := h.cell hn
    exact run_convert_bytes_arg w src e hs he b off n c l h.len hc dst hd
  · have h0 : n = 0 := by omega
    subst h0
    have hl : l = [] := List.eq_nil_of_length_eq_zero h.len
    subst hl
    rw [run_convert_bytes_string w src dst e A 0 c hs he hd]
    have e0 : strOfNums [] = ByteArray.empty := rfl
    rw [e0]
    cases A with
    | none => simp [Conv.bytesToString]
    | some a =>
      have := run_bytesToString (P := P) w a 0 c [] (by simp [loadCells, loadCellsFrom])
      simpa using this

/-- 'string([]byte{..})' -/
theorem text_new (src dst e : TypeId) (hs : P.underlying src = some (.slice e)) (he : P.underlying e = some (.int .u8)) (hd : P.underlying dst = some .string)
    (w : World) (g : Nat) (hg : g = w.heap.size) (cs : Array Value) (l : List Int) (n c : Nat) (hcs : cs = (l.map (Value.int .u8)).toArray) (hb : Bytes l) (hn : n = l.length) (hc : c = l.length) (hm : c ≤ 1000) :
    (convert src dst (.slice (some ⟨g, 0, Option.none⟩) n c)).run P (w.alloc (.cells cs e)) = .ok (.string (strOfNums l)) (w.alloc (.cells cs e)) := by
  subst hg
  subst hn
  subst hc
  exact run_text src dst e hs he hd (holds_new w e cs l hcs hb (by simp only [maxLen]; omega))

theorem text_inj {a b : List Int} (ha : Bytes a) (hb : Bytes b) : ((strOfNums a).toList == (strOfNums b).toList) = decide (a = b) := by
  have e : ∀ l : List Int, (strOfNums l).toList = l.map (fun n => UInt8.ofNat n.toNat) := fun l => by
    rw [strOfNums_toList]; rfl
  rw [e, e]
  by_cases h : a = b
  · subst h; simp
  · rw [decide_eq_false h]
    rw [beq_eq_false_iff_ne]
    intro hc
    apply h
    clear h e
    induction a generalizing b with
    | nil => cases b with
      | nil => rfl
      | cons y s => simp at hc
    | cons x r ih =>
      cases b with
      | nil => simp at hc
      | cons y s =>
        simp only [List.map_cons, List.cons.injEq] at hc
        have hx := ha x (by simp)
        have hy := hb y (by simp)
        have h1 := congrArg UInt8.toNat hc.1
        simp only [UInt8.toNat_ofNat'] at h1
        rw [ih (fun z hz => ha z (by simp [hz])) (fun z hz => hb z (by simp [hz])) hc.2]
        congr 1
        omega

/-- 'append' of whatever reads as bytes onto a slice of the call's own. -/
theorem run_append_bytes (base : Nat) (t ty e : TypeId) (i : TypeInfo) (ht : P.underlying t = some (.slice e)) (hi : P.info? e = some i) (hz : i.zero = some (.int .u8 0)) (hs : i.size = 1) (hb : i.bytes = 1)
    {v : Value} {xs : List Int} (hown : Owns w base e v xs) {A : Option Addr} {m c : Nat} {l : List Int} (h : Holds w A m c l)
    (hlim : xs.length + m ≤ 140737488355328) (hbase : base ≤ w.heap.size) :
    ∃ v' w', (Builtin.append_ #[t, t] ty #[v, .slice A m c]).run P w = .ok v' w' ∧ Owns w' base e v' (xs ++ l) ∧ w.grownBy w' v.ownBlock ∧ (v'.ownBlock = v.ownBlock ∨ v'.ownBlock = some w.heap.size) := by
  have hl := h.len
  subst hl
  cases A with
  | none =>
    have hc := h.bare rfl
    subst hc
    have h0 : l.length = 0 := by have := h.cap; omega
    have hl : l = [] := List.eq_nil_of_length_eq_zero h0
    subst hl
    exact ⟨v, w, run_append_owned_none (P := P) w base t ty e i 1 ht hi v _ _ hown.2, by simpa using hown, World.grownBy.refl w _, .inl rfl⟩
  | some ad =>
    have hcells : ∀ j u, (l.map (Value.int .u8))[j]? = some u → w.cell? (ad.add j) = some u := by
      intro j u hu
      have hj : j < l.length := by
        have := (List.getElem?_eq_some_iff.1 hu).1
        simpa using this
      obtain ⟨b, off, e1, hc⟩ := h.cell (by omega)
      injection e1 with e1
      subst e1
      rw [addr_add, hc j hj]
      simp [List.getElem?_eq_getElem hj] at hu ⊢
      exact hu
    have h63 : xs.length + l.length ≤ maxLen := by simp only [maxLen]; omega
    obtain ⟨v', w', hrun, h2, h3, _, h5⟩ := run_append_own_at (P := P) w base t ty e i _ 1 1 ht hi hz hs hb rfl (by omega) v _ _ hown.2 ad l.length c (l.map (Value.int .u8)) (by simp) hcells (ints_oneCell _ _) h63 (by omega) hbase
    refine ⟨v', w', hrun, ⟨hown.1.append h.byt, ?_⟩, h3, h5⟩
    simpa using h2

theorem wp_append_bytes {o : Oper} {a : Act} {K : Act → World → Prop} {Q : Exit → Act → World → Prop} (s x : Operand) (t : TypeId)
    (ho : o.op = .call { callee := .builtin .append, args := #[s, x], argTypes := #[t, t] })
    (base : Nat) (e : TypeId) (i : TypeInfo) (ht : P.underlying t = some (.slice e)) (hi : P.info? e = some i) (hz : i.zero = some (.int .u8 0)) (hz1 : i.size = 1) (hz2 : i.bytes = 1)
    (v : Value) (xs : List Int) (hs : a.eval s = v) (hown : Owns w base e v xs) (A : Option Addr) (m c : Nat) (l : List Int) (hx : a.eval x = .slice A m c) (h : Holds w A m c l)
    (hlim : xs.length + m ≤ 140737488355328) (hbase : base ≤ w.heap.size)
    (hK : ∀ v' w', Owns w' base e v' (xs ++ l) → w.grownBy w' v.ownBlock → (v'.ownBlock = v.ownBlock ∨ v'.ownBlock = some w.heap.size) → K (a.put o.dst v') w') : o.wp P a w K Q := by
  obtain ⟨v', w', hrun, h2, h3, h4⟩ := run_append_bytes (P := P) base t o.type e i ht hi hz hz1 hz2 hown h hlim hbase
  unfold Oper.wp execOp
  simp only [ho, resolve, invoke, builtin, Sem.run_bind, Sem.run_pure, Result.andThen_ok, List.map_toArray, List.map_cons, List.map_nil, hs, hx, hrun]
  exact hK v' w' h2 h3 h4

theorem wpList_append_bytes {ops : Array Oper} {rest : List Oper} {o : Oper} {a : Act} {Q : Exit → Act → World → Prop} (hgd : o.guard = Option.none) (s x : Operand) (t : TypeId)
    (ho : o.op = .call { callee := .builtin .append, args := #[s, x], argTypes := #[t, t] })
    (base : Nat) (e : TypeId) (i : TypeInfo) (ht : P.underlying t = some (.slice e)) (hi : P.info? e = some i) (hz : i.zero = some (.int .u8 0)) (hz1 : i.size = 1) (hz2 : i.bytes = 1)
    (v : Value) (xs : List Int) (hs : a.eval s = v) (hown : Owns w base e v xs) (A : Option Addr) (m c : Nat) (l : List Int) (hx : a.eval x = .slice A m c) (h : Holds w A m c l)
    (hlim : xs.length + m ≤ 140737488355328) (hbase : base ≤ w.heap.size)
    (hK : ∀ v' w', Owns w' base e v' (xs ++ l) → w.grownBy w' v.ownBlock → (v'.ownBlock = v.ownBlock ∨ v'.ownBlock = some w.heap.size) → wpList P ops Q rest (a.put o.dst v') w') : wpList P ops Q (o :: rest) a w :=
  wpList_plain hgd fun _ hK' => wp_append_bytes s x t ho base e i ht hi hz hz1 hz2 v xs hs hown A m c l hx h hlim hbase fun v' w' h2 h3 h4 => hK' _ _ (hK v' w' h2 h3 h4)

theorem below_make {w' : World} (hg : w.grownBy w' Option.none) : Below w.heap.size w w' := (Below.refl _ _).grown hg (Nat.le_refl _) (fun _ h => by cases h)

/-- Behind an append of the call's own, nothing below B has turned. -/
theorem below_own {B : Nat} {w0 w' : World} {e : TypeId} {v : Value} {xs : List Int} (hb : Below B w0 w) (hown : Owns w B e v xs) (hg : w.grownBy w' v.ownBlock) (hB : B ≤ w.heap.size) : Below B w0 w' :=
  hb.grown hg hB fun k hk => (hown.2.lt k hk).1
end
end Go.Proofs.Ytlmchoonokglaaa
