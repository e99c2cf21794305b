/-
  Texts of one sort, one behind the other: numbers, memory, regions, strings, headers. Conditions: those that each theorem states.
-/
import Derived.Test.YtodncamohimmmaaDelRound
import Derived.Test.YtodncamohimmmaaLow4
import Derived.Test.YtodncamohimmmaaLow2
import Derived.Laws.Rows
import Derived.Laws.Tables
import Derived.Laws.CopyRow
import Derived.Test.YtodncamohimmmaaChecked
import Derived.Carry
import Derived.Deep.Slices
import Derived.ChangeMaps5
import Derived.OpenShut
import Derived.SliceStrings
import Derived.Lib.SmallJoins
import Derived.SizedLaws

namespace Go.Proofs.Ytodncamohimmmaa
open Go.Lib Leb

structure Ev where
  kind : Int
  ses : Int
  tick : Int
  me : ByteArray
  url : ByteArray
  hs : List Hd
  body : ByteArray
  status : Int
  code : Int
  cred : Bool
  no : ByteArray
  n : Nat
def nil9 : ByteArray := ⟨#[]⟩
def zev : Ev := ⟨0, 0, 0, nil9, nil9, [], nil9, 0, 0, false, nil9, 0⟩

def BoundE (x : Ev) : Prop :=
  0 ≤ x.ses ∧ x.ses ≤ 1048576 ∧ 0 ≤ x.tick ∧ x.tick ≤ 1099511627776 ∧ x.me.size ≤ 512 ∧ x.no.size ≤ 512 ∧ x.url.size ≤ 2048 ∧ x.body.size ≤ 2048 ∧ x.hs.length ≤ 25 ∧ ∀ h ∈ x.hs, h.1.size ≤ 512 ∧ h.2.size ≤ 2048
def okCode (c : Int) : Prop := 0 ≤ c ∧ 1 ≤ c % 4 ∧ c % 4 ≤ 3 ∧ 1 ≤ c / 4 % 4 ∧ c / 4 % 4 ≤ 3 ∧ 1 ≤ c / 16 % 4 ∧ c / 16 % 4 ≤ 3 ∧ 1 ≤ c / 64 ∧ c / 64 ≤ 10
def bareE (x : Ev) : Prop := x.me = nil9 ∧ x.url = nil9 ∧ x.hs = [] ∧ x.body = nil9 ∧ x.cred = false ∧ x.no = nil9
def kindE (x : Ev) : Prop :=
  (x.kind = 1 ∧ okCode x.code ∧ x.status = 0 ∧ x.cred = false ∧ x.n = 0) ∨
  (x.kind = 2 ∧ (x.code = 1 ∨ x.code = 2) ∧ x.status = 0 ∧ x.no = nil9) ∨
  (x.kind = 3 ∧ (100 ≤ x.status ∧ x.status < 600) ∧ x.me = nil9 ∧ x.url = nil9 ∧ x.code = 0 ∧ x.cred = false ∧ x.no = nil9 ∧ x.n = 0) ∨
  (x.kind = 4 ∧ bareE x ∧ x.status = 0 ∧ x.code = 0 ∧ x.n = 0) ∨
  (x.kind = 5 ∧ bareE x ∧ x.status = 0 ∧ x.code = 0 ∧ x.n ≤ 1099511627776 ∧ x.ses = 0) ∨
  (x.kind = 6 ∧ bareE x ∧ x.status = 0 ∧ x.code = 0) ∨
  (x.kind = 7 ∧ bareE x ∧ (1 ≤ x.code ∧ x.code ≤ 16) ∧ (0 ≤ x.status ∧ x.status < 600) ∧ x.n = 0)
def GoodE (x : Ev) : Prop := BoundE x ∧ kindE x
instance (x : Ev) : Decidable (BoundE x) := by unfold BoundE; infer_instance
instance (c : Int) : Decidable (okCode c) := by unfold okCode; infer_instance
instance (x : Ev) : Decidable (bareE x) := by unfold bareE; infer_instance
instance (x : Ev) : Decidable (kindE x) := by unfold kindE; infer_instance
instance (x : Ev) : Decidable (GoodE x) := by unfold GoodE; infer_instance

theorem GoodE.kinds {x : Ev} (h : GoodE x) : x.kind = 1 ∨ x.kind = 2 ∨ x.kind = 3 ∨ x.kind = 4 ∨ x.kind = 5 ∨ x.kind = 6 ∨ x.kind = 7 := by
  rcases h.2 with h | h | h | h | h | h | h <;> simp [h.1]

structure Bk where
  tab : List (List UInt8)
  tick : Int
  look : Int → Bool → List Hd
def newB : Bk := ⟨[], 0, fun _ _ => []⟩
structure Bk.Ok (k : Bk) : Prop where
  one : k.tab.Nodup
  low : 0 ≤ k.tick
  high : k.tick ≤ 1099511627776
  few : ∀ s a, (k.look s a).length ≤ 25
  small : ∀ s a, ∀ h ∈ k.look s a, h.1.size ≤ 512 ∧ h.2.size ≤ 2048
  out : ∀ s a, (s < 0 ∨ 1048576 < s) → k.look s a = []

def fieldsE (x : Ev) : List Nat :=
  if x.kind = 1 then [x.code.toNat]
  else if x.kind = 2 then [x.code.toNat, if x.cred = true then 1 else 0, x.n]
  else if x.kind = 3 then [x.status.toNat]
  else if x.kind = 5 ∨ x.kind = 6 then [x.n]
  else if x.kind = 7 then [x.code.toNat, x.status.toNat]
  else []
def textsE (x : Ev) : List (List UInt8) :=
  if x.kind = 1 then [x.me.data.toList, x.url.data.toList, x.no.data.toList, x.body.data.toList]
  else if x.kind = 2 then [x.me.data.toList, x.url.data.toList, x.body.data.toList]
  else if x.kind = 3 then [x.body.data.toList]
  else []
def encs (l : List Nat) : List Int := l.flatMap enc
def numsE (k : Bk) (x : Ev) : List Nat := x.ses.toNat :: (x.tick - k.tick).toNat :: fieldsE x
def headB (k : Bk) (x : Ev) : List Int := if x.kind ≤ 3 then dputB (putsL k.tab (textsE x)) (k.look x.ses (decide (x.kind = 3))) x.hs else []
def headL (k : Bk) (x : Ev) : List (List UInt8) := if x.kind ≤ 3 then dputL (putsL k.tab (textsE x)) (k.look x.ses (decide (x.kind = 3))) x.hs else putsL k.tab (textsE x)
def encB (k : Bk) (x : Ev) : List Int := enc x.kind.toNat ++ (encs (numsE k x) ++ (putsB k.tab (textsE x) ++ headB k x))
def lookE (f : Int → Bool → List Hd) (x : Ev) : Int → Bool → List Hd := fun s a => if x.kind ≤ 3 ∧ s = x.ses ∧ a = decide (x.kind = 3) then x.hs else f s a
def tellE (k : Bk) (x : Ev) : Bk := ⟨headL k x, x.tick, lookE k.look x⟩

theorem Bk.Ok.new : newB.Ok := ⟨List.nodup_nil, Int.le_refl _, by simp [newB], by simp [newB], by simp [newB], by simp [newB]⟩
theorem Bk.Ok.tell {k : Bk} (h : k.Ok) {x : Ev} (hx : GoodE x) : (tellE k x).Ok := by
  obtain ⟨b1, b2, b3, b4, _, _, _, _, b9, b10⟩ := hx.1
  refine ⟨?_, b3, b4, fun s a => ?_, fun s a => ?_, fun s a hs => ?_⟩
  · show (headL k x).Nodup
    unfold headL
    split
    · exact putsL_nodup _ (putsL_nodup _ h.one _) _
    · exact putsL_nodup _ h.one _
  · show (lookE k.look x s a).length ≤ 25
    unfold lookE
    split
    · exact b9
    · exact h.few s a
  · show ∀ g ∈ lookE k.look x s a, _
    unfold lookE
    split
    · exact b10
    · exact h.small s a
  · show lookE k.look x s a = []
    unfold lookE
    split
    · rename_i hc
      omega
    · exact h.out s a hs

structure NS where
  l : List Nat
  q : Int
  e : Int
def nstep (X : List Int) (c : Bool) (s : NS) : NS :=
  if s.e ≠ 0 then s
  else if (take X s.q).2.2 ≠ 0 then ⟨s.l, 0, (take X s.q).2.2⟩
  else if c = true ∧ s.l.length = 3 ∧ 1 < (take X s.q).1 then ⟨s.l, 0, 4⟩
  else ⟨s.l ++ [(take X s.q).1], (take X s.q).2.1, 0⟩
def nsteps (X : List Int) (c : Bool) (s : NS) : Nat → NS
  | 0 => s
  | k + 1 => nstep X c (nsteps X c s k)
structure TS where
  l : List (List UInt8)
  q : Int
  e : Int
  t : List (List UInt8)
def tstep (X : List Int) (s : TS) : TS :=
  if s.e ≠ 0 then s
  else if (takeB s.t X s.q).2.2 ≠ 0 then ⟨s.l, 0, (takeB s.t X s.q).2.2, takeL s.t X s.q⟩
  else ⟨s.l ++ [(takeB s.t X s.q).1], (takeB s.t X s.q).2.1, 0, takeL s.t X s.q⟩
def tsteps (X : List Int) (s : TS) : Nat → TS
  | 0 => s
  | k + 1 => tstep X (tsteps X s k)
def manyN (n : Nat) : Nat := if n = 2 then 5 else if n = 4 then 2 else if n = 7 then 4 else 3
def manyT (n : Nat) : Nat := if n = 1 then 4 else if n = 2 then 3 else if n = 3 then 1 else 0
def text9 (l : List (List UInt8)) (i : Nat) : ByteArray := ⟨(l[i]?.getD []).toArray⟩
def num9 (l : List Nat) (i : Nat) : Nat := l[i]?.getD 0
def evOf (tick : Int) (n : Nat) (l : List Nat) (ts : List (List UInt8)) (hs : List Hd) : Ev :=
  if n = 1 then ⟨1, num9 l 0, tick + num9 l 1, text9 ts 0, text9 ts 1, hs, text9 ts 3, 0, num9 l 2, false, text9 ts 2, 0⟩
  else if n = 2 then ⟨2, num9 l 0, tick + num9 l 1, text9 ts 0, text9 ts 1, hs, text9 ts 2, 0, num9 l 2, decide (num9 l 3 = 1), nil9, num9 l 4⟩
  else if n = 3 then ⟨3, num9 l 0, tick + num9 l 1, nil9, nil9, hs, text9 ts 0, num9 l 2, 0, false, nil9, 0⟩
  else if n = 7 then ⟨7, num9 l 0, tick + num9 l 1, nil9, nil9, [], nil9, num9 l 3, num9 l 2, false, nil9, 0⟩
  else if n = 4 then ⟨4, num9 l 0, tick + num9 l 1, nil9, nil9, [], nil9, 0, 0, false, nil9, 0⟩
  else ⟨n, num9 l 0, tick + num9 l 1, nil9, nil9, [], nil9, 0, 0, false, nil9, num9 l 2⟩
abbrev TookE := (Ev × Int × Int) × Bk
def errE (k : Bk) (e : Int) : TookE := ((zev, 0, e), k)
def finE (k : Bk) (n : Nat) (l : List Nat) (ts : List (List UInt8)) (hs : List Hd) (q : Int) (t : List (List UInt8)) : TookE :=
  if GoodE (evOf k.tick n l ts hs) then ((evOf k.tick n l ts hs, q, 0), ⟨t, (evOf k.tick n l ts hs).tick, lookE k.look (evOf k.tick n l ts hs)⟩) else errE k 4
def htakeE (k : Bk) (n : Nat) (l : List Nat) (ts : List (List UInt8)) (d : (List Hd × Int × Int) × List (List UInt8)) : TookE :=
  if d.1.2.2 ≠ 0 then errE k d.1.2.2 else finE k n l ts d.1.1 d.1.2.1 d.2
def ttakeE (k : Bk) (X : List Int) (n : Nat) (l : List Nat) (s : TS) : TookE :=
  if s.e ≠ 0 then errE k s.e
  else if n ≤ 3 then htakeE k n l s.l (dtake s.t X s.q (k.look (num9 l 0) (decide (n = 3))))
  else finE k n l s.l [] s.q s.t
def ntakeE (k : Bk) (X : List Int) (n : Nat) (s : NS) : TookE :=
  if s.e ≠ 0 then errE k s.e else ttakeE k X n s.l (tsteps X ⟨[], s.q, 0, k.tab⟩ (manyT n))
def takeE (k : Bk) (X : List Int) (p : Int) : TookE :=
  if (take X p).2.2 ≠ 0 then errE k (take X p).2.2
  else if (take X p).1 < 1 ∨ 7 < (take X p).1 then errE k 4
  else ntakeE k X (take X p).1 (nsteps X (decide ((take X p).1 = 2)) ⟨[], (take X p).2.1, 0⟩ (manyN (take X p).1))

section
variable {X : List Int} {c : Bool} {s : NS} {a : Nat} {q e : Int}
theorem nstep_bad (h : s.e ≠ 0) : nstep X c s = s := if_pos h
theorem nstep_e (h : s.e = 0) (h1 : take X s.q = (a, q, e)) (he : e ≠ 0) : nstep X c s = ⟨s.l, 0, e⟩ := by
  unfold nstep
  rw [if_neg (fun h' => h' h), h1]
  exact if_pos he
theorem nstep_four (h : s.e = 0) (h1 : take X s.q = (a, q, 0)) (h2 : c = true ∧ s.l.length = 3 ∧ 1 < a) : nstep X c s = ⟨s.l, 0, 4⟩ := by
  unfold nstep
  rw [if_neg (fun h' => h' h), h1]
  simp only
  rw [if_neg (by simp)]
  exact if_pos h2
theorem nstep_ok (h : s.e = 0) (h1 : take X s.q = (a, q, 0)) (h2 : ¬ (c = true ∧ s.l.length = 3 ∧ 1 < a)) : nstep X c s = ⟨s.l ++ [a], q, 0⟩ := by
  unfold nstep
  rw [if_neg (fun h' => h' h), h1]
  simp only
  rw [if_neg (by simp)]
  exact if_neg h2
theorem nsteps_end {k n : Nat} (h : (nsteps X c s k).e ≠ 0) (hk : k ≤ n) : nsteps X c s n = nsteps X c s k := by
  obtain ⟨j, rfl⟩ : ∃ j, n = k + j := ⟨n - k, by omega⟩
  clear hk
  induction j with
  | zero => rfl
  | succ j ih =>
    show nstep X c (nsteps X c s (k + j)) = _
    rw [ih]
    exact if_pos h
end
section
variable {X : List Int} {s : TS} {x : List UInt8} {q e : Int} {t : List (List UInt8)}
theorem tstep_bad (h : s.e ≠ 0) : tstep X s = s := if_pos h
theorem tstep_e (h : s.e = 0) (h1 : takeB s.t X s.q = (x, q, e)) (ht : takeL s.t X s.q = t) (he : e ≠ 0) : tstep X s = ⟨s.l, 0, e, t⟩ := by
  unfold tstep
  rw [if_neg (fun h' => h' h), h1, ht]
  exact if_pos he
theorem tstep_ok (h : s.e = 0) (h1 : takeB s.t X s.q = (x, q, 0)) (ht : takeL s.t X s.q = t) : tstep X s = ⟨s.l ++ [x], q, 0, t⟩ := by
  unfold tstep
  rw [if_neg (fun h' => h' h), h1, ht]
  exact if_neg (by simp)
end
end Go.Proofs.Ytodncamohimmmaa

namespace Go.Proofs.Ytodncamohimmmaa
open Go.RowKit Go.Lib Leb

def ecell12 (x : Ev) (A : Option Addr) (m c : Nat) : Array Value := #[.int .i64 x.kind, .int .i64 x.ses, .int .i64 x.tick, .string x.me, .string x.url, .slice A m c, .string x.body, .int .i64 x.status, .int .i64 x.code, .bool x.cred, .string x.no, .int .u64 (x.n : Int)]
def evv (x : Ev) (A : Option Addr) (m c : Nat) : Value := .agg (ecell12 x A m c)

structure EvAt (w : World) (b : Nat) (x : Ev) (A : Option Addr) (m c : Nat) : Prop where
  c0 : w.cell? ⟨b, 0, Option.none⟩ = some (.int .i64 x.kind)
  c1 : w.cell? ⟨b, 1, Option.none⟩ = some (.int .i64 x.ses)
  c2 : w.cell? ⟨b, 2, Option.none⟩ = some (.int .i64 x.tick)
  c3 : w.cell? ⟨b, 3, Option.none⟩ = some (.string x.me)
  c4 : w.cell? ⟨b, 4, Option.none⟩ = some (.string x.url)
  c5 : w.cell? ⟨b, 5, Option.none⟩ = some (.slice A m c)
  c6 : w.cell? ⟨b, 6, Option.none⟩ = some (.string x.body)
  c7 : w.cell? ⟨b, 7, Option.none⟩ = some (.int .i64 x.status)
  c8 : w.cell? ⟨b, 8, Option.none⟩ = some (.int .i64 x.code)
  c9 : w.cell? ⟨b, 9, Option.none⟩ = some (.bool x.cred)
  c10 : w.cell? ⟨b, 10, Option.none⟩ = some (.string x.no)
  c11 : w.cell? ⟨b, 11, Option.none⟩ = some (.int .u64 (x.n : Int))
theorem EvAt.row {w : World} {b : Nat} {x : Ev} {A : Option Addr} {m c : Nat} {t : TypeId} {q : Nat × Nat} (h : w.heap[b]? = some (.cells (ecell12 x A m c) t q)) : EvAt w b x A m c := by
  constructor <;> (rw [cell_of_row w b _ _ _ _ h]; rfl)
theorem EvAt.later {w w' : World} {b : Nat} {x : Ev} {A : Option Addr} {m c : Nat} (h : EvAt w b x A m c) (hb : Below w.heap.size w w') : EvAt w' b x A m c :=
  ⟨cell_later hb h.c0, cell_later hb h.c1, cell_later hb h.c2, cell_later hb h.c3, cell_later hb h.c4, cell_later hb h.c5, cell_later hb h.c6, cell_later hb h.c7, cell_later hb h.c8, cell_later hb h.c9, cell_later hb h.c10, cell_later hb h.c11⟩
theorem evAt_new (w : World) (x : Ev) (A : Option Addr) (m c : Nat) (t : TypeId) : EvAt (w.alloc (.cells (ecell12 x A m c) t)) w.heap.size x A m c := EvAt.row (heap_alloc_new w _)
theorem two_boxes (w : World) (x y : Ev) (A B : Option Addr) (m c n d : Nat) (t t' : TypeId) (W' : World) (hb : Below ((w.alloc (.cells (ecell12 x A m c) t)).alloc (.cells (ecell12 y B n d) t')).heap.size ((w.alloc (.cells (ecell12 x A m c) t)).alloc (.cells (ecell12 y B n d) t')) W') :
    EvAt W' w.heap.size x A m c ∧ EvAt W' (w.heap.size + 1) y B n d ∧ Below w.heap.size w W' := by
  refine ⟨((evAt_new w x A m c t).later (below_box _ _)).later hb, ?_, below_then (below_then (below_box _ _) (below_box _ _)) hb⟩
  have h := evAt_new (w.alloc (.cells (ecell12 x A m c) t)) y B n d t'
  simp only [World.size_alloc] at h
  exact h.later hb
end Go.Proofs.Ytodncamohimmmaa

namespace Go.Proofs.Ytodncamohimmmaa
open Go.RowKit Go.Lib Leb

structure ReqAt (w : World) (g : Nat) (x0 x1 x6 x8 : ByteArray) (x2 x3 x4 x5 : Int) (A : Option Addr) (m c : Nat) : Prop where
  c0 : w.cell? ⟨g, 0, Option.none⟩ = some (.string x0)
  c1 : w.cell? ⟨g, 1, Option.none⟩ = some (.string x1)
  c2 : w.cell? ⟨g, 2, Option.none⟩ = some (.int .i64 x2)
  c3 : w.cell? ⟨g, 3, Option.none⟩ = some (.int .i64 x3)
  c4 : w.cell? ⟨g, 4, Option.none⟩ = some (.int .i64 x4)
  c5 : w.cell? ⟨g, 5, Option.none⟩ = some (.int .i64 x5)
  c6 : w.cell? ⟨g, 6, Option.none⟩ = some (.string x6)
  c7 : w.cell? ⟨g, 7, Option.none⟩ = some (.slice A m c)
  c8 : w.cell? ⟨g, 8, Option.none⟩ = some (.string x8)
def reqv (x0 x1 x6 x8 : ByteArray) (x2 x3 x4 x5 : Int) (A : Option Addr) (m c : Nat) : Value := .agg #[.string x0, .string x1, .int .i64 x2, .int .i64 x3, .int .i64 x4, .int .i64 x5, .string x6, .slice A m c, .string x8]
set_option maxHeartbeats 8000000 in
set_option maxRecDepth 100000 in
theorem req_result {tmps : Array Value} {w : World} {g : Nat} {x0 x1 x6 x8 : ByteArray} {x2 x3 x4 x5 : Int} {A : Option Addr} {m c : Nat} (hp : tmps.getD 2 undef = .pointer (some ⟨g, 0, Option.none⟩)) (h : ReqAt w g x0 x1 x6 x8 x2 x3 x4 x5 A m c) :
    (results Try.f23 tmps).run Try.prog w = .ok (reqv x0 x1 x6 x8 x2 x3 x4 x5 A m c) w := by
  obtain ⟨h0, h1, h2, h3, h4, h5, h6, h7, h8⟩ := h
  have hr : Try.f23.results = #[.cell 2 27] := rfl
  unfold reqv
  rw [Array.getD_eq_getD_getElem?] at hp
  simp only [results, hr]
  simp [go_sem, hp, h0, h1, h2, h3, h4, h5, h6, h7, h8]

set_option maxHeartbeats 8000000 in
set_option maxRecDepth 100000 in
theorem refRequest_any (x : Ev) (A : Option Addr) (m c : Nat) (w : World) (h0 : 0 ≤ x.code) (h1 : x.code ≤ 9223372036854775807) :
    Calls Try.prog 23 #[evv x A m c] w fun e w' => e = .returned (reqv x.me x.url x.no x.body (x.code % 4) (x.code / 4 % 4) (x.code / 16 % 4) (x.code / 64) A m c) ∧ Below w.heap.size w w' := by
  obtain ⟨kind, ses, tick, me, url, hs, body, status, code, cred, no, k⟩ := x
  unfold evv
  unfold ecell12 at *
  simp only at *
  have e4 : wrap64 (code.tdiv 4) = code / 4 := by rw [Int.tdiv_eq_ediv_of_nonneg h0, wrap_int (by omega) (by omega)]
  have e16 : wrap64 (code.tdiv 16) = code / 16 := by rw [Int.tdiv_eq_ediv_of_nonneg h0, wrap_int (by omega) (by omega)]
  have e64 : wrap64 (code.tdiv 64) = code / 64 := by rw [Int.tdiv_eq_ediv_of_nonneg h0, wrap_int (by omega) (by omega)]
  have m1 : (code / 4).tmod 4 = code / 4 % 4 := Int.tmod_eq_emod_of_nonneg (by omega)
  have m2 : (code / 16).tmod 4 = code / 16 % 4 := Int.tmod_eq_emod_of_nonneg (by omega)
  have m0 : code.tmod 4 = code % 4 := Int.tmod_eq_emod_of_nonneg h0
  clear h1
  go_enter Try.func23, Try.ntmps23
  go_wp2
  refine bodyPost_ret (req_result (g := w.heap.size + 1) rfl ?_) rfl ⟨rfl, below_then (below_box _ _) (below_box _ _)⟩
  have hrow := heap_alloc_new (w.alloc (.cells #[.int .i64 kind, .int .i64 ses, .int .i64 tick, .string me, .string url, .slice A m c, .string body, .int .i64 status, .int .i64 code, .bool cred, .string no, .int .u64 (k : Int)] 25)) (.cells #[.string me, .string url, .int .i64 (code % 4), .int .i64 (code / 4 % 4), .int .i64 (code / 16 % 4), .int .i64 (code / 64), .string no, .slice A m c, .string body] 27)
  simp only [World.size_alloc] at hrow
  constructor <;> (rw [cell_of_row _ _ _ _ _ _ hrow]; rfl)
end Go.Proofs.Ytodncamohimmmaa

namespace Go.Proofs.Ytodncamohimmmaa
open Go.RowKit Go.Lib

theorem wpList_load_rowP {P : Program} {ops : Array Oper} {rest : List Oper} {a : Act} {w : World} {Q : Exit → Act → World → Prop} {dst : Option Tmp} {ty t0 : TypeId} {x : Operand} {pos : String} {after : Array Edge} {i : Nat} {yes : Bool}
    (hw : Region.wanted { dst := dst, op := .load ty x, type := t0, pos := pos, after := after, guard := some (i, yes) } (yielded ops a.tmps) = true)
    (g : Nat) (hx : a.eval x = .pointer (some ⟨g, 0, Option.none⟩)) (t : TypeId) (cs : Array Value) (fr : Nat × Nat) (d : TypeDesc) (hg : w.heap[g]? = some (.cells cs t fr))
    (hu : P.underlying ty = some d) (hd : (match d with | .struct _ | .array _ _ => true | _ => false) = true) (hi : (P.info? ty).map (·.size) = some cs.size)
    (h : wpList P ops Q rest (a.put dst (.agg cs)) w) : wpList P ops Q ({ dst := dst, op := .load ty x, type := t0, pos := pos, after := after, guard := some (i, yes) } :: rest) a w :=
  wpList_step fun K hK => by rw [if_pos hw]; exact wp_load_row ty x rfl g hx t cs fr d hg hu hd hi (hK _ _ h)
theorem run_storeVar_at {P : Program} (w : World) (g off : Nat) (t ty : TypeId) (old new : Array Value) (u : Value) (vs : Array Value) (hv : u.cells = vs) (hg : w.heap[g]? = some (.cells old t (0, 0))) (hi : (P.info? ty).map (·.size) = some vs.size)
    (hnew : new = (old.toList.take off ++ vs.toList ++ old.toList.drop (off + vs.size)).toArray) (hl : off + vs.size ≤ old.size) (h1 : vs.all (·.oneCell') = true) :
    (storeVar ty ⟨g, off, Option.none⟩ u).run P w = .ok () (w.setRow g new) := by
  have := run_storeCells_at (P := P) g off t vs.toList 0 old w hg (by simpa using hl) (fun v hv => (Array.all_eq_true_iff_forall_mem.1 h1) v (by simpa using hv))
  simp only [Nat.add_zero, Array.length_toList] at this
  rw [← hnew] at this
  cases hq : P.info? ty with
  | none => simp [hq] at hi
  | some i =>
    have hs : vs.size = i.size := by simp [hq] at hi; omega
    simp [storeVar, sizeOf, typeInfo, hq, hv, hs, this]
theorem wpList_store_at {P : Program} {ops : Array Oper} {rest : List Oper} {o : Oper} {a : Act} {w : World} {Q : Exit → Act → World → Prop} (hgd : o.guard = Option.none) (ty : TypeId) (x y : Operand) (ho : o.op = .store ty x y)
    (g off : Nat) (u : Value) (hx : a.eval x = .pointer (some ⟨g, off, Option.none⟩)) (hy : a.eval y = u) (vs : Array Value) (hv : u.cells = vs)
    (t : TypeId) (old new : Array Value) (hg : w.heap[g]? = some (.cells old t (0, 0))) (hi : (P.info? ty).map (·.size) = some vs.size)
    (hnew : new = (old.toList.take off ++ vs.toList ++ old.toList.drop (off + vs.size)).toArray) (hl : off + vs.size ≤ old.size) (h1 : vs.all (·.oneCell') = true)
    (h : wpList P ops Q rest (a.put o.dst undef) (w.setRow g new)) : wpList P ops Q (o :: rest) a w :=
  wpList_plain hgd fun _ hK => by
    unfold Oper.wp execOp
    simp only [ho, hx, hy, Instr.storeAt, Instr.sureAddr, Sem.run_bind, Sem.run_pure, Result.andThen_ok, run_storeVar_at w g off t ty old new u vs hv hg hi hnew hl h1]
    exact hK _ _ h
theorem infoEvP : (Try.prog.info? 25).map (·.size) = some 12 := by kernel_rfl
theorem undEvP : ∃ fs, Try.prog.underlying 25 = some (.struct fs) := ⟨_, Try.underlying25⟩
end Go.Proofs.Ytodncamohimmmaa

namespace Go.Proofs.Ytodncamohimmmaa
open Go.Lib Leb

def badN (n : Nat) (l : List Nat) : Prop := 1048576 < num9 l 0 ∨ 1099511627776 < num9 l 1 ∨ (n ≠ 2 ∧ n ≠ 5 ∧ n ≠ 6 ∧ ∃ i, 2 ≤ i ∧ i < l.length ∧ 1048576 < num9 l i) ∨ (n = 2 ∧ 2 < num9 l 2)
theorem good_small {tick : Int} (ht : 0 ≤ tick) {n : Nat} {l : List Nat} {ts : List (List UInt8)} {hs : List Hd} (hn : 1 ≤ n ∧ n ≤ 7) (hl : l.length = manyN n) (h : GoodE (evOf tick n l ts hs)) : ¬ badN n l := by
  obtain ⟨b1, b2, b3, b4, _⟩ := h.1
  have hk := h.2
  have hcase : n = 1 ∨ n = 2 ∨ n = 3 ∨ n = 4 ∨ n = 5 ∨ n = 6 ∨ n = 7 := by omega
  intro hb
  rcases hcase with rfl | rfl | rfl | rfl | rfl | rfl | rfl
  all_goals
    simp only [evOf, manyN] at b1 b2 b3 b4 hk hl
    simp at b1 b2 b3 b4 hk hl
    unfold badN at hb
    simp at hb
  · simp [kindE, okCode] at hk
    rcases hb with hb | hb | ⟨i, h1, h2, h3⟩
    · omega
    · omega
    · have : i = 2 := by omega
      subst this
      omega
  · simp [kindE] at hk
    omega
  · simp [kindE] at hk
    rcases hb with hb | hb | ⟨i, h1, h2, h3⟩
    · omega
    · omega
    · have : i = 2 := by omega
      subst this
      omega
  · rcases hb with hb | hb | ⟨i, h1, h2, h3⟩
    · omega
    · omega
    · omega
  · omega
  · omega
  · simp [kindE] at hk
    rcases hb with hb | hb | ⟨i, h1, h2, h3⟩
    · omega
    · omega
    · have : i = 2 ∨ i = 3 := by omega
      rcases this with rfl | rfl
      · omega
      · omega
end Go.Proofs.Ytodncamohimmmaa

namespace Go.Proofs.Ytodncamohimmmaa
open Go.RowKit Go.Deep Go.ChangeShapes Go.WideShapes

theorem Try.laidOut9 : laidOutB Try.prog = true := by kernel_rfl
end Go.Proofs.Ytodncamohimmmaa

namespace Go.Proofs.Ytodncamohimmmaa
open Go.RowKit Go.Lib Go.Deep Go.ChangeShapes Go.WideShapes Go.Joins
open Go.ChangeMaps (open_string)


section
variable {H : Type} {enc : TypeId × Value → H} {W : World}

def dHd (h : Hd) : DataW H := .agg [.lit (.string h.1.data.toList), .lit (.string h.2.data.toList)]

set_option maxRecDepth 100000 in
theorem hd_cells {fuel : Nat} {cs : List Value} {x : DataW H × List MemPlace} (h : DataW.trod enc Try.prog W 0 (fun _ => true) true fuel 59 cs = some x) :
    ∃ q : Hd, cs = [.string q.1, .string q.2] ∧ x.1 = dHd q := by
  obtain ⟨y0, y1, n, rfl, hl, h0, h1⟩ := trod_struct2 Try.underlying59 h
  have hc : Try.prog.cellsOf 59 = 2 := by kernel_rfl
  have hc9 : Try.prog.cellsOf 9 = 1 := by kernel_rfl
  rw [hc] at hl
  match cs, hl with
  | [c0, c1], _ =>
    obtain ⟨s0, e0, rfl, _⟩ := DataW.trod_string Try.underlying9 h0
    obtain ⟨s1, e1, rfl, _⟩ := DataW.trod_string Try.underlying9 h1
    have e0' : [c0] = [Value.string s0] := e0
    have e1' : [c1] = [Value.string s1] := e1
    refine ⟨(s0, s1), ?_, rfl⟩
    simp only [List.cons.injEq, and_true] at e0' e1'
    rw [e0', e1']

set_option maxRecDepth 100000 in
theorem open_hds0 {A : Option Addr} {n c : Nat} {d : DataW H} {p : List MemPlace} (h : DataW.Trod enc Try.prog W 0 (fun _ => true) true 22 (.slice A n c) d p) :
    ∃ A' n' c' l, Value.slice A n c = .slice A' n' c' ∧ Hds W A' n' c' l ∧ ((d = .nil ∧ l = []) ∨ ∃ sp, d = .slice (l.map dHd) sp) := by
  obtain ⟨fuel, hf⟩ := h
  have hc : Try.prog.cellsOf 59 = 2 := by kernel_rfl
  rcases open_slice Try.underlying22 hf with ⟨e, hx⟩ | ⟨a, len, cap, m, k, D, Pl, e, _, hl, hm, hmm, hx, hi⟩
  · simp [Value.cells] at e
    obtain ⟨rfl, rfl, rfl⟩ := e
    injection hx with hx _
    exact ⟨_, _, _, [], rfl, hds_empty W _ _ (Nat.zero_le _) (fun _ => rfl), .inl ⟨hx, rfl⟩⟩
  · simp [Value.cells] at e
    obtain ⟨rfl, rfl, rfl⟩ := e
    simp only [if_true] at hmm
    subst hmm
    have key : ∀ i, ∃ q : Hd, i < m → W.cell? (a.add (i * 2)) = some (.string q.1) ∧ W.cell? (a.add (i * 2 + 1)) = some (.string q.2) ∧ D i = dHd q := fun i => by
      by_cases him : i < m
      · obtain ⟨cs, hcs, ht⟩ := hi i him
        rw [hc] at hcs
        obtain ⟨q, rfl, hd⟩ := hd_cells ht
        obtain ⟨_, _, hat⟩ := World.cells?_some hcs
        refine ⟨q, fun _ => ⟨?_, ?_, hd⟩⟩
        · have := hat 0 (by omega)
          simpa [add_add] using this
        · have := hat 1 (by omega)
          simpa [add_add] using this
      · exact ⟨(ByteArray.empty, ByteArray.empty), fun h => absurd h him⟩
    obtain ⟨X, hX⟩ := Classical.axiomOfChoice key
    injection hx with hx _
    refine ⟨_, n, _, (List.range n).map X, rfl, ⟨by simp, hl, hm, (fun e => by cases e), fun hp => ?_⟩, .inr ⟨_, hx.trans (congrArg (fun l => DataW.slice l _) ?_)⟩⟩
    · obtain ⟨b, off, spot⟩ := a
      have h0 := (hX 0 (by omega)).1
      have hs : spot = Option.none := by simpa [Addr.add] using World.cell?_spot h0
      subst hs
      refine ⟨b, off, rfl, World.block_lt_of_cell? W _ h0, fun j hj => ?_⟩
      have hj2 : j / 2 < ((List.range n).map X).length := by simp; omega
      have hat := hcells_at hj2
      have hXj := hX (j / 2) (by omega)
      simp only [addr_add, List.getElem_map, List.getElem_range] at hat hXj
      rcases (show j = j / 2 * 2 ∨ j = j / 2 * 2 + 1 by omega) with e | e
      · rw [← e] at hat hXj
        rw [hat.1]
        exact hXj.1
      · rw [← e] at hat hXj
        rw [hat.2]
        exact hXj.2.1
    · rw [List.map_map]
      apply List.map_congr_left
      intro i hi
      rw [List.mem_range] at hi
      exact (hX i (by omega)).2.2

end
end Go.Proofs.Ytodncamohimmmaa

namespace Go.Proofs.Ytodncamohimmmaa
open Go.RowKit Go.Lib Go.Deep Go.ChangeShapes Go.WideShapes Go.Joins
open Go.ChangeMaps (open_string)

def SixE (n : Int) : Prop := -9223372036854775808 ≤ n ∧ n ≤ 9223372036854775807
def Six12 (x : Ev) : Prop := SixE x.kind ∧ SixE x.ses ∧ SixE x.tick ∧ SixE x.status ∧ SixE x.code ∧ x.n < 18446744073709551616
structure Eva where
  ev : Ev
  A : Option Addr
  m : Nat
  c : Nat
def acell (q : Eva) : List Value := (ecell12 q.ev q.A q.m q.c).toList
structure Evs (w : World) (A : Option Addr) (n c : Nat) (l : List Eva) : Prop where
  len : l.length = n
  cap : n ≤ c
  room : c ≤ maxLen
  bare : A = Option.none → c = 0
  cell : 0 < n → ∃ b off, A = some ⟨b, off, Option.none⟩ ∧ b < w.heap.size ∧ ∀ j (hj : j < l.length) i, i < 12 → w.cell? ⟨b, off + j * 12 + i, Option.none⟩ = (acell l[j])[i]?
  hds : ∀ q ∈ l, Hds w q.A q.m q.c q.ev.hs
theorem Evs.later {w w' : World} {A : Option Addr} {n c : Nat} {l : List Eva} (h : Evs w A n c l) (hb : Below w.heap.size w w') : Evs w' A n c l :=
  ⟨h.len, h.cap, h.room, h.bare, fun hn => by
    obtain ⟨b, off, e, hlt, hc⟩ := h.cell hn
    refine ⟨b, off, e, Nat.lt_of_lt_of_le hlt hb.size, fun j hj i hi => ?_⟩
    rw [← hc j hj i hi]
    exact hb.cell (p := ⟨b, off + j * 12 + i, Option.none⟩) hlt, fun q hq => (h.hds q hq).later hb⟩

section
variable {H : Type} {enc : TypeId × Value → H} {W : World}
set_option maxRecDepth 100000 in
theorem ev_cells {fuel : Nat} {cs : List Value} {x : DataW H × List MemPlace} (h : DataW.trod enc Try.prog W 0 (fun _ => true) true fuel 25 cs = some x) :
    ∃ q : Eva, cs = acell q ∧ Hds W q.A q.m q.c q.ev.hs ∧ Six12 q.ev := by
  obtain ⟨xs, n, _, rfl, hl, hlen, hg⟩ := DataW.trod_struct Try.underlying25 h
  have hc : Try.prog.cellsOf 25 = 12 := by kernel_rfl
  have hc9 : Try.prog.cellsOf 9 = 1 := by kernel_rfl
  have hc4 : Try.prog.cellsOf 4 = 1 := by kernel_rfl
  have hc3 : Try.prog.cellsOf 3 = 1 := by kernel_rfl
  have hch : Try.prog.cellsOf 22 = 1 := by kernel_rfl
  have hcu : Try.prog.cellsOf 23 = 1 := by kernel_rfl
  rw [hc] at hl
  match cs, hl with
  | [c0, c1, c2, c3, c4, c5, c6, c7, c8, c9, c10, c11], _ =>
    match xs, hlen with
    | [y0, y1, y2, y3, y4, y5, y6, y7, y8, y9, y10, y11], _ =>
      have h0 := hg 0 _ rfl
      have h1 := hg 1 _ rfl
      have h2 := hg 2 _ rfl
      have h3 := hg 3 _ rfl
      have h4 := hg 4 _ rfl
      have h5 := hg 5 _ rfl
      have h6 := hg 6 _ rfl
      have h7 := hg 7 _ rfl
      have h8 := hg 8 _ rfl
      have h9 := hg 9 _ rfl
      have h10 := hg 10 _ rfl
      have h11 := hg 11 _ rfl
      simp [hc9, hc4, hc3, hch, hcu] at h0 h1 h2 h3 h4 h5 h6 h7 h8 h9 h10 h11
      obtain ⟨k0, e0, rfl, w0⟩ := DataW.trod_int Try.underlying3 h0
      obtain ⟨k1, e1, rfl, w1⟩ := DataW.trod_int Try.underlying3 h1
      obtain ⟨k2, e2, rfl, w2⟩ := DataW.trod_int Try.underlying3 h2
      obtain ⟨s3, e3, rfl, _⟩ := DataW.trod_string Try.underlying9 h3
      obtain ⟨s4, e4, rfl, _⟩ := DataW.trod_string Try.underlying9 h4
      obtain ⟨s6, e6, rfl, _⟩ := DataW.trod_string Try.underlying9 h6
      obtain ⟨k7, e7, rfl, w7⟩ := DataW.trod_int Try.underlying3 h7
      obtain ⟨k8, e8, rfl, w8⟩ := DataW.trod_int Try.underlying3 h8
      obtain ⟨b9, e9, rfl⟩ := DataW.trod_bool Try.underlying4 h9
      obtain ⟨s10, e10, rfl, _⟩ := DataW.trod_string Try.underlying9 h10
      obtain ⟨k11, e11, rfl, w11⟩ := DataW.trod_int Try.underlying23 h11
      simp only [List.cons.injEq, and_true] at e0 e1 e2 e3 e4 e6 e7 e8 e9 e10 e11
      have hs : ∃ A n c, c5 = .slice A n c := by
        rcases open_slice Try.underlying22 h5 with ⟨e, _⟩ | ⟨a, len, cap, _, _, _, _, e, _⟩
        · exact ⟨_, _, _, by simpa using e⟩
        · exact ⟨_, _, _, by simpa using e⟩
      obtain ⟨A, m, c, rfl⟩ := hs
      obtain ⟨dh, ph⟩ := y5
      obtain ⟨A', m', c', l, e, hH, _⟩ := open_hds0 (A := A) (n := m) (c := c) (d := dh) (p := ph) ⟨n, by simpa [Value.cells] using h5⟩
      injection e with f1 f2 f3
      subst f1 f2 f3
      have u0 := bounds_i64 w0
      have u1 := bounds_i64 w1
      have u2 := bounds_i64 w2
      have u7 := bounds_i64 w7
      have u8 := bounds_i64 w8
      have u11 := bounds_u64 w11
      have hk : ((k11.toNat : Nat) : Int) = k11 := by omega
      refine ⟨⟨⟨k0, k1, k2, s3, s4, l, s6, k7, k8, b9, s10, k11.toNat⟩, A, m, c⟩, ?_, hH, ⟨by simp only; omega, by simp only; omega⟩, ⟨by simp only; omega, by simp only; omega⟩, ⟨by simp only; omega, by simp only; omega⟩, ⟨by simp only; omega, by simp only; omega⟩, ⟨by simp only; omega, by simp only; omega⟩, by simp only; omega⟩
      unfold acell ecell12
      simp only
      rw [hk, e0, e1, e2, e3, e4, e6, e7, e8, e9, e10, e11]

set_option maxRecDepth 100000 in
theorem open_ev {base : Nat} {v : Value} {d : DataW H} {p : List MemPlace} (hval : Value.okWide Try.prog W .any base 25 v) (h : DataW.Trod enc Try.prog W 0 (fun _ => true) true 25 v d p) :
    ∃ q : Eva, v = evv q.ev q.A q.m q.c ∧ Hds W q.A q.m q.c q.ev.hs ∧ Six12 q.ev := by
  obtain ⟨cs, rfl, _⟩ := okWide_struct Try.underlying25 hval
  obtain ⟨fuel, hf⟩ := h
  obtain ⟨q, hq, hd, hs⟩ := ev_cells hf
  refine ⟨q, ?_, hd, hs⟩
  have : cs = ecell12 q.ev q.A q.m q.c := by
    apply Array.toList_inj.1
    simpa [Value.cells, acell] using hq
  rw [this]
  rfl

set_option maxRecDepth 100000 in
theorem open_evs {base : Nat} {v : Value} {d : DataW H} {p : List MemPlace} (hval : Value.okWide Try.prog W .any base 38 v) (h : DataW.Trod enc Try.prog W 0 (fun _ => true) true 38 v d p) :
    ∃ A n c l, v = .slice A n c ∧ Evs W A n c l ∧ ∀ q ∈ l, Six12 q.ev := by
  obtain ⟨A, n, c, rfl⟩ := okWide_slice Try.underlying38 hval
  obtain ⟨fuel, hf⟩ := h
  have hc : Try.prog.cellsOf 25 = 12 := by kernel_rfl
  rcases open_slice Try.underlying38 hf with ⟨e, hx⟩ | ⟨a, len, cap, m, k, D, Pl, e, _, hl, hm, hmm, hx, hi⟩
  · simp [Value.cells] at e
    obtain ⟨rfl, rfl, rfl⟩ := e
    exact ⟨_, _, _, [], rfl, ⟨rfl, Nat.zero_le _, Nat.zero_le _, fun _ => rfl, fun h => absurd h (by omega), fun q hq => by cases hq⟩, fun q hq => by cases hq⟩
  · simp [Value.cells] at e
    obtain ⟨rfl, rfl, rfl⟩ := e
    simp only [if_true] at hmm
    subst hmm
    have key : ∀ i, ∃ q : Eva, i < m → (∀ j, j < 12 → W.cell? (a.add (i * 12 + j)) = (acell q)[j]?) ∧ Hds W q.A q.m q.c q.ev.hs ∧ Six12 q.ev := fun i => by
      by_cases him : i < m
      · obtain ⟨cs, hcs, ht⟩ := hi i him
        rw [hc] at hcs
        obtain ⟨q, rfl, hd, hq⟩ := ev_cells ht
        obtain ⟨_, _, hat⟩ := World.cells?_some hcs
        refine ⟨q, fun _ => ⟨fun j hj => ?_, hd, hq⟩⟩
        have := hat j (by omega)
        simpa [add_add] using this
      · exact ⟨⟨zev, Option.none, 0, 0⟩, fun h => absurd h him⟩
    obtain ⟨X, hX⟩ := Classical.axiomOfChoice key
    refine ⟨_, n, _, (List.range n).map X, rfl, ⟨by simp, hl, hm, (fun e => by cases e), fun hp => ?_, fun q hq => ?_⟩, fun q hq => ?_⟩
    · obtain ⟨b, off, spot⟩ := a
      have h0 : W.cell? (Addr.add ⟨b, off, spot⟩ (0 * 12 + 0)) = some _ := (hX 0 (by omega)).1 0 (by omega)
      have hs : spot = Option.none := by simpa [Addr.add] using World.cell?_spot h0
      subst hs
      refine ⟨b, off, rfl, World.block_lt_of_cell? W _ h0, fun j hj i hi => ?_⟩
      have hj' : j < n := by simpa using hj
      have hXj := (hX j (by omega)).1 i hi
      simp only [addr_add, List.getElem_map, List.getElem_range] at hXj ⊢
      rw [Nat.add_assoc]
      exact hXj
    · obtain ⟨i, hi, rfl⟩ := List.mem_map.1 hq
      rw [List.mem_range] at hi
      exact (hX i (by omega)).2.1
    · obtain ⟨i, hi, rfl⟩ := List.mem_map.1 hq
      rw [List.mem_range] at hi
      exact (hX i (by omega)).2.2
end
end Go.Proofs.Ytodncamohimmmaa
