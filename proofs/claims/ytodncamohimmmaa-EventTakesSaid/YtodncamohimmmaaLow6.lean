/-
  Texts of one sort, one behind the other: numbers, memory, regions, strings, headers. Conditions: those that each theorem states.
-/
import Derived.Test.YtodncamohimmmaaLow12
import Derived.Test.YtodncamohimmmaaLow3
import Derived.Test.YtodncamohimmmaaLow2
import Derived.Laws.Rows
import Derived.Test.YtodncamohimmmaaEvRefPut

namespace Go.Proofs.Ytodncamohimmmaa
open Go.RowKit Go.Lib Leb

set_option maxHeartbeats 4000000 in
set_option maxRecDepth 100000 in
theorem refNewE_any (w : World) : Calls Try.prog 15 #[] w fun e w' => ∃ b t T0, e = .returned (.pointer (some ⟨b, 0, Option.none⟩)) ∧ RBk w' b t T0 (.slice Option.none 0 0) [] [] 0 ∧ (∀ k, inB b T0 (.slice Option.none 0 0) k → w.heap.size ≤ k) ∧ Below w.heap.size w w' := by
  have h1 := newR w w.heap.size rfl
  have hb1 := below_box w (.cells #[.slice Option.none 0 0] 70)
  have hb2 := below_box (w.alloc (.cells #[.slice Option.none 0 0] 70)) (.cells #[.pointer (some ⟨w.heap.size, 0, Option.none⟩), .int .i64 0, .slice Option.none 0 0] 73)
  have hrow := heap_alloc_new (w.alloc (.cells #[.slice Option.none 0 0] 70)) (.cells #[.pointer (some ⟨w.heap.size, 0, Option.none⟩), .int .i64 0, .slice Option.none 0 0] 73)
  simp only [World.size_alloc] at hrow
  have h2 := Lib.hid (h1.later hb2)
  have hb := Lib.hid (below_then hb1 hb2)
  have hrow' := Lib.hid hrow
  clear h1 hb1 hb2 hrow
  go_enter Try.func15, Try.ntmps15
  go_wp2
  go_ret
  refine ⟨w.heap.size + 1, w.heap.size, fun k => k = w.heap.size, rfl, ⟨hrow'.out, h2.out, World.ownsRow_nil _ _ _ _, by omega, by simp [Value.ownBlock], by simp [Value.ownBlock], by simp⟩, fun k hk => ?_, hb.out⟩
  rcases hk with hk | hk | hk
  · omega
  · omega
  · simp [Value.ownBlock] at hk
end Go.Proofs.Ytodncamohimmmaa

namespace Go.Proofs.Ytodncamohimmmaa
open Go.RowKit Go.Lib Leb

def cutE (x : Ev) : Ev := { x with hs := x.hs.take 30 }
def GivesE (w : World) (y : Ev) (e : Ending) (w' : World) : Prop := ∃ A m c, e = .returned (evv y A m c) ∧ Hds w' A m c y.hs ∧ Below w.heap.size w w'

theorem infoEv : (Try.prog.info? 25).map (·.size) = some 12 := by kernel_rfl
theorem cut_result {tmps : Array Value} {w : World} {g : Nat} {cs : Array Value} (hp : tmps.getD 2 undef = .pointer (some ⟨g, 0, Option.none⟩)) (hg : w.heap[g]? = some (.cells cs 25 (0, 0))) (hs : cs.size = 12) :
    (results Try.f8 tmps).run Try.prog w = .ok (.agg cs) w :=
  results_cell_row (fn := Try.f8) (p := 2) (ty := 25) rfl tmps w g 25 cs (0, 0) (.struct _) hp hg Try.underlying25 rfl (by rw [hs]; exact infoEv)

set_option maxHeartbeats 8000000 in
set_option maxRecDepth 100000 in
theorem cutE_any (x : Ev) (A : Option Addr) (m c : Nat) (w : World) (ha : Hds w A m c x.hs) : Calls Try.prog 8 #[evv x A m c] w (GivesE w (cutE x)) := by
  have ha' := Lib.hid ha
  have hroom := ha.room
  have hcap := ha.cap
  have hlen := Lib.hid ha.len
  have hbare := Lib.hid ha.bare
  obtain ⟨kind, ses, tick, me, url, hs, body, status, code, cred, no, k⟩ := x
  unfold evv
  unfold ecell12
  simp only at *
  clear ha
  by_cases hm : 30 < m
  · obtain ⟨b, off, rfl, _⟩ := ha'.out.cell (by omega)
    have hm1 : (30 : Int) < (m : Int) := by omega
    have hc1 : (30 : Int) ≤ (c : Int) := by omega
    go_enter Try.func8, Try.ntmps8
    go_wp2
    have hbel := Lib.hid (below_then (below_box w (.cells #[.int .i64 kind, .int .i64 ses, .int .i64 tick, .string me, .string url, .slice (some ⟨b, off, Option.none⟩) 30 c, .string body, .int .i64 status, .int .i64 code, .bool cred, .string no, .int .u64 (k : Int)] 25)) (below_box (w.alloc (.cells #[.int .i64 kind, .int .i64 ses, .int .i64 tick, .string me, .string url, .slice (some ⟨b, off, Option.none⟩) 30 c, .string body, .int .i64 status, .int .i64 code, .bool cred, .string no, .int .u64 (k : Int)] 25)) (.cells #[.int .i64 kind, .int .i64 ses, .int .i64 tick, .string me, .string url, .slice (some ⟨b, off, Option.none⟩) 30 c, .string body, .int .i64 status, .int .i64 code, .bool cred, .string no, .int .u64 (k : Int)] 25)))
    have hrow := heap_alloc_new (w.alloc (.cells #[.int .i64 kind, .int .i64 ses, .int .i64 tick, .string me, .string url, .slice (some ⟨b, off, Option.none⟩) 30 c, .string body, .int .i64 status, .int .i64 code, .bool cred, .string no, .int .u64 (k : Int)] 25)) (.cells #[.int .i64 kind, .int .i64 ses, .int .i64 tick, .string me, .string url, .slice (some ⟨b, off, Option.none⟩) 30 c, .string body, .int .i64 status, .int .i64 code, .bool cred, .string no, .int .u64 (k : Int)] 25)
    simp only [World.size_alloc] at hrow
    refine bodyPost_ret (cut_result (g := w.heap.size + 1) rfl hrow rfl) rfl ⟨(some ⟨b, off, Option.none⟩), 30, c, rfl, ?_, hbel.out⟩
    exact (ha'.out.front (k := 30) (by omega)).later hbel.out
  · have hm1 : ¬ (30 : Int) < (m : Int) := by omega
    go_enter Try.func8, Try.ntmps8
    go_wp2
    have hbel := Lib.hid (below_then (below_box w (.cells #[.int .i64 kind, .int .i64 ses, .int .i64 tick, .string me, .string url, .slice A m c, .string body, .int .i64 status, .int .i64 code, .bool cred, .string no, .int .u64 (k : Int)] 25)) (below_box (w.alloc (.cells #[.int .i64 kind, .int .i64 ses, .int .i64 tick, .string me, .string url, .slice A m c, .string body, .int .i64 status, .int .i64 code, .bool cred, .string no, .int .u64 (k : Int)] 25)) (.cells #[.int .i64 kind, .int .i64 ses, .int .i64 tick, .string me, .string url, .slice A m c, .string body, .int .i64 status, .int .i64 code, .bool cred, .string no, .int .u64 (k : Int)] 25)))
    have hrow := heap_alloc_new (w.alloc (.cells #[.int .i64 kind, .int .i64 ses, .int .i64 tick, .string me, .string url, .slice A m c, .string body, .int .i64 status, .int .i64 code, .bool cred, .string no, .int .u64 (k : Int)] 25)) (.cells #[.int .i64 kind, .int .i64 ses, .int .i64 tick, .string me, .string url, .slice A m c, .string body, .int .i64 status, .int .i64 code, .bool cred, .string no, .int .u64 (k : Int)] 25)
    simp only [World.size_alloc] at hrow
    refine bodyPost_ret (cut_result (g := w.heap.size + 1) rfl hrow rfl) rfl ⟨A, m, c, rfl, ?_, hbel.out⟩
    have ht : hs.take 30 = hs := List.take_of_length_le (by rw [hlen.out]; omega)
    show Hds _ A m c (hs.take 30)
    rw [ht]
    exact ha'.out.later hbel.out
end Go.Proofs.Ytodncamohimmmaa

namespace Go.Proofs.Ytodncamohimmmaa
open Go.RowKit Go.Lib Leb

def putE (k : Bk) (X : List Int) (x : Ev) : (List Int × Int) × Bk :=
  if GoodE x then (if x.tick < k.tick then (([], 9), k) else ((X ++ encB k x, 0), tellE k x)) else (([], 4), k)
theorem putE_bad {k : Bk} {X : List Int} {x : Ev} (h : ¬ GoodE x) : putE k X x = (([], 4), k) := if_neg h
theorem putE_order {k : Bk} {X : List Int} {x : Ev} (h : GoodE x) (ht : x.tick < k.tick) : putE k X x = (([], 9), k) := by
  unfold putE
  rw [if_pos h, if_pos ht]
theorem putE_ok {k : Bk} {X : List Int} {x : Ev} (h : GoodE x) (ht : k.tick ≤ x.tick) : putE k X x = ((X ++ encB k x, 0), tellE k x) := by
  unfold putE
  rw [if_pos h, if_neg (by omega)]
theorem putE_Ok {k : Bk} (hk : k.Ok) (X : List Int) (x : Ev) : (putE k X x).2.Ok := by
  unfold putE
  split
  · rename_i h
    split
    · exact hk
    · exact hk.tell h
  · exact hk
theorem Bytes.encs (l : List Nat) : Bytes (encs l) := by
  induction l with
  | nil => exact Bytes.nil
  | cons a r ih => exact (enc_bytes a).append ih

theorem refPutE_any (b t : Nat) (T0 : Nat → Prop) (u : Value) (ls : List Ln) (k : Bk) (A : Option Addr) (n c : Nat) (X : List Int) (x : Ev) (Ax : Option Addr) (m cx : Nat) (w : World)
    (h : RBk w b t T0 u ls k.tab k.tick) (hlook : ∀ s a, findL ls s a = k.look s a) (hk : k.Ok) (hX : Holds w A n c X) (hx : HdO w Ax m cx x.hs (inB b T0 u)) (h64 : U64 x.n) (hcode : x.code ≤ 9223372036854775807) (hT : k.tab.length ≤ 200000) (hn : n ≤ 900000000) (hls : ls.length ≤ 1000000) :
    Calls Try.prog 17 #[.pointer (some ⟨b, 0, Option.none⟩), .slice A n c, evv x Ax m cx] w fun e w' => ∃ r T1 u' ls', e = .returned (.tuple #[r, .int .i64 (putE k X x).1.2]) ∧
      BStep w w' b t T0 T1 u u' ls' (putE k X x).2.tab (putE k X x).2.tick ∧ BtO w' w.heap.size r (putE k X x).1.1 (inB b T1 u') ∧ (∀ s a, findL ls' s a = (putE k X x).2.look s a) ∧ ls'.length ≤ ls.length + 1 ∧ ∀ l ∈ ls', (∃ l0 ∈ ls, l.A = l0.A ∧ l.n = l0.n) ∨ (l.A = Ax ∧ l.n = m) := by
  have hnil : ∀ w' : World, BtO w' w.heap.size (.slice Option.none 0 0) [] (inB b T0 u) := fun w' => ⟨⟨Bytes.nil, ⟨rfl, .inl ⟨rfl, rfl⟩⟩⟩, fun g hg => by cases hg⟩
  by_cases hg : GoodE x
  · by_cases ht : x.tick < k.tick
    · rw [putE_order hg ht]
      refine (refPutE_order b t T0 u ls k.tab k.tick A n c x Ax m cx w h hx.rd hcode hg ht).mono ?_
      rintro e w' ⟨rfl, hb⟩
      exact ⟨_, T0, u, ls, rfl, BStep.same h hb, hnil w', hlook, Nat.le_succ _, fun l hl => .inl ⟨l, hl, rfl, rfl⟩⟩
    · rw [putE_ok hg (by omega)]
      refine (refPutE_ok b t T0 u ls k.tab k.tick A n c X x Ax m cx w h hX hx hg h64 hk.low (by omega) hT hn hls (by rw [hlook]; have := hk.few x.ses (decide (x.kind = 3)); omega)).mono ?_
      rintro e w' ⟨r, rfl, T1, u', ls', hB, hO, hf, hl, hm⟩
      have hkk : (⟨k.tab, k.tick, findL ls⟩ : Bk) = k := by
        obtain ⟨tab, tick, look⟩ := k
        have : findL ls = look := by
          funext s a
          exact hlook s a
        rw [this]
      rw [hkk] at hB hO
      refine ⟨r, T1, u', ls', rfl, hB, hO, fun s a => ?_, hl, hm⟩
      rw [hf]
      show lookE (findL ls) x s a = lookE k.look x s a
      unfold lookE
      rw [hlook]
  · rw [putE_bad hg]
    refine (refPutE_bad b A n c x Ax m cx w hx.rd hcode hg).mono ?_
    rintro e w' ⟨rfl, hb⟩
    exact ⟨_, T0, u, ls, rfl, BStep.same h hb, hnil w', hlook, Nat.le_succ _, fun l hl => .inl ⟨l, hl, rfl, rfl⟩⟩

structure BookSaid (PB : World → Nat → (Nat → Prop) → Bk → Prop) : Prop where
  low : ∀ {W b S k}, PB W b S k → ∀ j, S j → j < W.heap.size
  alt : ∀ {W W' b S S' k}, PB W b S k → Alt W W' S' → (∀ j, S j → ¬ S' j) → PB W' b S k
  new : ∀ W : World, Calls Try.prog 14 #[] W fun e w' => ∃ b S, e = .returned (.pointer (some ⟨b, 0, Option.none⟩)) ∧ PB w' b S newB ∧ (∀ k, S k → W.heap.size ≤ k) ∧ Below W.heap.size W w'
  put : ∀ (b : Nat) (S : Nat → Prop) (k : Bk) (A : Option Addr) (n c : Nat) (X : List Int) (x : Ev) (Ax : Option Addr) (m cx : Nat) (W : World), PB W b S k → k.Ok → Holds W A n c X → Off S A n → HdO W Ax m cx x.hs S → U64 x.n → x.code ≤ 9223372036854775807 → k.tab.length ≤ 200000 → n ≤ 900000000 →
    Calls Try.prog 16 #[.pointer (some ⟨b, 0, Option.none⟩), .slice A n c, evv x Ax m cx] W fun e w' => ∃ r S', e = .returned (.tuple #[r, .int .i64 (putE k X x).1.2]) ∧ PB w' b S' (putE k X x).2 ∧ Alt W w' S ∧ (∀ j, S' j → S j ∨ W.heap.size ≤ j) ∧ Owns w' W.heap.size 5 r (putE k X x).1.1 ∧ OffV S' r

structure Two (PB : World → Nat → (Nat → Prop) → Bk → Prop) (w0 : World) (kb rb t : Nat) (S T0 : Nat → Prop) (u : Value) (ls : List Ln) (k : Bk) (W : World) : Prop where
  p : PB W kb S k
  r : RBk W rb t T0 u ls k.tab k.tick
  look : ∀ s a, findL ls s a = k.look s a
  ok : k.Ok
  apart : ∀ j, S j → ¬ inB rb T0 u j
  newP : ∀ j, S j → w0.heap.size ≤ j
  newR : ∀ j, inB rb T0 u j → w0.heap.size ≤ j
  old : ∀ l ∈ ls, Off S l.A l.n
structure Out2 (w0 : World) (S R : Nat → Prop) (v : Value) (Y : List Int) (W : World) : Prop where
  own : Owns W w0.heap.size 5 v Y
  offP : OffV S v
  offR : OffV R v

section
variable {PB : World → Nat → (Nat → Prop) → Bk → Prop} {w0 W W' : World} {kb rb t : Nat} {S S' T0 T1 R R' : Nat → Prop} {u u' : Value} {ls ls' : List Ln} {k k' : Bk} {v : Value} {Y : List Int}
theorem Two.later (hs : BookSaid PB) (h : Two PB w0 kb rb t S T0 u ls k W) (hb : Below W.heap.size W W') : Two PB w0 kb rb t S T0 u ls k W' :=
  ⟨hs.alt h.p (alt_below hb fun _ => False) fun _ _ h => h, h.r.later hb, h.look, h.ok, h.apart, h.newP, h.newR, h.old⟩
theorem Out2.later (h : Out2 w0 S R v Y W) (hb : Below W.heap.size W W') : Out2 w0 S R v Y W' := ⟨h.own.kept hb (Nat.le_refl _), h.offP, h.offR⟩
structure Half (PB : World → Nat → (Nat → Prop) → Bk → Prop) (w0 : World) (kb rb t : Nat) (S T0 : Nat → Prop) (u : Value) (ls : List Ln) (k k' : Bk) (W : World) : Prop where
  p : PB W kb S k'
  r : RBk W rb t T0 u ls k.tab k.tick
  look : ∀ s a, findL ls s a = k.look s a
  ok : k.Ok
  apart : ∀ j, S j → ¬ inB rb T0 u j
  newP : ∀ j, S j → w0.heap.size ≤ j
  newR : ∀ j, inB rb T0 u j → w0.heap.size ≤ j
  old : ∀ l ∈ ls, Off S l.A l.n
theorem Two.other (h : Two PB w0 kb rb t S T0 u ls k W) (ha : Alt W W' S) : RBk W' rb t T0 u ls k.tab k.tick := h.r.alt ha (fun j hj hS => h.apart j hS hj) h.old
theorem Two.half (h : Two PB w0 kb rb t S T0 u ls k W) (hsz : w0.heap.size ≤ W.heap.size) (hp : PB W' kb S' k') (ha : Alt W W' S) (hn : ∀ j, S' j → S j ∨ W.heap.size ≤ j) : Half PB w0 kb rb t S' T0 u ls k k' W' := by
  refine ⟨hp, h.other ha, h.look, h.ok, fun j hj hR => ?_, fun j hj => ?_, h.newR, fun l hl g off e h0 hS => ?_⟩
  · rcases hn j hj with h1 | h1
    · exact h.apart j h1 hR
    · have := h.r.low j hR
      omega
  · rcases hn j hj with h1 | h1
    · exact h.newP j h1
    · omega
  · rcases hn g hS with h1 | h1
    · exact h.old l hl g off e h0 h1
    · have h2 := (h.r.hds l hl).rd
      rw [e] at h2
      have := h2.block h0
      omega
theorem Half.later (hs : BookSaid PB) (h : Half PB w0 kb rb t S T0 u ls k k' W) (hb : Below W.heap.size W W') : Half PB w0 kb rb t S T0 u ls k k' W' :=
  ⟨hs.alt h.p (alt_below hb fun _ => False) fun _ _ h => h, h.r.later hb, h.look, h.ok, h.apart, h.newP, h.newR, h.old⟩
theorem Half.two (hs : BookSaid PB) (h : Half PB w0 kb rb t S T0 u ls k k' W) (hsz : w0.heap.size ≤ W.heap.size) (hB : BStep W W' rb t T0 T1 u u' ls' k'.tab k'.tick) (hlook : ∀ s a, findL ls' s a = k'.look s a) (hok : k'.Ok)
    (hold : ∀ l ∈ ls', Off S l.A l.n) : Two PB w0 kb rb t S T1 u' ls' k' W' := by
  refine ⟨hs.alt h.p hB.alt fun j hj hR => h.apart j hj hR, hB.book, hlook, hok, fun j hj hR => ?_, h.newP, fun j hR => ?_, hold⟩
  · rcases hB.new j hR with h1 | h1
    · exact h.apart j hj h1
    · have := hs.low h.p j hj
      omega
  · rcases hB.new j hR with h1 | h1
    · exact h.newR j h1
    · omega
theorem Out2.altP (h : Out2 w0 S R v Y W) (ha : Alt W W' S) (hn : ∀ j, S' j → S j ∨ W.heap.size ≤ j) : Out2 w0 S' R v Y W' :=
  ⟨h.own.alt ha h.offP, fun g e hj => by
    rcases hn g hj with h1 | h1
    · exact h.offP g e h1
    · have := (h.own.2.lt g e).2
      omega, h.offR⟩
theorem Out2.altR (h : Out2 w0 S R v Y W) (ha : Alt W W' R) (hn : ∀ j, R' j → R j ∨ W.heap.size ≤ j) : Out2 w0 S R' v Y W' :=
  ⟨h.own.alt ha h.offR, h.offP, fun g e hj => by
    rcases hn g hj with h1 | h1
    · exact h.offR g e h1
    · have := (h.own.2.lt g e).2
      omega⟩
end
end Go.Proofs.Ytodncamohimmmaa
