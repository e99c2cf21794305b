/-
  Texts of one sort, one behind the other: numbers, memory, regions, strings, headers. Conditions: those that each theorem states.
-/
import Derived.Test.YtodncamohimmmaaEvRefInput
import Derived.Test.YtodncamohimmmaaLow1
import Derived.Test.YtodncamohimmmaaLow4
import Derived.Test.YtodncamohimmmaaLow24
import Derived.Maps.AppendAt
import Derived.Test.YtodncamohimmmaaLow22
import Derived.Test.YtodncamohimmmaaEvSame

namespace Go.Proofs.Ytodncamohimmmaa
open Go.RowKit Go.Lib Leb

def inF (b : Nat) (ses tick : Int) (me url : ByteArray) (A : Option Addr) (m c : Nat) (body : ByteArray) (status code : Int) (cred : Bool) (no : ByteArray) (k : Nat) (j : Nat) (v : Value) (_ : World) : Prop :=
  match j with
  | 0 => v = .pointer (some ⟨b, 1, Option.none⟩)
  | 1 => v = .int .i64 ses
  | 2 => v = .agg #[.int .i64 1, .int .i64 ses, .int .i64 tick, .string me, .string url, .slice A m c, .string body, .int .i64 status, .int .i64 code, .bool cred, .string no, .int .u64 (k : Int)]
  | 3 => v = .agg #[.string me, .string url, .int .i64 (code % 4), .int .i64 (code / 4 % 4), .int .i64 (code / 16 % 4), .int .i64 (code / 64), .string no, .slice A m c, .string body]
  | 4 => v = .agg #[.int .i64 1, .int .i64 ses, .string me, .string url, .int .i64 (code % 4), .int .i64 (code / 4 % 4), .int .i64 (code / 16 % 4), .int .i64 (code / 64), .string no, .slice A m c, .string body, .int .i64 0, .slice Option.none 0 0, .string ⟨#[]⟩, .int .u64 0]
  | _ => True
theorem inF_later {b : Nat} {ses tick : Int} {me url : ByteArray} {A : Option Addr} {m c : Nat} {body : ByteArray} {status code : Int} {cred : Bool} {no : ByteArray} {k : Nat} : Outlives (inF b ses tick me url A m c body status code cred no k) := by
  intro j v w w' h hk
  unfold inF at h ⊢
  split at h
  all_goals first | exact h.keeps hk | exact h
theorem enters_request (vs : Array Value) (w : World) : (callFunc 23 vs).run Try.prog w = .ok (.enter 23 vs) w := by kernel_rfl
set_option maxRecDepth 100000 in
theorem run_fieldE1 (w : World) (b : Nat) : (Instr.fieldAt 25 (.pointer (some ⟨b, 0, Option.none⟩)) 1).run Try.prog w = .ok (.pointer (some ⟨b, 1, Option.none⟩)) w := by go_simp
set_option maxRecDepth 100000 in
theorem run_loadI (w : World) (b k : Nat) (x : Int) (h : w.cell? ⟨b, k, Option.none⟩ = some (.int .i64 x)) : (Instr.loadAt 3 (.pointer (some ⟨b, k, Option.none⟩))).run Try.prog w = .ok (.int .i64 x) w := by go_simp
set_option maxRecDepth 100000 in
theorem run_loadE12 (w : World) (b : Nat) (x : Ev) (A : Option Addr) (m c : Nat) (h : EvAt w b x A m c) : (Instr.loadAt 25 (.pointer (some ⟨b, 0, Option.none⟩))).run Try.prog w = .ok (.agg (ecell12 x A m c)) w := by
  obtain ⟨h0, h1, h2, h3, h4, h5, h6, h7, h8, h9, h10, h11⟩ := h
  unfold ecell12
  go_simp
set_option maxRecDepth 100000 in
theorem run_aggIn (w : World) (ses : Int) (me url : ByteArray) (x2 x3 x4 x5 : Int) (no : ByteArray) (A : Option Addr) (m c : Nat) (body : ByteArray) : (Instr.build 31 #[(0, .int .i64 1), (1, .int .i64 ses), (2, .agg #[.string me, .string url, .int .i64 x2, .int .i64 x3, .int .i64 x4, .int .i64 x5, .string no, .slice A m c, .string body])]).run Try.prog w = .ok (.agg #[.int .i64 1, .int .i64 ses, .string me, .string url, .int .i64 x2, .int .i64 x3, .int .i64 x4, .int .i64 x5, .string no, .slice A m c, .string body, .int .i64 0, .slice Option.none 0 0, .string ⟨#[]⟩, .int .u64 0]) w := by go_simp
theorem run_storeIn (w : World) (g : Nat) (old cs : Array Value) (hg : w.heap[g]? = some (.cells old 31 (0, 0))) (ho : old.size = 15) (hc : cs.size = 15) (h1 : cs.all (·.oneCell') = true) : (Instr.storeAt 31 (.pointer (some ⟨g, 0, Option.none⟩)) (.agg cs)).run Try.prog w = .ok () (w.setRow g cs) := by
  simp only [Instr.storeAt, Instr.sureAddr, Sem.run_bind, Sem.run_pure, Result.andThen_ok, run_storeVar_row w g 31 31 old cs hg (by rw [hc]; exact infoIn) (by rw [ho, hc]) h1]

set_option maxHeartbeats 16000000 in
set_option maxRecDepth 100000 in
theorem refInput_k1 (x : Ev) (A : Option Addr) (m c : Nat) (w : World) (ha : Hds w A m c x.hs) (hcode : x.code ≤ 9223372036854775807) (hg : GoodE x) (hk : x.kind = 1) :
    Calls Try.prog 9 #[evv x A m c] w (InR w x) := by
  have hgood := Lib.hid (fun W (hW : Below w.heap.size w W) => refGoodE_any x A m c W (ha.later hW) hcode)
  rw [decide_eq_true hg] at hgood
  have ha' := Lib.hid ha
  obtain ⟨kind, ses, tick, me, url, hs, body, status, code, cred, no, k⟩ := x
  have hin := Lib.hid (inputE_1 hg hk)
  have hreq := Lib.hid (fun W => refRequest_any ⟨kind, ses, tick, me, url, hs, body, status, code, cred, no, k⟩ A m c W (by have := (kindE_tests hg.2).1 hk; exact this.1) hcode)
  simp only at hk
  subst hk
  clear hg
  unfold evv reqv at *
  unfold ecell12 at *
  simp only at *
  clear ha hcode
  have hone := Lib.hid (show (#[.int .i64 1, .int .i64 ses, .string me, .string url, .int .i64 (code % 4), .int .i64 (code / 4 % 4), .int .i64 (code / 16 % 4), .int .i64 (code / 64), .string no, .slice A m c, .string body, .int .i64 0, .slice Option.none 0 0, .string ⟨#[]⟩, .int .u64 0] : Array Value).all (·.oneCell') = true by simp [Value.oneCell'])
  go_enter Try.func9, Try.ntmps9
  go_wp2_with (first
    | (go_at_call 12; refine (hgood.out _ (below_then (below_then (below_box _ _) (below_box _ _)) (below_box _ _))).mono ?_; rintro e w2 ⟨rfl, hb2⟩; obtain ⟨y, r1, r2, hbw⟩ := in_boxes w ⟨1, ses, tick, me, url, hs, body, status, code, cred, no, k⟩ A m c _ _ _ _ hb2; have y0 := y.c0; have y1 := y.c1; have y5 := y.c5; have y6 := y.c6; have y7 := y.c7; have y11 := y.c11; simp only at y0 y1 y5 y6 y7 y11; have hy := Lib.hid y; have r1' := Lib.hid r1; have r2' := Lib.hid r2; have hbw' := Lib.hid hbw; clear hb2 y r1 r2 hbw))
  refine wp_region_tail 5 8 (by decide) (by kernel_rfl) (RInv 49 [14, 15, 16, 17, 18] _ (inF w.heap.size ses tick me url A m c body status code cred no k) _ NoMore) (by kernel_rfl) (by kernel_rfl) (RInv.start rfl trivial (Below.refl _ _).drew) ?_ ?_
  · intro i hi D a w1 hI hcl hnd hpre
    have hi' : i < 5 := hi
    have hcase : i = 0 ∨ i = 1 ∨ i = 2 ∨ i = 3 ∨ i = 4 := by omega
    have hF := hI.fact
    rcases hcase with rfl | rfl | rfl | rfl | rfl
    · exact wpOp_field rfl (wanted_free rfl) _ _ _ rfl _ _ (hI.same 1 (by decide)) (run_fieldE1 w1 w.heap.size) (hI.add (by decide) inF_later (by decide) (Below.refl _ _) rfl)
    · exact wpOp_load rfl (wanted_free rfl) _ _ rfl _ _ (hF 0 (hpre 0 (by kernel_rfl))) (run_loadI w1 w.heap.size 1 ses (cell_later hI.below hy.out.c1)) (hI.add (by decide) inF_later (by decide) (Below.refl _ _) rfl)
    · exact wpOp_load rfl (wanted_free rfl) _ _ rfl _ _ (hI.same 1 (by decide)) (run_loadE12 w1 w.heap.size ⟨1, ses, tick, me, url, hs, body, status, code, cred, no, k⟩ A m c (hy.out.later hI.below)) (hI.add (by decide) inF_later (by decide) (Below.refl _ _) rfl)
    · exact wpOp_call1 rfl (wanted_free rfl) 23 _ _ rfl _ (hF 2 (hpre 2 (by kernel_rfl))) (enters_request _ _) (hreq.out w1) (fun e w' h => ⟨_, h.1, hI.add (by decide) inF_later (by decide) h.2 rfl⟩)
    · exact wpOp_agg rfl (wanted_free rfl) _ _ rfl #[(0, .int .i64 1), (1, .int .i64 ses), (2, .agg #[.string me, .string url, .int .i64 (code % 4), .int .i64 (code / 4 % 4), .int .i64 (code / 16 % 4), .int .i64 (code / 64), .string no, .slice A m c, .string body])] (by simp only [List.map_toArray, List.map_cons, List.map_nil, show a.eval (.tmp 15) = .int .i64 ses from (hF 1 (hpre 1 (by kernel_rfl))), show a.eval (.tmp 17) = .agg #[.string me, .string url, .int .i64 (code % 4), .int .i64 (code / 4 % 4), .int .i64 (code / 16 % 4), .int .i64 (code / 64), .string no, .slice A m c, .string body] from (hF 3 (hpre 3 (by kernel_rfl)))]; rfl) _ (run_aggIn w1 _ _ _ _ _ _ _ _ _ _ _ _) (hI.add (by decide) inF_later (by decide) (Below.refl _ _) rfl)
  · intro D a w1 hI hall
    have hB := Lib.hid hI.below
    have hdone := hI.done (by decide) rfl hall
    have f18 : a.eval (.tmp 18) = .agg #[.int .i64 1, .int .i64 ses, .string me, .string url, .int .i64 (code % 4), .int .i64 (code / 4 % 4), .int .i64 (code / 16 % 4), .int .i64 (code / 64), .string no, .slice A m c, .string body, .int .i64 0, .slice Option.none 0 0, .string ⟨#[]⟩, .int .u64 0] := hI.fact 4 (hall 4 (by decide))
    have f2 := hI.same 2 (by decide)
    have r3 := Lib.hid ((hB.out.block _ (Array.getElem?_eq_some_iff.1 r1'.out).1).trans r1'.out)
    have hbx := Lib.hid (below_then hbw'.out hB.out)
    clear hI hall
    show wpOps _ _ _ [5, 6] a w1
    rw [wpOps_cons]
    refine wpOp_store rfl (wanted_free rfl) _ _ _ rfl _ _ f2 f18 (run_storeIn w1 _ _ _ r3.out rfl rfl hone.out) ?_
    rw [wpOps_cons]
    refine wpOp_assign rfl (wanted_free rfl) _ rfl (.bool true) rfl ?_
    show wpOps _ _ _ _ ((a.put Option.none undef).put (some 3) (.bool true)) _
    rw [wpOps]
    obtain ⟨fs, rfl, _⟩ := hdone
    simp only [putAll, List.map_cons, List.map_nil, Act.put, List.setIfInBounds_toArray, List.set_cons_zero, List.set_cons_succ]
    generalize fs 14 = y14
    generalize fs 15 = y15
    generalize fs 16 = y16
    generalize fs 17 = y17
    generalize fs 18 = y18
    go_wp2
    unfold InR
    rw [hin.out]
    refine bodyPost_ret (in_result (g := w.heap.size + 1) (cs := #[.int .i64 1, .int .i64 ses, .string me, .string url, .int .i64 (code % 4), .int .i64 (code / 4 % 4), .int .i64 (code / 16 % 4), .int .i64 (code / 64), .string no, .slice A m c, .string body, .int .i64 0, .slice Option.none 0 0, .string ⟨#[]⟩, .int .u64 0]) rfl rfl (setRow_heap _ _ _ _ _ _ r3.out) rfl) rfl ?_
    refine ⟨A, m, c, Option.none, 0, 0, rfl, ?_, ?_, below_setRow hbx.out (by simp) _⟩
    · exact ha'.out.later (below_setRow hbx.out (by simp) _)
    · exact hds_empty _ _ _ (by simp) (fun _ => rfl)

theorem refInput_any (x : Ev) (A : Option Addr) (m c : Nat) (w : World) (ha : Hds w A m c x.hs) (hcode : x.code ≤ 9223372036854775807) :
    Calls Try.prog 9 #[evv x A m c] w (InR w x) := by
  by_cases hg : GoodE x
  · rcases hg.kinds with h | h | h | h | h | h | h
    · exact refInput_k1 x A m c w ha hcode hg h
    · exact refInput_no x A m c w ha hcode hg (.inl h)
    · exact refInput_k3 x A m c w ha hcode hg h
    · exact refInput_k4 x A m c w ha hcode hg h
    · exact refInput_k5 x A m c w ha hcode hg h
    · exact refInput_k6 x A m c w ha hcode hg h
    · exact refInput_no x A m c w ha hcode hg (.inr h)
  · exact refInput_bad x A m c w ha hcode hg
end Go.Proofs.Ytodncamohimmmaa

namespace Go.Proofs.Ytodncamohimmmaa
open Go.RowKit Go.Lib Go.Maps Leb

def acells (l : List Eva) : List Value := l.flatMap acell
theorem acell_len (q : Eva) : (acell q).length = 12 := rfl
theorem acells_append (a b : List Eva) : acells (a ++ b) = acells a ++ acells b := by simp [acells]
theorem acells_at {l : List Eva} {p : Nat} {q : Eva} (h : l[p]? = some q) {i : Nat} (hi : i < 12) : (acells l)[p * 12 + i]? = (acell q)[i]? := by
  induction l generalizing p with
  | nil => simp at h
  | cons x r ih =>
    have e : acells (x :: r) = acell x ++ acells r := by simp [acells]
    cases p with
    | zero =>
      have : x = q := by simpa using h
      subst this
      rw [e, List.getElem?_append_left (by rw [acell_len]; omega)]
      simp
    | succ p =>
      have := ih (p := p) (by simpa using h)
      rw [e, List.getElem?_append_right (by rw [acell_len]; omega), acell_len, ← this]
      congr 1
      omega
theorem acells_one (l : List Eva) : ∀ u ∈ acells l, u.oneCell' = true := by
  intro u hu
  obtain ⟨q, _, hq⟩ := List.mem_flatMap.1 hu
  simp [acell, ecell12] at hq
  rcases hq with rfl | rfl | rfl | rfl | rfl | rfl | rfl | rfl | rfl | rfl | rfl | rfl <;> rfl
def OwnsA (w : World) (base : Nat) (v : Value) (l : List Eva) : Prop := w.ownsRow base 25 12 v l.length (acells l)
theorem infoEv3 : (Try.prog.info? 25).map (fun i => (i.zero, i.size, i.bytes)) = some (some (.agg #[.int .i64 0, .int .i64 0, .int .i64 0, .string ByteArray.empty, .string ByteArray.empty, .slice Option.none 0 0, .string ByteArray.empty, .int .i64 0, .int .i64 0, .bool false, .string ByteArray.empty, .int .u64 0]), 12, 144) := by kernel_rfl
theorem ownsA_none (w : World) (base : Nat) (hB : base ≤ w.heap.size) : OwnsA (w.alloc (.cells #[] 25)) base (.slice (some ⟨w.heap.size, 0, Option.none⟩) 0 0) [] := by
  have := World.ownsRow_lit (size := 12) (e := 25) w #[] 0 hB (Nat.zero_le _) rfl
  simpa [OwnsA, acells] using this
section
variable {w w' : World} {base : Nat} {v : Value} {l : List Eva} {S : Nat → Prop}
theorem OwnsA.kept (h : OwnsA w base v l) (hb : Below w.heap.size w w') : OwnsA w' base v l :=
  World.ownsRow.kept (row := Option.none) h ⟨hb.os, hb.tape, hb.output, hb.size, fun k hk _ => hb.block k hk⟩ (by cases hv : v.ownBlock <;> simp)
theorem OwnsA.alt (h : OwnsA w base v l) (ha : Alt w w' S) (ho : OffV S v) : OwnsA w' base v l := ownsRow_alt h ha ho
theorem OwnsA.slice (h : OwnsA w base v l) : ∃ A c, v = .slice A l.length c ∧ (0 < l.length → ∃ g, A = some ⟨g, 0, Option.none⟩ ∧ ∀ p q, l[p]? = some q → ∀ i, i < 12 → w.cell? ⟨g, 0 + p * 12 + i, Option.none⟩ = (acell q)[i]?) := by
  rcases h.2 with ⟨e, h0⟩ | ⟨g, cap, cur, e, hbg, hg, hn, hm, hs, ht⟩
  · exact ⟨Option.none, 0, by rw [e, h0], fun hp => absurd hp (by omega)⟩
  · refine ⟨_, cap, e, fun _ => ⟨g, rfl, fun p q hq i hi => ?_⟩⟩
    have hp := (List.getElem?_eq_some_iff.1 hq).1
    have at_ := World.ownsRow.cellAt (by rw [← e]; exact h : w.ownsRow base 25 12 (.slice (some ⟨g, 0, Option.none⟩) l.length cap) l.length (acells l)) (p * 12 + i) (by omega)
    rw [Nat.zero_add]
    exact at_.trans (acells_at hq hi)
end
section
variable {P : Program} {ops : Array Oper} {rest : List Oper} {o : Oper} {a : Act} {w : World} {Q : Exit → Act → World → Prop}
theorem wpList_append_ev (hgd : o.guard = Option.none) (s x : Operand) (t : TypeId) (ho : o.op = .call { callee := .builtin .append, args := #[s, x], argTypes := #[t, t] })
    (base : Nat) (i : TypeInfo) (ht : P.underlying t = some (.slice 25)) (hi : P.info? 25 = some i) (hz : i.zero = some (.agg #[.int .i64 0, .int .i64 0, .int .i64 0, .string ByteArray.empty, .string ByteArray.empty, .slice Option.none 0 0, .string ByteArray.empty, .int .i64 0, .int .i64 0, .bool false, .string ByteArray.empty, .int .u64 0])) (hz1 : i.size = 12) (hz2 : i.bytes = 144)
    (v : Value) (l : List Eva) (hs : a.eval s = v) (hown : OwnsA w base v l) (gx : Nat) (q : Eva) (hx : a.eval x = .slice (some ⟨gx, 0, Option.none⟩) 1 1) (hc : ∀ (j : Nat) (z : Value), (acell q)[j]? = some z → w.cell? ⟨gx, j, Option.none⟩ = some z) (hl : l.length ≤ 1000000) (hbase : base ≤ w.heap.size)
    (hK : ∀ v' w', OwnsA w' base v' (l ++ [q]) → w.grownBy w' v.ownBlock → (v'.ownBlock = v.ownBlock ∨ v'.ownBlock = some w.heap.size) → wpList P ops Q rest (a.put o.dst v') w') : wpList P ops Q (o :: rest) a w := by
  obtain ⟨v', w', hrun, h2, h3, _, h5⟩ := run_append_own_at (P := P) w base t o.type _ i _ 12 144 ht hi hz hz1 hz2 rfl (by omega) v _ _ hown ⟨gx, 0, Option.none⟩ 1 1 (acells [q]) rfl (fun j z hz => by rw [addr_add, Nat.zero_add]; exact hc j z (by simpa [acells] using hz)) (acells_one _) (by simp only [maxLen]; omega) (by omega) hbase
  have h2' : OwnsA w' base v' (l ++ [q]) := by
    unfold OwnsA
    rw [List.length_append, acells_append]
    exact h2
  refine wpList_plain hgd fun _ hK' => ?_
  unfold Oper.wp execOp
  simp only [ho, resolve, invoke, builtin, Sem.run_bind, Sem.run_pure, Result.andThen_ok, List.map_toArray, List.map_cons, List.map_nil, hs, hx, hrun]
  exact hK' _ _ (hK v' w' h2' h3 h5)
end
end Go.Proofs.Ytodncamohimmmaa

namespace Go.Proofs.Ytodncamohimmmaa
open Go.RowKit Go.Lib Leb

structure BookTakes (PB : World → Nat → (Nat → Prop) → Bk → Prop) : Prop where
  said : BookSaid PB
  take : ∀ (b : Nat) (S : Nat → Prop) (k : Bk) (A : Option Addr) (n c : Nat) (X : List Int) (p : Int) (W : World), PB W b S k → k.Ok → Holds W A n c X → Off S A n → k.tab.length ≤ 200000 → n ≤ 900000000 → -9223372036854775808 ≤ p → p ≤ 9223372036854775807 →
    Calls Try.prog 18 #[.pointer (some ⟨b, 0, Option.none⟩), .slice A n c, .int .i64 p] W fun e w' => ∃ Ax m cx S', e = .returned (.tuple #[evv (takeE k X p).1.1 Ax m cx, .int .i64 (takeE k X p).1.2.1, .int .i64 (takeE k X p).1.2.2]) ∧
      ((takeE k X p).1.2.2 = 0 → PB w' b S' (takeE k X p).2) ∧ Alt W w' S ∧ (∀ j, S' j → S j ∨ W.heap.size ≤ j) ∧ Hds w' Ax m cx (takeE k X p).1.1.hs ∧ ∀ g off, Ax = some ⟨g, off, Option.none⟩ → 0 < m → S' g ∨ W.heap.size ≤ g

structure Pair2 (PB : World → Nat → (Nat → Prop) → Bk → Prop) (w0 : World) (kb lb : Nat) (S S2 : Nat → Prop) (k k2 : Bk) (W : World) : Prop where
  p : PB W kb S k
  p2 : PB W lb S2 k2
  ok : k.Ok
  ok2 : k2.Ok
  apart : ∀ j, S j → ¬ S2 j
  newS : ∀ j, S j → w0.heap.size ≤ j
  newS2 : ∀ j, S2 j → w0.heap.size ≤ j
structure Evs2 (w0 : World) (S R : Nat → Prop) (v : Value) (l : List Eva) (W : World) : Prop where
  own : OwnsA W w0.heap.size v l
  offP : OffV S v
  offR : OffV R v
section
variable {PB : World → Nat → (Nat → Prop) → Bk → Prop} {w0 W W' : World} {kb lb : Nat} {S S2 S' R R' Q : Nat → Prop} {k k' k2 k2' : Bk} {v : Value} {Y : List Int} {l : List Eva}
theorem Pair2.alt (hs : BookSaid PB) (h : Pair2 PB w0 kb lb S S2 k k2 W) (ha : Alt W W' Q) (h1 : ∀ j, S j → ¬ Q j) (h2 : ∀ j, S2 j → ¬ Q j) : Pair2 PB w0 kb lb S S2 k k2 W' :=
  ⟨hs.alt h.p ha h1, hs.alt h.p2 ha h2, h.ok, h.ok2, h.apart, h.newS, h.newS2⟩
theorem Pair2.later (hs : BookSaid PB) (h : Pair2 PB w0 kb lb S S2 k k2 W) (hb : Below W.heap.size W W') : Pair2 PB w0 kb lb S S2 k k2 W' := h.alt hs (alt_below hb fun _ => False) (fun _ _ h => h) fun _ _ h => h
theorem Pair2.first (hs : BookSaid PB) (h : Pair2 PB w0 kb lb S S2 k k2 W) (hsz : w0.heap.size ≤ W.heap.size) (hp : PB W' kb S' k') (hok : k'.Ok) (ha : Alt W W' S) (hn : ∀ j, S' j → S j ∨ W.heap.size ≤ j) : Pair2 PB w0 kb lb S' S2 k' k2 W' := by
  refine ⟨hp, hs.alt h.p2 ha fun j hj hS => h.apart j hS hj, hok, h.ok2, fun j hj h2 => ?_, fun j hj => ?_, h.newS2⟩
  · rcases hn j hj with h1 | h1
    · exact h.apart j h1 h2
    · have := hs.low h.p2 j h2
      omega
  · rcases hn j hj with h1 | h1
    · exact h.newS j h1
    · omega
theorem Pair2.second (hs : BookSaid PB) (h : Pair2 PB w0 kb lb S S2 k k2 W) (hsz : w0.heap.size ≤ W.heap.size) (hp : PB W' lb S' k2') (hok : k2'.Ok) (ha : Alt W W' S2) (hn : ∀ j, S' j → S2 j ∨ W.heap.size ≤ j) : Pair2 PB w0 kb lb S S' k k2' W' := by
  refine ⟨hs.alt h.p ha fun j hj hS => h.apart j hj hS, hp, h.ok, hok, fun j hj h2 => ?_, h.newS, fun j hj => ?_⟩
  · rcases hn j h2 with h1 | h1
    · exact h.apart j hj h1
    · have := hs.low h.p j hj
      omega
  · rcases hn j hj with h1 | h1
    · exact h.newS2 j h1
    · omega
theorem OwnsA.low {base base' : Nat} {w : World} (h : OwnsA w base v l) (hB : base' ≤ base) : OwnsA w base' v l := by
  refine ⟨h.1, ?_⟩
  rcases h.2 with hn | ⟨g, cap, cur, e1, hb, rest⟩
  · exact .inl hn
  · exact .inr ⟨g, cap, cur, e1, Nat.le_trans hB hb, rest⟩
theorem Evs2.later (h : Evs2 w0 S R v l W) (hb : Below W.heap.size W W') : Evs2 w0 S R v l W' := ⟨h.own.kept hb, h.offP, h.offR⟩
theorem Evs2.altP (h : Evs2 w0 S R v l W) (ha : Alt W W' S) (hn : ∀ j, S' j → S j ∨ W.heap.size ≤ j) : Evs2 w0 S' R v l W' :=
  ⟨h.own.alt ha h.offP, fun g e hj => by
    rcases hn g hj with h1 | h1
    · exact h.offP g e h1
    · have := (World.ownsRow.lt h.own g e).2
      omega, h.offR⟩
theorem Evs2.altR (h : Evs2 w0 S R v l W) (ha : Alt W W' R) (hn : ∀ j, R' j → R j ∨ W.heap.size ≤ j) : Evs2 w0 S R' v l W' :=
  ⟨h.own.alt ha h.offR, h.offP, fun g e hj => by
    rcases hn g hj with h1 | h1
    · exact h.offR g e h1
    · have := (World.ownsRow.lt h.own g e).2
      omega⟩
theorem Pair2.app (hs : BookSaid PB) (h : Pair2 PB w0 kb lb S S2 k k2 W) (he : Evs2 w0 S S2 v l W) (hg : W.grownBy W' v.ownBlock) : Pair2 PB w0 kb lb S S2 k k2 W' :=
  h.alt hs (alt_grown hg (S := fun j => v.ownBlock = some j) fun _ hj => hj) (fun j hj e => he.offP j e hj) fun j hj e => he.offR j e hj
theorem Evs2.app {v' : Value} {l' : List Eva} (he : Evs2 w0 S S2 v l W) (hown : OwnsA W' w0.heap.size v' l') (hat : v'.ownBlock = v.ownBlock ∨ v'.ownBlock = some W.heap.size) (h1 : ∀ j, S j → j < W.heap.size) (h2 : ∀ j, S2 j → j < W.heap.size) : Evs2 w0 S S2 v' l' W' := by
  refine ⟨hown, fun g e hj => ?_, fun g e hj => ?_⟩
  · rcases hat with h | h
    · exact he.offP g (by rw [← h, e]) hj
    · rw [h] at e
      injection e with e
      have := h1 g hj
      omega
  · rcases hat with h | h
    · exact he.offR g (by rw [← h, e]) hj
    · rw [h] at e
      injection e with e
      have := h2 g hj
      omega
theorem Out2.app {v1 : Value} (h : Out2 w0 S S2 v1 Y W) (hg : W.grownBy W' v.ownBlock) (hne : ∀ g, v.ownBlock = some g → v1.ownBlock ≠ some g) : Out2 w0 S S2 v1 Y W' :=
  ⟨h.own.alt (alt_grown hg (S := fun j => v.ownBlock = some j) fun _ hj => hj) fun g e hj => hne g hj e, h.offP, h.offR⟩
end

theorem out_pair {PB : World → Nat → (Nat → Prop) → Bk → Prop} {w W W' : World} {lb : Nat} {S' S2 : Nat → Prop} {k2 : Bk} {r : Value} {Y : List Int} (hs : BookSaid PB) (hp : PB W lb S2 k2) (hsz : w.heap.size ≤ W.heap.size) (ho : Owns W' W.heap.size 5 r Y) (hof : OffV S' r) : Out2 w S' S2 r Y W' :=
  ⟨ho.low hsz, hof, fun g e hj => by
    have h1 := (ho.2.lt g e).1
    have h2 := hs.low hp g hj
    omega⟩
theorem Hds.before {w W : World} {A : Option Addr} {m c : Nat} {l : List Hd} (h : Hds W A m c l) (hb : Below w.heap.size w W) (hlow : ∀ g off, A = some ⟨g, off, Option.none⟩ → 0 < m → g < w.heap.size) : Hds w A m c l :=
  ⟨h.len, h.cap, h.room, h.bare, fun hm => by
    obtain ⟨b, off, e, _, hc⟩ := h.cell hm
    have hlt := hlow b off e hm
    exact ⟨b, off, e, hlt, fun j hj => by rw [← hc j hj]; exact (hb.cell (p := ⟨b, off + j, Option.none⟩) hlt).symm⟩⟩
set_option maxRecDepth 100000 in
theorem run_buildEv (w : World) (x : Ev) (A : Option Addr) (m c : Nat) : (Instr.buildSlice 38 1 #[(0, evv x A m c)]).run Try.prog w = .ok (.slice (some ⟨w.heap.size, 0, Option.none⟩) 1 1) (w.alloc (.cells (ecell12 x A m c) 25)) := by
  unfold evv ecell12
  go_simp
theorem wpList_buildV {P : Program} {ops : Array Oper} {rest : List Oper} {o : Oper} {a : Act} {w w' : World} {Q : Exit → Act → World → Prop} (hgd : o.guard = Option.none) (t : TypeId) (n : Nat) (ps : Array (Nat × Operand)) (ho : o.op = .buildSlice t n ps) (us : Array (Nat × Value)) (hu : (ps.map fun (k, x) => (k, a.eval x)) = us) (v : Value)
    (hr : (Instr.buildSlice t n us).run P w = .ok v w') (h : wpList P ops Q rest (a.put o.dst v) w') : wpList P ops Q (o :: rest) a w :=
  wpList_plain hgd fun _ hK => by
    unfold Oper.wp execOp
    simp only [ho, hu, Sem.run_bind, hr]
    exact hK _ _ h
theorem ev_cell (w : World) (x : Ev) (A : Option Addr) (m c : Nat) (j : Nat) (z : Value) (h : (acell ⟨x, A, m, c⟩)[j]? = some z) : (w.alloc (.cells (ecell12 x A m c) 25)).cell? ⟨w.heap.size, j, Option.none⟩ = some z := by
  rw [cell_of_row _ _ _ _ _ _ (heap_alloc_new w _)]
  unfold acell at h
  rw [← h]
  exact Array.getElem?_toList.symm
structure RA (PB : World → Nat → (Nat → Prop) → Bk → Prop) (w : World) (kb lb : Nat) (S S2 : Nat → Prop) (k : Bk) (Y : List Int) (l : List Eva) (va vw : Value) (W : World) : Prop where
  two : Pair2 PB w kb lb S S2 k newB W
  all : Out2 w S S2 va Y W
  was : Evs2 w S S2 vw l W
  ne : ∀ g, vw.ownBlock = some g → va.ownBlock ≠ some g
  chain : Chain newB (l.map (·.ev)) k Y
  hds : ∀ q ∈ l, Hds w q.A q.m q.c q.ev.hs
  bel : Below w.heap.size w W
structure RB (PB : World → Nat → (Nat → Prop) → Bk → Prop) (w : World) (kb lb : Nat) (S S2 : Nat → Prop) (k k2 : Bk) (Y : List Int) (l : List Eva) (va vw : Value) (W : World) : Prop where
  two : Pair2 PB w kb lb S S2 k k2 W
  all : Out2 w S S2 va Y W
  was : Evs2 w S S2 vw l W
  bel : Below w.heap.size w W
theorem RB.later {PB : World → Nat → (Nat → Prop) → Bk → Prop} {w W W' : World} {kb lb : Nat} {S S2 : Nat → Prop} {k k2 : Bk} {Y : List Int} {l : List Eva} {va vw : Value} (hs : BookSaid PB) (h : RB PB w kb lb S S2 k k2 Y l va vw W) (hb : Below W.heap.size W W') : RB PB w kb lb S S2 k k2 Y l va vw W' :=
  ⟨h.two.later hs hb, h.all.later hb, h.was.later hb, h.bel.trans (hb.mono h.bel.size)⟩
theorem RB.took {PB : World → Nat → (Nat → Prop) → Bk → Prop} {w W W' : World} {kb lb : Nat} {S S2 S2' : Nat → Prop} {k k2 k2' : Bk} {Y : List Int} {l : List Eva} {va vw : Value} (hs : BookSaid PB) (h : RB PB w kb lb S S2 k k2 Y l va vw W) (hp : PB W' lb S2' k2') (hok : k2'.Ok) (ha : Alt W W' S2) (hn : ∀ j, S2' j → S2 j ∨ W.heap.size ≤ j) : RB PB w kb lb S S2' k k2' Y l va vw W' :=
  ⟨h.two.second hs h.bel.size hp hok ha hn, h.all.altR ha hn, h.was.altR ha hn, h.bel.trans (ha.below h.bel.size h.two.newS2)⟩
theorem enters_same18 (vs : Array Value) (w : World) : (callFunc 20 vs).run Try.prog w = .ok (.enter 20 vs) w := by kernel_rfl
set_option maxRecDepth 100000 in
theorem run_idxEv (w : World) (g n c k : Nat) (h : k < n) : (Instr.indexAt 38 (.slice (some ⟨g, 0, Option.none⟩) n c) (.int .i64 (k : Int))).run Try.prog w = .ok (.pointer (some ⟨g, 0 + k * 12, Option.none⟩)) w := by go_simp
set_option maxRecDepth 100000 in
theorem run_neqZ {x y : Operand} (w : World) : (do eqGuard .neq 44 x y (.int .i64 0) (.int .i64 0); binOp .neq 44 (.int .i64 0) (.int .i64 0) : Sem Value).run Try.prog w = .ok (.bool false) w := by go_simp
theorem run_notT (w : World) : (Op.unary .not (.bool true)).run Try.prog w = .ok (.bool false) w := by go_simp
theorem run_leqF {x y : Operand} (w : World) (p q : Int) (h : q < p) : (do eqGuard .leq 3 x y (.int .i64 p) (.int .i64 q); binOp .leq 3 (.int .i64 p) (.int .i64 q) : Sem Value).run Try.prog w = .ok (.bool false) w := by
  have e : decide (p ≤ q) = false := decide_eq_false (by omega)
  go_simp
set_option maxRecDepth 100000 in
theorem run_sliceB (w : World) (g off n c p q : Nat) (h1 : p < q) (h2 : q ≤ n) (h3 : n ≤ c) : (Instr.sliceAt 43 (.slice (some ⟨g, off, Option.none⟩) n c) (some (.int .i64 (p : Int))) (some (.int .i64 (q : Int))) Option.none).run Try.prog w = .ok (.slice (some ⟨g, off + p, Option.none⟩) (q - p) (c - p)) w := by
  have f1 : (p : Int) ≤ (q : Int) := by omega
  have f2 : (q : Int) ≤ (c : Int) := by omega
  have f3 : (0 : Int) ≤ (p : Int) := by omega
  have f4 : (0 : Int) ≤ (q : Int) := by omega
  have f5 : (p : Int) ≤ (c : Int) := by omega
  have f6 : ¬ c = p := by omega
  go_simp
theorem run_neqS {x y : Operand} (w : World) (s : ByteArray) : (do eqGuard .neq 9 x y (.string s) (.string s); binOp .neq 9 (.string s) (.string s) : Sem Value).run Try.prog w = .ok (.bool false) w := by go_simp
theorem run_gtrF {x y : Operand} (w : World) (p q : Int) (h : p ≤ q) : (do eqGuard .gtr 3 x y (.int .i64 p) (.int .i64 q); binOp .gtr 3 (.int .i64 p) (.int .i64 q) : Sem Value).run Try.prog w = .ok (.bool false) w := by
  have e : decide (q < p) = false := decide_eq_false (by omega)
  go_simp
theorem holds_between {w : World} {g off n c p q : Nat} {X : List Int} (h : Holds w (some ⟨g, off, Option.none⟩) n c X) (h1 : p ≤ q) (h2 : q ≤ n) : Holds w (some ⟨g, off + p, Option.none⟩) (q - p) (c - p) (between X p q) := by
  have h3 := (h.back (k := p) (by omega)).front (k := q - p) (by omega)
  exact h3
end Go.Proofs.Ytodncamohimmmaa
