/-
  event.visit, by the contracts of the methods that it calls. Conditions: those that each theorem states.
-/
import Derived.Test.YtodncamohimmmaaLow3
import Derived.Test.YtodncamohimmmaaLow1
import Derived.StillTailTactics
namespace Go.Proofs.Ytodncamohimmmaa
open Go.RowKit Go.Lib Leb

def Leads (v : Value) (name : String) (f : FuncId) (r : Value) : Prop := ∀ (x : Value) (W : World), (invoke (.fn (.method name) #[]) #[v, x]).run Try.prog W = .ok (.enter f #[r, x]) W
theorem leads_of {t : TypeId} {r : Value} {name : String} {f : FuncId} {q : Value} (h : ∀ W, (method (Try.prog.types.size + Made.depth) t r name).run Try.prog W = .ok (f, q) W) (hf : ∀ vs W, (callFunc f vs).run Try.prog W = .ok (.enter f vs) W) : Leads (.iface t r) name f q := fun x W => by
  have e1 : (#[Value.iface t r, x] : Array Value)[0]? = some (.iface t r) := rfl
  simp only [invoke, e1, callMethod, Sem.run_bind, run_program, Result.andThen_ok, h W]
  exact hf _ _
section
variable {ops : Array Oper} {Q : Exit → Act → World → Prop} {rest : List Oper} {o : Oper} {a : Act} {w : World}
theorem wpList_invoke (hg : o.guard = Option.none) (m x : Operand) (name : String) (ts : Array TypeId) (hop : o.op = .call { callee := .invoke m name, args := #[x], argTypes := ts }) (v u : Value) (hm : a.eval m = v) (hx : a.eval x = u)
    {f : FuncId} {r : Value} (hl : Leads v name f r) {R : Ending → World → Prop} (hc : Calls Try.prog f #[r, u] w R) (hK : ∀ e w', R e w' → ∃ v', e = .returned v' ∧ wpList Try.prog ops Q rest (a.put o.dst v') w') : wpList Try.prog ops Q (o :: rest) a w := by
  refine wpList_plain hg fun K' hK' => ?_
  have hr : (execOp a.eval o).run Try.prog w = .ok (.enter f #[r, u]) w := by
    subst hm
    subst hx
    unfold execOp
    simp only [hop, resolve, Sem.run_bind, Sem.run_pure, Result.andThen_ok, List.map_toArray, List.map_cons, List.map_nil]
    exact hl _ _
  unfold Oper.wp
  rw [hr]
  refine hc.mono fun e w' h => ?_
  obtain ⟨v', rfl, hv⟩ := hK e w' h
  exact hK' _ _ hv
end
def NotNil (t : TypeId) (r : Value) (name : String) : Prop := ∀ W, (nilAhead (Try.prog.types.size + Made.depth) t r name).run Try.prog W = .ok (some false) W
theorem wpStill_nilFunc {ops : Array Oper} {w : World} {Q : Act → Prop} {rest : List Oper} {o : Oper} {a : Act} (hg : o.guard = Option.none) (x : Operand) (hop : o.op = .nilCheck x) (name : String) (t : TypeId) (r : Value)
    (hx : a.eval x = .func (.method name) #[.iface t r] #[]) (hn : NotNil t r name) (hK : wpStill Try.prog ops w Q rest (a.put o.dst (.func (.method name) #[.iface t r] #[]))) : wpStill Try.prog ops w Q (o :: rest) a := by
  refine wpStill_step fun K hK' => ?_
  have hw : Region.wanted o (yielded ops a.tmps) = true := by simp [Region.wanted, hg]
  rw [if_pos hw]
  have e1 : (#[Value.iface t r] : Array Value)[0]? = some (.iface t r) := rfl
  have hr : (execOp a.eval o).run Try.prog w = .ok (.value (.func (.method name) #[.iface t r] #[])) w := by
    simp only [execOp, hop, hx, e1, Sem.run_bind, run_program, Result.andThen_ok, hn w]
    rfl
  unfold Oper.still
  rw [hr, Oper.stillUpon_value]
  exact hK' _ hK
def VStep (vt : TypeId) (vr : Value) (g : Nat) (name : String) (i : Nat) (P0 P1 : World → Prop) : Prop :=
  NotNil vt vr name ∧ ∃ f r, Leads (.iface vt vr) name f r ∧ ∀ W, P0 W → Calls Try.prog f #[r, .pointer (some ⟨g, i, Option.none⟩)] W fun e W' => e = .returned (.tuple #[]) ∧ P1 W'
structure VSt (g : Nat) (kd : Int) (P : World → Prop) : Prop where
  kind : ∀ W, P W → W.cell? ⟨g, 0, Option.none⟩ = some (.int .i64 kd)
  drew : ∀ W, P W → P W.drew

-- THE KINDS

set_option maxHeartbeats 16000000 in
set_option maxRecDepth 100000 in
theorem visit_1 (vt : TypeId) (vr : Value) (g : Nat) (P0 P1 P2 P3 P4 P5 P6 : World → Prop) (w : World) (h : P0 w) (s0 : VSt g 1 P0) (s1 : VSt g 1 P1) (s2 : VSt g 1 P2) (s3 : VSt g 1 P3) (s4 : VSt g 1 P4) (s5 : VSt g 1 P5) (s6 : VSt g 1 P6)
    (h0 : VStep vt vr g "pursuivant/event.amount" 8 P0 P1) (h1 : VStep vt vr g "pursuivant/event.text" 3 P1 P2) (h2 : VStep vt vr g "pursuivant/event.text" 4 P2 P3) (h3 : VStep vt vr g "pursuivant/event.text" 10 P3 P4) (h4 : VStep vt vr g "pursuivant/event.text" 6 P4 P5) (h5 : VStep vt vr g "pursuivant/event.headers" 5 P5 P6) :
    Calls Try.prog 35 #[.pointer (some ⟨g, 0, Option.none⟩), .iface vt vr] w fun e w' => e = .returned (.tuple #[]) ∧ P6 w' := by
  have hc := s0.kind w h
  obtain ⟨n0, f0, r0, l0, c0⟩ := h0
  obtain ⟨n1, f1, r1, l1, c1⟩ := h1
  obtain ⟨n2, f2, r2, l2, c2⟩ := h2
  obtain ⟨n3, f3, r3, l3, c3⟩ := h3
  obtain ⟨n4, f4, r4, l4, c4⟩ := h4
  obtain ⟨n5, f5, r5, l5, c5⟩ := h5
  replace c0 := Lib.hid c0
  replace c1 := Lib.hid c1
  replace c2 := Lib.hid c2
  replace c3 := Lib.hid c3
  replace c4 := Lib.hid c4
  replace c5 := Lib.hid c5
  replace s0 := Lib.hid s0
  replace s1 := Lib.hid s1
  replace s2 := Lib.hid s2
  replace s3 := Lib.hid s3
  replace s4 := Lib.hid s4
  replace s5 := Lib.hid s5
  replace s6 := Lib.hid s6
  replace h := Lib.hid h
  go_enter Try.func35, Try.ntmps35
  go_wp2
  go_still_tail 7, (by kernel_rfl)
  refine wpStill_nilFunc rfl _ rfl _ _ _ rfl n0 ?_
  repeat still_step
  refine wpStill_nil ?_
  change wpList _ _ _ _ _ _
  refine wpList_invoke rfl _ _ _ _ rfl (.iface vt vr) (.pointer (some ⟨g, 8, Option.none⟩)) rfl rfl l0 (c0.out _ (s0.out.drew _ h.out)) ?_
  rintro e w1 ⟨rfl, q1⟩
  refine ⟨_, rfl, ?_⟩
  have hc1 := s1.out.kind w1 q1
  replace q1 := Lib.hid q1
  clear n0 l0 c0 s0 hc h
  go_wp2
  go_still_tail 7, (by kernel_rfl)
  refine wpStill_nilFunc rfl _ rfl _ _ _ rfl n1 ?_
  repeat still_step
  refine wpStill_nil ?_
  change wpList _ _ _ _ _ _
  refine wpList_invoke rfl _ _ _ _ rfl (.iface vt vr) (.pointer (some ⟨g, 3, Option.none⟩)) rfl rfl l1 (c1.out _ (s1.out.drew _ q1.out)) ?_
  rintro e w2 ⟨rfl, q2⟩
  refine ⟨_, rfl, ?_⟩
  have hc2 := s2.out.kind w2 q2
  replace q2 := Lib.hid q2
  clear n1 l1 c1 s1 hc1 q1
  go_wp2
  go_still_tail 7, (by kernel_rfl)
  refine wpStill_nilFunc rfl _ rfl _ _ _ rfl n2 ?_
  repeat still_step
  refine wpStill_nil ?_
  change wpList _ _ _ _ _ _
  refine wpList_invoke rfl _ _ _ _ rfl (.iface vt vr) (.pointer (some ⟨g, 4, Option.none⟩)) rfl rfl l2 (c2.out _ (s2.out.drew _ q2.out)) ?_
  rintro e w3 ⟨rfl, q3⟩
  refine ⟨_, rfl, ?_⟩
  have hc3 := s3.out.kind w3 q3
  replace q3 := Lib.hid q3
  clear n2 l2 c2 s2 hc2 q2
  go_wp2
  go_still_tail 7, (by kernel_rfl)
  refine wpStill_nilFunc rfl _ rfl _ _ _ rfl n3 ?_
  repeat still_step
  refine wpStill_nil ?_
  change wpList _ _ _ _ _ _
  refine wpList_invoke rfl _ _ _ _ rfl (.iface vt vr) (.pointer (some ⟨g, 10, Option.none⟩)) rfl rfl l3 (c3.out _ (s3.out.drew _ q3.out)) ?_
  rintro e w4 ⟨rfl, q4⟩
  refine ⟨_, rfl, ?_⟩
  have hc4 := s4.out.kind w4 q4
  replace q4 := Lib.hid q4
  clear n3 l3 c3 s3 hc3 q3
  go_wp2
  go_still_tail 7, (by kernel_rfl)
  refine wpStill_nilFunc rfl _ rfl _ _ _ rfl n4 ?_
  repeat still_step
  refine wpStill_nil ?_
  change wpList _ _ _ _ _ _
  refine wpList_invoke rfl _ _ _ _ rfl (.iface vt vr) (.pointer (some ⟨g, 6, Option.none⟩)) rfl rfl l4 (c4.out _ (s4.out.drew _ q4.out)) ?_
  rintro e w5 ⟨rfl, q5⟩
  refine ⟨_, rfl, ?_⟩
  have hc5 := s5.out.kind w5 q5
  replace q5 := Lib.hid q5
  clear n4 l4 c4 s4 hc4 q4
  go_wp2
  go_still_tail 7, (by kernel_rfl)
  refine wpStill_nilFunc rfl _ rfl _ _ _ rfl n5 ?_
  repeat still_step
  refine wpStill_nil ?_
  change wpList _ _ _ _ _ _
  refine wpList_invoke rfl _ _ _ _ rfl (.iface vt vr) (.pointer (some ⟨g, 5, Option.none⟩)) rfl rfl l5 (c5.out _ (s5.out.drew _ q5.out)) ?_
  rintro e w6 ⟨rfl, q6⟩
  refine ⟨_, rfl, ?_⟩
  have hc6 := s6.out.kind w6 q6
  replace q6 := Lib.hid q6
  clear n5 l5 c5 s5 hc5 q5
  go_wp2
  exact bodyPost_end (results_none rfl _ _ _) rfl ⟨rfl, q6.out⟩

set_option maxHeartbeats 16000000 in
set_option maxRecDepth 100000 in
theorem visit_2 (vt : TypeId) (vr : Value) (g : Nat) (P0 P1 P2 P3 P4 P5 P6 P7 : World → Prop) (w : World) (h : P0 w) (s0 : VSt g 2 P0) (s1 : VSt g 2 P1) (s2 : VSt g 2 P2) (s3 : VSt g 2 P3) (s4 : VSt g 2 P4) (s5 : VSt g 2 P5) (s6 : VSt g 2 P6) (s7 : VSt g 2 P7)
    (h0 : VStep vt vr g "pursuivant/event.amount" 8 P0 P1) (h1 : VStep vt vr g "pursuivant/event.flag" 9 P1 P2) (h2 : VStep vt vr g "pursuivant/event.number" 11 P2 P3) (h3 : VStep vt vr g "pursuivant/event.text" 3 P3 P4) (h4 : VStep vt vr g "pursuivant/event.text" 4 P4 P5) (h5 : VStep vt vr g "pursuivant/event.text" 6 P5 P6) (h6 : VStep vt vr g "pursuivant/event.headers" 5 P6 P7) :
    Calls Try.prog 35 #[.pointer (some ⟨g, 0, Option.none⟩), .iface vt vr] w fun e w' => e = .returned (.tuple #[]) ∧ P7 w' := by
  have hc := s0.kind w h
  obtain ⟨n0, f0, r0, l0, c0⟩ := h0
  obtain ⟨n1, f1, r1, l1, c1⟩ := h1
  obtain ⟨n2, f2, r2, l2, c2⟩ := h2
  obtain ⟨n3, f3, r3, l3, c3⟩ := h3
  obtain ⟨n4, f4, r4, l4, c4⟩ := h4
  obtain ⟨n5, f5, r5, l5, c5⟩ := h5
  obtain ⟨n6, f6, r6, l6, c6⟩ := h6
  replace c0 := Lib.hid c0
  replace c1 := Lib.hid c1
  replace c2 := Lib.hid c2
  replace c3 := Lib.hid c3
  replace c4 := Lib.hid c4
  replace c5 := Lib.hid c5
  replace c6 := Lib.hid c6
  replace s0 := Lib.hid s0
  replace s1 := Lib.hid s1
  replace s2 := Lib.hid s2
  replace s3 := Lib.hid s3
  replace s4 := Lib.hid s4
  replace s5 := Lib.hid s5
  replace s6 := Lib.hid s6
  replace s7 := Lib.hid s7
  replace h := Lib.hid h
  go_enter Try.func35, Try.ntmps35
  go_wp2
  go_still_tail 7, (by kernel_rfl)
  refine wpStill_nilFunc rfl _ rfl _ _ _ rfl n0 ?_
  repeat still_step
  refine wpStill_nil ?_
  change wpList _ _ _ _ _ _
  refine wpList_invoke rfl _ _ _ _ rfl (.iface vt vr) (.pointer (some ⟨g, 8, Option.none⟩)) rfl rfl l0 (c0.out _ (s0.out.drew _ h.out)) ?_
  rintro e w1 ⟨rfl, q1⟩
  refine ⟨_, rfl, ?_⟩
  have hc1 := s1.out.kind w1 q1
  replace q1 := Lib.hid q1
  clear n0 l0 c0 s0 hc h
  go_wp2
  go_still_tail 7, (by kernel_rfl)
  refine wpStill_nilFunc rfl _ rfl _ _ _ rfl n1 ?_
  repeat still_step
  refine wpStill_nil ?_
  change wpList _ _ _ _ _ _
  refine wpList_invoke rfl _ _ _ _ rfl (.iface vt vr) (.pointer (some ⟨g, 9, Option.none⟩)) rfl rfl l1 (c1.out _ (s1.out.drew _ q1.out)) ?_
  rintro e w2 ⟨rfl, q2⟩
  refine ⟨_, rfl, ?_⟩
  have hc2 := s2.out.kind w2 q2
  replace q2 := Lib.hid q2
  clear n1 l1 c1 s1 hc1 q1
  go_wp2
  go_still_tail 7, (by kernel_rfl)
  refine wpStill_nilFunc rfl _ rfl _ _ _ rfl n2 ?_
  repeat still_step
  refine wpStill_nil ?_
  change wpList _ _ _ _ _ _
  refine wpList_invoke rfl _ _ _ _ rfl (.iface vt vr) (.pointer (some ⟨g, 11, Option.none⟩)) rfl rfl l2 (c2.out _ (s2.out.drew _ q2.out)) ?_
  rintro e w3 ⟨rfl, q3⟩
  refine ⟨_, rfl, ?_⟩
  have hc3 := s3.out.kind w3 q3
  replace q3 := Lib.hid q3
  clear n2 l2 c2 s2 hc2 q2
  go_wp2
  go_still_tail 7, (by kernel_rfl)
  refine wpStill_nilFunc rfl _ rfl _ _ _ rfl n3 ?_
  repeat still_step
  refine wpStill_nil ?_
  change wpList _ _ _ _ _ _
  refine wpList_invoke rfl _ _ _ _ rfl (.iface vt vr) (.pointer (some ⟨g, 3, Option.none⟩)) rfl rfl l3 (c3.out _ (s3.out.drew _ q3.out)) ?_
  rintro e w4 ⟨rfl, q4⟩
  refine ⟨_, rfl, ?_⟩
  have hc4 := s4.out.kind w4 q4
  replace q4 := Lib.hid q4
  clear n3 l3 c3 s3 hc3 q3
  go_wp2
  go_still_tail 7, (by kernel_rfl)
  refine wpStill_nilFunc rfl _ rfl _ _ _ rfl n4 ?_
  repeat still_step
  refine wpStill_nil ?_
  change wpList _ _ _ _ _ _
  refine wpList_invoke rfl _ _ _ _ rfl (.iface vt vr) (.pointer (some ⟨g, 4, Option.none⟩)) rfl rfl l4 (c4.out _ (s4.out.drew _ q4.out)) ?_
  rintro e w5 ⟨rfl, q5⟩
  refine ⟨_, rfl, ?_⟩
  have hc5 := s5.out.kind w5 q5
  replace q5 := Lib.hid q5
  clear n4 l4 c4 s4 hc4 q4
  go_wp2
  go_still_tail 7, (by kernel_rfl)
  refine wpStill_nilFunc rfl _ rfl _ _ _ rfl n5 ?_
  repeat still_step
  refine wpStill_nil ?_
  change wpList _ _ _ _ _ _
  refine wpList_invoke rfl _ _ _ _ rfl (.iface vt vr) (.pointer (some ⟨g, 6, Option.none⟩)) rfl rfl l5 (c5.out _ (s5.out.drew _ q5.out)) ?_
  rintro e w6 ⟨rfl, q6⟩
  refine ⟨_, rfl, ?_⟩
  have hc6 := s6.out.kind w6 q6
  replace q6 := Lib.hid q6
  clear n5 l5 c5 s5 hc5 q5
  go_wp2
  go_still_tail 7, (by kernel_rfl)
  refine wpStill_nilFunc rfl _ rfl _ _ _ rfl n6 ?_
  repeat still_step
  refine wpStill_nil ?_
  change wpList _ _ _ _ _ _
  refine wpList_invoke rfl _ _ _ _ rfl (.iface vt vr) (.pointer (some ⟨g, 5, Option.none⟩)) rfl rfl l6 (c6.out _ (s6.out.drew _ q6.out)) ?_
  rintro e w7 ⟨rfl, q7⟩
  refine ⟨_, rfl, ?_⟩
  have hc7 := s7.out.kind w7 q7
  replace q7 := Lib.hid q7
  clear n6 l6 c6 s6 hc6 q6
  go_wp2
  exact bodyPost_end (results_none rfl _ _ _) rfl ⟨rfl, q7.out⟩

set_option maxHeartbeats 16000000 in
set_option maxRecDepth 100000 in
theorem visit_3 (vt : TypeId) (vr : Value) (g : Nat) (P0 P1 P2 P3 : World → Prop) (w : World) (h : P0 w) (s0 : VSt g 3 P0) (s1 : VSt g 3 P1) (s2 : VSt g 3 P2) (s3 : VSt g 3 P3)
    (h0 : VStep vt vr g "pursuivant/event.amount" 7 P0 P1) (h1 : VStep vt vr g "pursuivant/event.text" 6 P1 P2) (h2 : VStep vt vr g "pursuivant/event.headers" 5 P2 P3) :
    Calls Try.prog 35 #[.pointer (some ⟨g, 0, Option.none⟩), .iface vt vr] w fun e w' => e = .returned (.tuple #[]) ∧ P3 w' := by
  have hc := s0.kind w h
  obtain ⟨n0, f0, r0, l0, c0⟩ := h0
  obtain ⟨n1, f1, r1, l1, c1⟩ := h1
  obtain ⟨n2, f2, r2, l2, c2⟩ := h2
  replace c0 := Lib.hid c0
  replace c1 := Lib.hid c1
  replace c2 := Lib.hid c2
  replace s0 := Lib.hid s0
  replace s1 := Lib.hid s1
  replace s2 := Lib.hid s2
  replace s3 := Lib.hid s3
  replace h := Lib.hid h
  go_enter Try.func35, Try.ntmps35
  go_wp2
  go_still_tail 7, (by kernel_rfl)
  refine wpStill_nilFunc rfl _ rfl _ _ _ rfl n0 ?_
  repeat still_step
  refine wpStill_nil ?_
  change wpList _ _ _ _ _ _
  refine wpList_invoke rfl _ _ _ _ rfl (.iface vt vr) (.pointer (some ⟨g, 7, Option.none⟩)) rfl rfl l0 (c0.out _ (s0.out.drew _ h.out)) ?_
  rintro e w1 ⟨rfl, q1⟩
  refine ⟨_, rfl, ?_⟩
  have hc1 := s1.out.kind w1 q1
  replace q1 := Lib.hid q1
  clear n0 l0 c0 s0 hc h
  go_wp2
  go_still_tail 7, (by kernel_rfl)
  refine wpStill_nilFunc rfl _ rfl _ _ _ rfl n1 ?_
  repeat still_step
  refine wpStill_nil ?_
  change wpList _ _ _ _ _ _
  refine wpList_invoke rfl _ _ _ _ rfl (.iface vt vr) (.pointer (some ⟨g, 6, Option.none⟩)) rfl rfl l1 (c1.out _ (s1.out.drew _ q1.out)) ?_
  rintro e w2 ⟨rfl, q2⟩
  refine ⟨_, rfl, ?_⟩
  have hc2 := s2.out.kind w2 q2
  replace q2 := Lib.hid q2
  clear n1 l1 c1 s1 hc1 q1
  go_wp2
  go_still_tail 7, (by kernel_rfl)
  refine wpStill_nilFunc rfl _ rfl _ _ _ rfl n2 ?_
  repeat still_step
  refine wpStill_nil ?_
  change wpList _ _ _ _ _ _
  refine wpList_invoke rfl _ _ _ _ rfl (.iface vt vr) (.pointer (some ⟨g, 5, Option.none⟩)) rfl rfl l2 (c2.out _ (s2.out.drew _ q2.out)) ?_
  rintro e w3 ⟨rfl, q3⟩
  refine ⟨_, rfl, ?_⟩
  have hc3 := s3.out.kind w3 q3
  replace q3 := Lib.hid q3
  clear n2 l2 c2 s2 hc2 q2
  go_wp2
  exact bodyPost_end (results_none rfl _ _ _) rfl ⟨rfl, q3.out⟩

set_option maxHeartbeats 16000000 in
set_option maxRecDepth 100000 in
theorem visit_5 (vt : TypeId) (vr : Value) (g : Nat) (P0 P1 : World → Prop) (w : World) (h : P0 w) (s0 : VSt g 5 P0) (s1 : VSt g 5 P1)
    (h0 : VStep vt vr g "pursuivant/event.number" 11 P0 P1) :
    Calls Try.prog 35 #[.pointer (some ⟨g, 0, Option.none⟩), .iface vt vr] w fun e w' => e = .returned (.tuple #[]) ∧ P1 w' := by
  have hc := s0.kind w h
  obtain ⟨n0, f0, r0, l0, c0⟩ := h0
  replace c0 := Lib.hid c0
  replace s0 := Lib.hid s0
  replace s1 := Lib.hid s1
  replace h := Lib.hid h
  go_enter Try.func35, Try.ntmps35
  go_wp2
  go_still_tail 7, (by kernel_rfl)
  refine wpStill_nilFunc rfl _ rfl _ _ _ rfl n0 ?_
  repeat still_step
  refine wpStill_nil ?_
  change wpList _ _ _ _ _ _
  refine wpList_invoke rfl _ _ _ _ rfl (.iface vt vr) (.pointer (some ⟨g, 11, Option.none⟩)) rfl rfl l0 (c0.out _ (s0.out.drew _ h.out)) ?_
  rintro e w1 ⟨rfl, q1⟩
  refine ⟨_, rfl, ?_⟩
  have hc1 := s1.out.kind w1 q1
  replace q1 := Lib.hid q1
  clear n0 l0 c0 s0 hc h
  go_wp2
  exact bodyPost_end (results_none rfl _ _ _) rfl ⟨rfl, q1.out⟩

set_option maxHeartbeats 16000000 in
set_option maxRecDepth 100000 in
theorem visit_6 (vt : TypeId) (vr : Value) (g : Nat) (P0 P1 : World → Prop) (w : World) (h : P0 w) (s0 : VSt g 6 P0) (s1 : VSt g 6 P1)
    (h0 : VStep vt vr g "pursuivant/event.number" 11 P0 P1) :
    Calls Try.prog 35 #[.pointer (some ⟨g, 0, Option.none⟩), .iface vt vr] w fun e w' => e = .returned (.tuple #[]) ∧ P1 w' := by
  have hc := s0.kind w h
  obtain ⟨n0, f0, r0, l0, c0⟩ := h0
  replace c0 := Lib.hid c0
  replace s0 := Lib.hid s0
  replace s1 := Lib.hid s1
  replace h := Lib.hid h
  go_enter Try.func35, Try.ntmps35
  go_wp2
  go_still_tail 7, (by kernel_rfl)
  refine wpStill_nilFunc rfl _ rfl _ _ _ rfl n0 ?_
  repeat still_step
  refine wpStill_nil ?_
  change wpList _ _ _ _ _ _
  refine wpList_invoke rfl _ _ _ _ rfl (.iface vt vr) (.pointer (some ⟨g, 11, Option.none⟩)) rfl rfl l0 (c0.out _ (s0.out.drew _ h.out)) ?_
  rintro e w1 ⟨rfl, q1⟩
  refine ⟨_, rfl, ?_⟩
  have hc1 := s1.out.kind w1 q1
  replace q1 := Lib.hid q1
  clear n0 l0 c0 s0 hc h
  go_wp2
  exact bodyPost_end (results_none rfl _ _ _) rfl ⟨rfl, q1.out⟩

set_option maxHeartbeats 16000000 in
set_option maxRecDepth 100000 in
theorem visit_7 (vt : TypeId) (vr : Value) (g : Nat) (P0 P1 P2 : World → Prop) (w : World) (h : P0 w) (s0 : VSt g 7 P0) (s1 : VSt g 7 P1) (s2 : VSt g 7 P2)
    (h0 : VStep vt vr g "pursuivant/event.amount" 8 P0 P1) (h1 : VStep vt vr g "pursuivant/event.amount" 7 P1 P2) :
    Calls Try.prog 35 #[.pointer (some ⟨g, 0, Option.none⟩), .iface vt vr] w fun e w' => e = .returned (.tuple #[]) ∧ P2 w' := by
  have hc := s0.kind w h
  obtain ⟨n0, f0, r0, l0, c0⟩ := h0
  obtain ⟨n1, f1, r1, l1, c1⟩ := h1
  replace c0 := Lib.hid c0
  replace c1 := Lib.hid c1
  replace s0 := Lib.hid s0
  replace s1 := Lib.hid s1
  replace s2 := Lib.hid s2
  replace h := Lib.hid h
  go_enter Try.func35, Try.ntmps35
  go_wp2
  go_still_tail 7, (by kernel_rfl)
  refine wpStill_nilFunc rfl _ rfl _ _ _ rfl n0 ?_
  repeat still_step
  refine wpStill_nil ?_
  change wpList _ _ _ _ _ _
  refine wpList_invoke rfl _ _ _ _ rfl (.iface vt vr) (.pointer (some ⟨g, 8, Option.none⟩)) rfl rfl l0 (c0.out _ (s0.out.drew _ h.out)) ?_
  rintro e w1 ⟨rfl, q1⟩
  refine ⟨_, rfl, ?_⟩
  have hc1 := s1.out.kind w1 q1
  replace q1 := Lib.hid q1
  clear n0 l0 c0 s0 hc h
  go_wp2
  go_still_tail 7, (by kernel_rfl)
  refine wpStill_nilFunc rfl _ rfl _ _ _ rfl n1 ?_
  repeat still_step
  refine wpStill_nil ?_
  change wpList _ _ _ _ _ _
  refine wpList_invoke rfl _ _ _ _ rfl (.iface vt vr) (.pointer (some ⟨g, 7, Option.none⟩)) rfl rfl l1 (c1.out _ (s1.out.drew _ q1.out)) ?_
  rintro e w2 ⟨rfl, q2⟩
  refine ⟨_, rfl, ?_⟩
  have hc2 := s2.out.kind w2 q2
  replace q2 := Lib.hid q2
  clear n1 l1 c1 s1 hc1 q1
  go_wp2
  exact bodyPost_end (results_none rfl _ _ _) rfl ⟨rfl, q2.out⟩

set_option maxHeartbeats 16000000 in
set_option maxRecDepth 100000 in
theorem visit_none (vt : TypeId) (vr : Value) (g : Nat) (kd : Int) (w : World) (hc : w.cell? ⟨g, 0, Option.none⟩ = some (.int .i64 kd)) (hk : kd < 1 ∨ kd = 4 ∨ 7 < kd) :
    Calls Try.prog 35 #[.pointer (some ⟨g, 0, Option.none⟩), .iface vt vr] w fun e w' => e = .returned (.tuple #[]) ∧ w' = w := by
  have e1 : ¬ kd = 1 := by omega
  have e2 : ¬ kd = 2 := by omega
  have e3 : ¬ kd = 3 := by omega
  have e5 : ¬ kd = 5 := by omega
  have e6 : ¬ kd = 6 := by omega
  have e7 : ¬ kd = 7 := by omega
  clear hk
  go_enter Try.func35, Try.ntmps35
  go_wp2
  exact bodyPost_end (results_none rfl _ _ _) rfl ⟨rfl, rfl⟩
end Go.Proofs.Ytodncamohimmmaa
