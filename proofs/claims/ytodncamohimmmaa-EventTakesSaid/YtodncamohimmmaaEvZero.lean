/-
  The reference's SameEvent (layer 18), of an event and the zero one. Conditions: those that each theorem states.
-/
import Derived.Test.YtodncamohimmmaaEvSame
namespace Go.Proofs.Ytodncamohimmmaa
open Go.RowKit Go.Lib Leb

set_option maxHeartbeats 2000000 in
set_option maxRecDepth 100000 in
theorem same9_nil (A : Option Addr) (m c : Nat) (w : World) (hm : m ≤ 1000000) :
    Calls Try.prog 29 #[.slice A m c, .slice Option.none 0 0] w fun e w' => e = .returned (.bool (decide (m = 0))) ∧ Below w.heap.size w w' := by
  by_cases h : m = 0
  · subst h
    go_enter Try.func29, Try.ntmps29
    go_wp2
    go_loopw [5] (fun i wr => i = .int .i64 0 ∧ w = wr) (fun _ _ => 0)
    case atStart => exact ⟨rfl, rfl⟩
    case round =>
      obtain ⟨rfl, rfl⟩ := hrel
      go_wp2
      go_ret
      exact ⟨rfl, Below.refl _ _⟩
  · go_enter Try.func29, Try.ntmps29
    have h1 : ((m : Int) != 0) = true := by simp; omega
    go_wp2
    go_ret
    exact ⟨ret_bool (by simp [h]), Below.refl _ _⟩

def restE (x : Ev) : Prop := x.me = nil9 ∧ x.url = nil9 ∧ x.hs = [] ∧ x.body = nil9 ∧ x.status = 0 ∧ x.code = 0 ∧ x.cred = false ∧ x.no = nil9 ∧ x.n = 0
instance (x : Ev) : Decidable (restE x) := by unfold restE; infer_instance
theorem bytes_nil (x : ByteArray) : x.toList = [] ↔ x = nil9 := by
  rw [ByteArray.toList_eq]
  constructor
  · intro h
    cases x with
    | mk d =>
      have : d = #[] := by simpa using h
      rw [this]
      rfl
  · rintro rfl
    rfl

set_option maxHeartbeats 8000000 in
set_option maxRecDepth 100000 in
theorem zeroE_any (x : Ev) (A : Option Addr) (m c : Nat) (w : World) (ha : Hds w A m c x.hs) (hm : m ≤ 1000000) (h0 : x.kind = 0 ∧ x.ses = 0 ∧ x.tick = 0) :
    Calls Try.prog 20 #[evv x A m c, evv zev Option.none 0 0] w fun e w' => e = .returned (.bool (decide (restE x))) ∧ Below w.heap.size w w' := by
  have hsame := Lib.hid (fun W => same9_nil A m c W hm)
  have htwo := Lib.hid (two_boxes w x zev A Option.none m c 0 0 25 25)
  have hbel := Lib.hid (below_then (below_box w (.cells (ecell12 x A m c) 25)) (below_box _ (.cells (ecell12 zev Option.none 0 0) 25)))
  have hlen : m = 0 ↔ x.hs = [] := by rw [← ha.len]; exact List.length_eq_zero_iff
  have hlen' := Lib.hid hlen
  clear ha hm hlen
  obtain ⟨kind, ses, tick, me, url, hs, body, status, code, cred, no, k⟩ := x
  obtain ⟨rfl, rfl, rfl⟩ := h0
  unfold evv
  unfold ecell12 zev nil9 at *
  simp only at *
  go_enter Try.func20, Try.ntmps20
  go_wp2_with (first
    | (go_at_call 29; refine (hsame.out _).mono ?_; rintro e w2 ⟨rfl, hb2⟩; obtain ⟨x1, x2, x3⟩ := htwo.out _ hb2; have a6 := x1.c6; have a7 := x1.c7; have a8 := x1.c8; have a9 := x1.c9; have a10 := x1.c10; have a11 := x1.c11; have b6 := x2.c6; have b7 := x2.c7; have b8 := x2.c8; have b9 := x2.c9; have b10 := x2.c10; have b11 := x2.c11; have hx3 := Lib.hid x3; simp only at a6 a7 a8 a9 a10 a11 b6 b7 b8 b9 b10 b11; clear hb2 x1 x2 x3))
  all_goals
    go_ret
    refine ⟨ret_bool ?_, by first | exact hx3.out | exact hbel.out⟩
    have hl := hlen'.out
    clear hlen' htwo hbel hsame
    simp_all [restE, ← bytes_nil]
    try (by_cases hk : k = 0 <;> simp [hk])
end Go.Proofs.Ytodncamohimmmaa
