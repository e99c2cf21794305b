/-
  event's eraser and what it finds: strange. Conditions: those that each theorem states.
-/
import Derived.Test.YtodncamohimmmaaEvPVisit
import Derived.Test.YtodncamohimmmaaEvZero
import Derived.Test.YtodncamohimmmaaLow1
namespace Go.Proofs.Ytodncamohimmmaa
open Go.RowKit Go.Lib Leb

structure PE (w : World) (g : Nat) (x : Ev) (A : Option Addr) (m c : Nat) (W : World) : Prop where
  alt : Alt w W (fun j => j = g)
  row : W.heap[g]? = some (.cells (ecell12 x A m c) 25 (0, 0))
section
variable {w W : World} {g : Nat} {x y : Ev} {A B : Option Addr} {m c n d : Nat}
theorem PE.lt (h : PE w g x A m c W) : g < W.heap.size := (Array.getElem?_eq_some_iff.1 h.row).1
theorem PE.rowV (h : PE w g x A m c W) (o : Obj) : (W.alloc o).heap[g]? = some (.cells (ecell12 x A m c) 25 (0, 0)) := ((below_box W o).block g h.lt).trans h.row
theorem PE.set (h : PE w g x A m c W) (o : Obj) (i : Nat) (v : Value) (he : (ecell12 x A m c).setIfInBounds i v = ecell12 y B n d) : PE w g y B n d ((W.alloc o).setCell ⟨g, i, Option.none⟩ v) :=
  ⟨(h.alt.behind (below_box W o)).trans (alt_set _ _ _ rfl) fun _ _ e => e.symm, by rw [heap_setCell_same _ _ _ _ _ _ (h.rowV o), he]⟩
theorem PE.st {k : Int} (h : x.kind = k) : VSt g k (PE w g x A m c) := ⟨fun W hW => by rw [cell_of_row W _ 0 _ _ _ hW.row, ← h]; rfl, fun W hW => ⟨hW.alt.behind (Below.refl _ W).drew, hW.row⟩⟩
set_option maxRecDepth 100000 in
theorem er_amount8 : VStep 107 (.agg #[]) g "pursuivant/event.amount" 8 (PE w g x A m c) (PE w g { x with code := 0 } A m c) := by
  refine ⟨fun W => by kernel_rfl, 96, .agg #[], leads_of (fun W => by kernel_rfl) (fun vs W => by kernel_rfl), fun W h => ?_⟩
  have hc : (W.alloc (.cells #[] 107)).cell? ⟨g, 8, Option.none⟩ = some (.int .i64 x.code) := by rw [cell_of_row _ _ _ _ _ _ (h.rowV _)]; rfl
  have hf : (W.alloc (.cells #[] 107)).frozen? ⟨g, 8, Option.none⟩ = false := frozen_of_row _ _ _ _ _ (h.rowV _)
  have hs := Lib.hid (h.set (y := { x with code := 0 }) (B := A) (n := m) (d := c) (.cells #[] 107) 8 (.int .i64 0) rfl)
  clear h
  go_enter Try.func96, Try.ntmps96
  go_wp2
  exact bodyPost_end (results_none rfl _ _ _) rfl ⟨rfl, hs.out⟩
set_option maxRecDepth 100000 in
theorem er_amount7 : VStep 107 (.agg #[]) g "pursuivant/event.amount" 7 (PE w g x A m c) (PE w g { x with status := 0 } A m c) := by
  refine ⟨fun W => by kernel_rfl, 96, .agg #[], leads_of (fun W => by kernel_rfl) (fun vs W => by kernel_rfl), fun W h => ?_⟩
  have hc : (W.alloc (.cells #[] 107)).cell? ⟨g, 7, Option.none⟩ = some (.int .i64 x.status) := by rw [cell_of_row _ _ _ _ _ _ (h.rowV _)]; rfl
  have hf : (W.alloc (.cells #[] 107)).frozen? ⟨g, 7, Option.none⟩ = false := frozen_of_row _ _ _ _ _ (h.rowV _)
  have hs := Lib.hid (h.set (y := { x with status := 0 }) (B := A) (n := m) (d := c) (.cells #[] 107) 7 (.int .i64 0) rfl)
  clear h
  go_enter Try.func96, Try.ntmps96
  go_wp2
  exact bodyPost_end (results_none rfl _ _ _) rfl ⟨rfl, hs.out⟩
set_option maxRecDepth 100000 in
theorem er_flag9 : VStep 107 (.agg #[]) g "pursuivant/event.flag" 9 (PE w g x A m c) (PE w g { x with cred := false } A m c) := by
  refine ⟨fun W => by kernel_rfl, 97, .agg #[], leads_of (fun W => by kernel_rfl) (fun vs W => by kernel_rfl), fun W h => ?_⟩
  have hc : (W.alloc (.cells #[] 107)).cell? ⟨g, 9, Option.none⟩ = some (.bool x.cred) := by rw [cell_of_row _ _ _ _ _ _ (h.rowV _)]; rfl
  have hf : (W.alloc (.cells #[] 107)).frozen? ⟨g, 9, Option.none⟩ = false := frozen_of_row _ _ _ _ _ (h.rowV _)
  have hs := Lib.hid (h.set (y := { x with cred := false }) (B := A) (n := m) (d := c) (.cells #[] 107) 9 (.bool false) rfl)
  clear h
  go_enter Try.func97, Try.ntmps97
  go_wp2
  exact bodyPost_end (results_none rfl _ _ _) rfl ⟨rfl, hs.out⟩
set_option maxRecDepth 100000 in
theorem er_number11 : VStep 107 (.agg #[]) g "pursuivant/event.number" 11 (PE w g x A m c) (PE w g { x with n := 0 } A m c) := by
  refine ⟨fun W => by kernel_rfl, 99, .agg #[], leads_of (fun W => by kernel_rfl) (fun vs W => by kernel_rfl), fun W h => ?_⟩
  have hc : (W.alloc (.cells #[] 107)).cell? ⟨g, 11, Option.none⟩ = some (.int .u64 (x.n : Int)) := by rw [cell_of_row _ _ _ _ _ _ (h.rowV _)]; rfl
  have hf : (W.alloc (.cells #[] 107)).frozen? ⟨g, 11, Option.none⟩ = false := frozen_of_row _ _ _ _ _ (h.rowV _)
  have hs := Lib.hid (h.set (y := { x with n := 0 }) (B := A) (n := m) (d := c) (.cells #[] 107) 11 (.int .u64 0) rfl)
  clear h
  go_enter Try.func99, Try.ntmps99
  go_wp2
  exact bodyPost_end (results_none rfl _ _ _) rfl ⟨rfl, hs.out⟩
set_option maxRecDepth 100000 in
theorem er_text3 : VStep 107 (.agg #[]) g "pursuivant/event.text" 3 (PE w g x A m c) (PE w g { x with me := nil9 } A m c) := by
  refine ⟨fun W => by kernel_rfl, 100, .agg #[], leads_of (fun W => by kernel_rfl) (fun vs W => by kernel_rfl), fun W h => ?_⟩
  have hc : (W.alloc (.cells #[] 107)).cell? ⟨g, 3, Option.none⟩ = some (.string x.me) := by rw [cell_of_row _ _ _ _ _ _ (h.rowV _)]; rfl
  have hf : (W.alloc (.cells #[] 107)).frozen? ⟨g, 3, Option.none⟩ = false := frozen_of_row _ _ _ _ _ (h.rowV _)
  have hs := Lib.hid (h.set (y := { x with me := nil9 }) (B := A) (n := m) (d := c) (.cells #[] 107) 3 (.string ⟨#[]⟩) rfl)
  clear h
  go_enter Try.func100, Try.ntmps100
  go_wp2
  exact bodyPost_end (results_none rfl _ _ _) rfl ⟨rfl, hs.out⟩
set_option maxRecDepth 100000 in
theorem er_text4 : VStep 107 (.agg #[]) g "pursuivant/event.text" 4 (PE w g x A m c) (PE w g { x with url := nil9 } A m c) := by
  refine ⟨fun W => by kernel_rfl, 100, .agg #[], leads_of (fun W => by kernel_rfl) (fun vs W => by kernel_rfl), fun W h => ?_⟩
  have hc : (W.alloc (.cells #[] 107)).cell? ⟨g, 4, Option.none⟩ = some (.string x.url) := by rw [cell_of_row _ _ _ _ _ _ (h.rowV _)]; rfl
  have hf : (W.alloc (.cells #[] 107)).frozen? ⟨g, 4, Option.none⟩ = false := frozen_of_row _ _ _ _ _ (h.rowV _)
  have hs := Lib.hid (h.set (y := { x with url := nil9 }) (B := A) (n := m) (d := c) (.cells #[] 107) 4 (.string ⟨#[]⟩) rfl)
  clear h
  go_enter Try.func100, Try.ntmps100
  go_wp2
  exact bodyPost_end (results_none rfl _ _ _) rfl ⟨rfl, hs.out⟩
set_option maxRecDepth 100000 in
theorem er_text10 : VStep 107 (.agg #[]) g "pursuivant/event.text" 10 (PE w g x A m c) (PE w g { x with no := nil9 } A m c) := by
  refine ⟨fun W => by kernel_rfl, 100, .agg #[], leads_of (fun W => by kernel_rfl) (fun vs W => by kernel_rfl), fun W h => ?_⟩
  have hc : (W.alloc (.cells #[] 107)).cell? ⟨g, 10, Option.none⟩ = some (.string x.no) := by rw [cell_of_row _ _ _ _ _ _ (h.rowV _)]; rfl
  have hf : (W.alloc (.cells #[] 107)).frozen? ⟨g, 10, Option.none⟩ = false := frozen_of_row _ _ _ _ _ (h.rowV _)
  have hs := Lib.hid (h.set (y := { x with no := nil9 }) (B := A) (n := m) (d := c) (.cells #[] 107) 10 (.string ⟨#[]⟩) rfl)
  clear h
  go_enter Try.func100, Try.ntmps100
  go_wp2
  exact bodyPost_end (results_none rfl _ _ _) rfl ⟨rfl, hs.out⟩
set_option maxRecDepth 100000 in
theorem er_text6 : VStep 107 (.agg #[]) g "pursuivant/event.text" 6 (PE w g x A m c) (PE w g { x with body := nil9 } A m c) := by
  refine ⟨fun W => by kernel_rfl, 100, .agg #[], leads_of (fun W => by kernel_rfl) (fun vs W => by kernel_rfl), fun W h => ?_⟩
  have hc : (W.alloc (.cells #[] 107)).cell? ⟨g, 6, Option.none⟩ = some (.string x.body) := by rw [cell_of_row _ _ _ _ _ _ (h.rowV _)]; rfl
  have hf : (W.alloc (.cells #[] 107)).frozen? ⟨g, 6, Option.none⟩ = false := frozen_of_row _ _ _ _ _ (h.rowV _)
  have hs := Lib.hid (h.set (y := { x with body := nil9 }) (B := A) (n := m) (d := c) (.cells #[] 107) 6 (.string ⟨#[]⟩) rfl)
  clear h
  go_enter Try.func100, Try.ntmps100
  go_wp2
  exact bodyPost_end (results_none rfl _ _ _) rfl ⟨rfl, hs.out⟩
set_option maxRecDepth 100000 in
theorem er_headers5 : VStep 107 (.agg #[]) g "pursuivant/event.headers" 5 (PE w g x A m c) (PE w g { x with hs := [] } Option.none 0 0) := by
  refine ⟨fun W => by kernel_rfl, 98, .agg #[], leads_of (fun W => by kernel_rfl) (fun vs W => by kernel_rfl), fun W h => ?_⟩
  have hc : (W.alloc (.cells #[] 107)).cell? ⟨g, 5, Option.none⟩ = some (.slice A m c) := by rw [cell_of_row _ _ _ _ _ _ (h.rowV _)]; rfl
  have hf : (W.alloc (.cells #[] 107)).frozen? ⟨g, 5, Option.none⟩ = false := frozen_of_row _ _ _ _ _ (h.rowV _)
  have hs := Lib.hid (h.set (y := { x with hs := [] }) (B := Option.none) (n := 0) (d := 0) (.cells #[] 107) 5 (.slice Option.none 0 0) rfl)
  clear h
  go_enter Try.func98, Try.ntmps98
  go_wp2
  exact bodyPost_end (results_none rfl _ _ _) rfl ⟨rfl, hs.out⟩
end
def eraseE (x : Ev) : Ev :=
  if x.kind = 1 then { x with code := 0, me := nil9, url := nil9, no := nil9, body := nil9, hs := [] }
  else if x.kind = 2 then { x with code := 0, cred := false, n := 0, me := nil9, url := nil9, body := nil9, hs := [] }
  else if x.kind = 3 then { x with status := 0, body := nil9, hs := [] }
  else if x.kind = 5 then { x with n := 0 }
  else if x.kind = 6 then { x with n := 0 }
  else if x.kind = 7 then { x with code := 0, status := 0 }
  else x
theorem eraseE_none {x : Ev} (h : x.kind < 1 ∨ x.kind = 4 ∨ 7 < x.kind) : eraseE x = x := by
  unfold eraseE
  rw [if_neg (by omega), if_neg (by omega), if_neg (by omega), if_neg (by omega), if_neg (by omega), if_neg (by omega)]
theorem visitE_any {w W : World} {g : Nat} {x : Ev} {A : Option Addr} {m c : Nat} (h : PE w g x A m c W) (hl : m = x.hs.length) :
    Calls Try.prog 35 #[.pointer (some ⟨g, 0, Option.none⟩), .iface 107 (.agg #[])] W fun e W' => e = .returned (.tuple #[]) ∧ ∃ A' m' c', PE w g (eraseE x) A' m' c' W' ∧ m' = (eraseE x).hs.length := by
  by_cases h0 : x.kind < 1 ∨ x.kind = 4 ∨ 7 < x.kind
  · refine (visit_none 107 (.agg #[]) g x.kind W ((PE.st rfl).kind W h) h0).mono ?_
    rintro e W' ⟨rfl, rfl⟩
    rw [eraseE_none h0]
    exact ⟨rfl, A, m, c, h, hl⟩
  rcases (show x.kind = 1 ∨ x.kind = 2 ∨ x.kind = 3 ∨ x.kind = 5 ∨ x.kind = 6 ∨ x.kind = 7 by omega) with hk | hk | hk | hk | hk | hk
  · refine (visit_1 107 (.agg #[]) g _ _ _ _ _ _ _ W h (PE.st (by exact hk)) (PE.st (by exact hk)) (PE.st (by exact hk)) (PE.st (by exact hk)) (PE.st (by exact hk)) (PE.st (by exact hk)) (PE.st (by exact hk)) er_amount8 er_text3 er_text4 er_text10 er_text6 er_headers5).mono ?_
    rintro e W' ⟨rfl, h'⟩
    have he : eraseE x = { x with code := 0, me := nil9, url := nil9, no := nil9, body := nil9, hs := [] } := by unfold eraseE; simp [hk]
    rw [he]
    exact ⟨rfl, _, _, _, h', rfl⟩
  · refine (visit_2 107 (.agg #[]) g _ _ _ _ _ _ _ _ W h (PE.st (by exact hk)) (PE.st (by exact hk)) (PE.st (by exact hk)) (PE.st (by exact hk)) (PE.st (by exact hk)) (PE.st (by exact hk)) (PE.st (by exact hk)) (PE.st (by exact hk)) er_amount8 er_flag9 er_number11 er_text3 er_text4 er_text6 er_headers5).mono ?_
    rintro e W' ⟨rfl, h'⟩
    have he : eraseE x = { x with code := 0, cred := false, n := 0, me := nil9, url := nil9, body := nil9, hs := [] } := by unfold eraseE; simp [hk]
    rw [he]
    exact ⟨rfl, _, _, _, h', rfl⟩
  · refine (visit_3 107 (.agg #[]) g _ _ _ _ W h (PE.st (by exact hk)) (PE.st (by exact hk)) (PE.st (by exact hk)) (PE.st (by exact hk)) er_amount7 er_text6 er_headers5).mono ?_
    rintro e W' ⟨rfl, h'⟩
    have he : eraseE x = { x with status := 0, body := nil9, hs := [] } := by unfold eraseE; simp [hk]
    rw [he]
    exact ⟨rfl, _, _, _, h', rfl⟩
  · refine (visit_5 107 (.agg #[]) g _ _ W h (PE.st (by exact hk)) (PE.st (by exact hk)) er_number11).mono ?_
    rintro e W' ⟨rfl, h'⟩
    have he : eraseE x = { x with n := 0 } := by unfold eraseE; simp [hk]
    rw [he]
    exact ⟨rfl, _, _, _, h', hl⟩
  · refine (visit_6 107 (.agg #[]) g _ _ W h (PE.st (by exact hk)) (PE.st (by exact hk)) er_number11).mono ?_
    rintro e W' ⟨rfl, h'⟩
    have he : eraseE x = { x with n := 0 } := by unfold eraseE; simp [hk]
    rw [he]
    exact ⟨rfl, _, _, _, h', hl⟩
  · refine (visit_7 107 (.agg #[]) g _ _ _ W h (PE.st (by exact hk)) (PE.st (by exact hk)) (PE.st (by exact hk)) er_amount8 er_amount7).mono ?_
    rintro e W' ⟨rfl, h'⟩
    have he : eraseE x = { x with code := 0, status := 0 } := by unfold eraseE; simp [hk]
    rw [he]
    exact ⟨rfl, _, _, _, h', hl⟩
set_option maxHeartbeats 16000000 in
set_option maxRecDepth 100000 in
theorem strangeE_any (x : Ev) (A : Option Addr) (m c : Nat) (w : World) (ha : Hds w A m c x.hs) :
    Calls Try.prog 27 #[evv x A m c] w fun e w' => e = .returned (.bool (!decide (restE (eraseE x)))) ∧ Below w.heap.size w w' := by
  have hp : PE w w.heap.size x A m c (w.alloc (.cells (ecell12 x A m c) 25)) := ⟨alt_below (below_box w _) _, heap_alloc_new w _⟩
  have hv := Lib.hid (visitE_any hp ha.len.symm)
  clear hp ha
  have hev : evv x A m c = .agg (ecell12 x A m c) := rfl
  have hsz : (ecell12 x A m c).size = 12 := rfl
  obtain ⟨y, hy⟩ : ∃ y, y = eraseE x := ⟨_, rfl⟩
  rw [← hy] at hv ⊢
  clear hy
  obtain ⟨kind, ses, tick, me, url, hs, body, status, code, cred, no, k⟩ := x
  unfold evv
  unfold ecell12 at *
  simp only at *
  clear hev hsz
  go_enter Try.func27, Try.ntmps27
  go_wp2_with (go_at_call 35; refine hv.out.mono ?_; rintro e w2 ⟨rfl, A', m', c', hq, hm⟩; obtain ⟨x0, x1, x2, a3, a4, a5, a6, a7, a8, a9, a10, a11⟩ := EvAt.row hq.row; have hb := Lib.hid (hq.alt.below (Nat.le_refl _) (fun j e => by omega)); have hm' := Lib.hid hm; clear hm hq x0 x1 x2 hv)
  all_goals
    go_ret
    refine ⟨ret_bool ?_, hb.out⟩
    have hl := hm'.out
    clear hm' hb
    obtain ⟨kind, ses, tick, me, url, hs, body, status, code, cred, no, k⟩ := y
    simp only at *
    have hl2 : hs = [] ↔ m' = 0 := by rw [hl]; exact List.length_eq_zero_iff.symm
    clear hl
    simp_all [restE, ← bytes_nil]
    try (by_cases hk : k = 0 <;> simp [hk])
end Go.Proofs.Ytodncamohimmmaa
