/-
  Small functions of event and fetch: within, oneOf. Conditions: those that each theorem states.
-/
import Derived.Test.YtodncamohimmmaaEvRefOk
import Derived.Test.YtodncamohimmmaaLow2
import Derived.Laws.BitsLemmas
namespace Go.Proofs.Ytodncamohimmmaa
open Go.RowKit Go.Lib Leb

set_option maxRecDepth 100000 in
theorem within_any (n a b : Int) (w : World) : Calls Try.prog 43 #[.int .i64 n, .int .i64 a, .int .i64 b] w fun e w' => e = .returned (.bool (decide (a ≤ n ∧ n ≤ b))) ∧ w' = w := by
  by_cases h1 : a ≤ n
  all_goals by_cases h2 : n ≤ b
  all_goals
    go_enter Try.func43, Try.ntmps43
    go_wp2
    go_ret
    exact ⟨ret_bool (by simp [h1, h2]), rfl⟩
set_option maxRecDepth 100000 in
theorem oneOf_any (n b : Int) (w : World) : Calls Try.prog 55 #[.int .i64 n, .int .i64 b] w fun e w' => e = .returned (.bool (decide (1 ≤ n ∧ n ≤ b))) ∧ w' = w := by
  by_cases h1 : 1 ≤ n
  all_goals by_cases h2 : n ≤ b
  all_goals
    go_enter Try.func55, Try.ntmps55
    go_wp2
    go_ret
    exact ⟨ret_bool (by simp [h1, h2]), rfl⟩
set_option maxRecDepth 100000 in
theorem fgoodHeaders_nil (w : World) : Calls Try.prog 56 #[.slice Option.none 0 0] w fun e w' => e = .returned (.bool true) ∧ w' = w := by
  go_enter Try.func56, Try.ntmps56
  go_wp2
  go_loopw [7] (fun i wr => i = .int .i64 0 ∧ w = wr) (fun _ _ => 0)
  case atStart => exact ⟨rfl, rfl⟩
  case round =>
    obtain ⟨rfl, rfl⟩ := hrel
    go_wp2
    go_ret
    exact ⟨rfl, rfl⟩
theorem infoReq : (Try.prog.info? 27).map (·.size) = some 9 := by kernel_rfl
theorem i64_and3 (n : Int) : bits .and .i64 n 3 = n % 4 := by
  have h3 : (BitVec.ofInt 64 3).toNat = 2 ^ 2 - 1 := by decide
  have key : (BitVec.ofInt 64 n &&& BitVec.ofInt 64 3).toNat = (n % ((2 ^ 64 : Nat) : Int)).toNat % 2 ^ 2 := by
    rw [BitVec.toNat_and, BitVec.toNat_ofInt, h3, Nat.and_two_pow_sub_one_eq_mod]
  show IntKind.i64.wrap ((BitVec.ofInt 64 n &&& BitVec.ofInt 64 3).toNat : Nat) = n % 4
  rw [key, IntKind.wrap_i64]
  omega
set_option maxHeartbeats 8000000 in
set_option maxRecDepth 100000 in
theorem modes_any (code : Int) (w : World) :
    Calls Try.prog 49 #[.int .i64 code] w fun e w' => e = .returned (.agg #[.string ⟨#[]⟩, .string ⟨#[]⟩, .int .i64 (code % 4), .int .i64 (code / 4 % 4), .int .i64 (code / 16 % 4), .int .i64 (code / 64), .string ⟨#[]⟩, .slice Option.none 0 0, .string ⟨#[]⟩]) ∧ Below w.heap.size w w' := by
  go_enter Try.func49, Try.ntmps49
  go_wp2
  exact bodyPost_ret (results_cell_row rfl _ _ w.heap.size _ _ _ _ rfl (heap_alloc_new w _) Try.underlying27 rfl infoReq) rfl ⟨by rw [i64_and3, i64_and3, i64_and3], below_box w _⟩
set_option maxHeartbeats 8000000 in
set_option maxRecDepth 100000 in
theorem fgood_modes (m c r d : Int) (w : World) :
    Calls Try.prog 50 #[.agg #[.string ⟨#[]⟩, .string ⟨#[]⟩, .int .i64 m, .int .i64 c, .int .i64 r, .int .i64 d, .string ⟨#[]⟩, .slice Option.none 0 0, .string ⟨#[]⟩]] w fun e w' => e = .returned (.bool (decide (okModes m c r d))) ∧ Below w.heap.size w w' := by
  have hbox := Lib.hid (below_box w (.cells #[.string ⟨#[]⟩, .string ⟨#[]⟩, .int .i64 m, .int .i64 c, .int .i64 r, .int .i64 d, .string ⟨#[]⟩, .slice Option.none 0 0, .string ⟨#[]⟩] 27))
  have hiff : okModes m c r d ↔ ((1 ≤ m ∧ m ≤ 3) ∧ (1 ≤ c ∧ c ≤ 3) ∧ (1 ≤ r ∧ r ≤ 3) ∧ (1 ≤ d ∧ d ≤ 10)) := by unfold okModes; omega
  rcases (show (¬ (1 ≤ m ∧ m ≤ 3)) ∨ ((1 ≤ m ∧ m ≤ 3) ∧ ¬ (1 ≤ c ∧ c ≤ 3)) ∨ ((1 ≤ m ∧ m ≤ 3) ∧ (1 ≤ c ∧ c ≤ 3) ∧ ¬ (1 ≤ r ∧ r ≤ 3)) ∨ ((1 ≤ m ∧ m ≤ 3) ∧ (1 ≤ c ∧ c ≤ 3) ∧ (1 ≤ r ∧ r ≤ 3) ∧ ¬ (1 ≤ d ∧ d ≤ 10)) ∨ ((1 ≤ m ∧ m ≤ 3) ∧ (1 ≤ c ∧ c ≤ 3) ∧ (1 ≤ r ∧ r ≤ 3) ∧ (1 ≤ d ∧ d ≤ 10)) by omega) with h | ⟨h1, h⟩ | ⟨h1, h2, h⟩ | ⟨h1, h2, h3, h⟩ | ⟨h1, h2, h3, h⟩
  case inl =>
    have hv : decide (okModes m c r d) = false := decide_eq_false fun h' => h (hiff.1 h').1
    have e1 := Lib.hid (decide_eq_false h)
    rw [hv]
    clear h hiff hv
    go_enter Try.func50, Try.ntmps50
    go_wp2_with (go_at_call 55; refine (oneOf_any _ _ _).mono ?_; rintro e w' ⟨rfl, rfl⟩; rw [e1.out])
    go_ret
    exact ⟨rfl, hbox.out⟩
  case inr.inl =>
    have hv : decide (okModes m c r d) = false := decide_eq_false fun h' => h (hiff.1 h').2.1
    have e1 := Lib.hid (decide_eq_true h1)
    have e2 := Lib.hid (decide_eq_false h)
    rw [hv]
    clear h h1 hiff hv
    go_enter Try.func50, Try.ntmps50
    go_wp2_with (go_at_call 55; refine (oneOf_any _ _ _).mono ?_; rintro e w' ⟨rfl, rfl⟩; first | rw [e1.out] | rw [e2.out])
    go_ret
    exact ⟨rfl, hbox.out⟩
  case inr.inr.inl =>
    have hv : decide (okModes m c r d) = false := decide_eq_false fun h' => h (hiff.1 h').2.2.1
    have e1 := Lib.hid (decide_eq_true h1)
    have e2 := Lib.hid (decide_eq_true h2)
    have e3 := Lib.hid (decide_eq_false h)
    rw [hv]
    clear h h1 h2 hiff hv
    go_enter Try.func50, Try.ntmps50
    go_wp2_with (go_at_call 55; refine (oneOf_any _ _ _).mono ?_; rintro e w' ⟨rfl, rfl⟩; first | rw [e1.out] | rw [e2.out] | rw [e3.out])
    go_ret
    exact ⟨rfl, hbox.out⟩
  case inr.inr.inr.inl =>
    have hv : decide (okModes m c r d) = false := decide_eq_false fun h' => h (hiff.1 h').2.2.2
    have e1 := Lib.hid (decide_eq_true h1)
    have e2 := Lib.hid (decide_eq_true h2)
    have e3 := Lib.hid (decide_eq_true h3)
    have e4 := Lib.hid (decide_eq_false h)
    rw [hv]
    clear h h1 h2 h3 hiff hv
    go_enter Try.func50, Try.ntmps50
    go_wp2_with (go_at_call 55; refine (oneOf_any _ _ _).mono ?_; rintro e w' ⟨rfl, rfl⟩; first | rw [e1.out] | rw [e2.out] | rw [e3.out] | rw [e4.out])
    go_ret
    exact ⟨rfl, hbox.out⟩
  case inr.inr.inr.inr =>
    have hv : decide (okModes m c r d) = true := decide_eq_true (hiff.2 ⟨h1, h2, h3, h⟩)
    have e1 := Lib.hid (decide_eq_true h1)
    have e2 := Lib.hid (decide_eq_true h2)
    have e3 := Lib.hid (decide_eq_true h3)
    have e4 := Lib.hid (decide_eq_true h)
    rw [hv]
    clear h h1 h2 h3 hiff hv
    go_enter Try.func50, Try.ntmps50
    go_wp2_with (first
      | (go_at_call 55; refine (oneOf_any _ _ _).mono ?_; rintro e w' ⟨rfl, rfl⟩; first | rw [e1.out] | rw [e2.out] | rw [e3.out] | rw [e4.out])
      | (go_at_call 56; refine (fgoodHeaders_nil _).mono ?_; rintro e w' ⟨rfl, rfl⟩))
    go_ret
    exact ⟨rfl, hbox.out⟩
end Go.Proofs.Ytodncamohimmmaa
