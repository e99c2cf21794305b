/-
  The types that a form can send, as the program has them. Conditions: those that each theorem states.
-/
import Derived.Test.YtalnjlodldhfbaaGreatDoorLow
import Derived.Test.YtalnjlodldhfbaaGreatDoorCutOne
namespace Go.Proofs.YtalnjlodldhfbaaGreatDoor
open Go.RowKit Go.Lib Go.Shelf

def forms : List ByteArray := [⟨#[97, 112, 112, 108, 105, 99, 97, 116, 105, 111, 110, 47, 120, 45, 119, 119, 119, 45, 102, 111, 114, 109, 45, 117, 114, 108, 101, 110, 99, 111, 100, 101, 100]⟩, ⟨#[109, 117, 108, 116, 105, 112, 97, 114, 116, 47, 102, 111, 114, 109, 45, 100, 97, 116, 97]⟩, ⟨#[116, 101, 120, 116, 47, 112, 108, 97, 105, 110]⟩]
/-- The type that a value begins with. -/
def typeOf (v : ByteArray) : ByteArray := mk (lo (mk (trim (aheadOf 59 v.data.toList))))
def typeOk (v : ByteArray) : Bool := isIn (typeOf v) forms

set_option maxHeartbeats 4000000 in
set_option maxRecDepth 100000 in
theorem type_hit0 (v k t : ByteArray) (w : World) (hcut : ∀ W, Calls Tryz.prog 73 #[.string v, .string ⟨#[59]⟩] W fun e w' => ∃ y b, e = .returned (.tuple #[.string k, .string y, .bool b]) ∧ Below W.heap.size W w')
    (htrim : ∀ W, Calls Tryz.prog 67 #[.string k] W fun e w' => e = .returned (.string t) ∧ Below W.heap.size W w')
    (hlow : ∀ W, Calls Tryz.prog 26 #[.string t] W fun e w' => e = .returned (.string ⟨#[97, 112, 112, 108, 105, 99, 97, 116, 105, 111, 110, 47, 120, 45, 119, 119, 119, 45, 102, 111, 114, 109, 45, 117, 114, 108, 101, 110, 99, 111, 100, 101, 100]⟩) ∧ Below W.heap.size W w') :
    Calls Tryz.prog 60 #[.string v] w fun e w' => e = .returned (.bool true) ∧ Below w.heap.size w w' := by
  have h1 := Lib.hid hcut
  have h2 := Lib.hid htrim
  have h3 := Lib.hid hlow
  clear hcut htrim hlow
  go_enter Tryz.func60, Tryz.ntmps60
  go_wp2_with (first
    | (go_at_call 73; refine (h1.out _).mono ?_; rintro e w1 ⟨y, b, rfl, hb1⟩)
    | (go_at_call 67; refine (h2.out _).mono ?_; rintro e w2 ⟨rfl, hb2⟩)
    | (go_at_call 26; refine (h3.out _).mono ?_; rintro e w3 ⟨rfl, hb3⟩))
  go_ret
  exact ⟨rfl, below_then (below_then hb1 hb2) hb3⟩

set_option maxHeartbeats 4000000 in
set_option maxRecDepth 100000 in
theorem type_hit1 (v k t : ByteArray) (w : World) (hcut : ∀ W, Calls Tryz.prog 73 #[.string v, .string ⟨#[59]⟩] W fun e w' => ∃ y b, e = .returned (.tuple #[.string k, .string y, .bool b]) ∧ Below W.heap.size W w')
    (htrim : ∀ W, Calls Tryz.prog 67 #[.string k] W fun e w' => e = .returned (.string t) ∧ Below W.heap.size W w')
    (hlow : ∀ W, Calls Tryz.prog 26 #[.string t] W fun e w' => e = .returned (.string ⟨#[109, 117, 108, 116, 105, 112, 97, 114, 116, 47, 102, 111, 114, 109, 45, 100, 97, 116, 97]⟩) ∧ Below W.heap.size W w') :
    Calls Tryz.prog 60 #[.string v] w fun e w' => e = .returned (.bool true) ∧ Below w.heap.size w w' := by
  have h1 := Lib.hid hcut
  have h2 := Lib.hid htrim
  have h3 := Lib.hid hlow
  clear hcut htrim hlow
  go_enter Tryz.func60, Tryz.ntmps60
  go_wp2_with (first
    | (go_at_call 73; refine (h1.out _).mono ?_; rintro e w1 ⟨y, b, rfl, hb1⟩)
    | (go_at_call 67; refine (h2.out _).mono ?_; rintro e w2 ⟨rfl, hb2⟩)
    | (go_at_call 26; refine (h3.out _).mono ?_; rintro e w3 ⟨rfl, hb3⟩))
  go_ret
  exact ⟨rfl, below_then (below_then hb1 hb2) hb3⟩

set_option maxHeartbeats 4000000 in
set_option maxRecDepth 100000 in
theorem type_hit2 (v k t : ByteArray) (w : World) (hcut : ∀ W, Calls Tryz.prog 73 #[.string v, .string ⟨#[59]⟩] W fun e w' => ∃ y b, e = .returned (.tuple #[.string k, .string y, .bool b]) ∧ Below W.heap.size W w')
    (htrim : ∀ W, Calls Tryz.prog 67 #[.string k] W fun e w' => e = .returned (.string t) ∧ Below W.heap.size W w')
    (hlow : ∀ W, Calls Tryz.prog 26 #[.string t] W fun e w' => e = .returned (.string ⟨#[116, 101, 120, 116, 47, 112, 108, 97, 105, 110]⟩) ∧ Below W.heap.size W w') :
    Calls Tryz.prog 60 #[.string v] w fun e w' => e = .returned (.bool true) ∧ Below w.heap.size w w' := by
  have h1 := Lib.hid hcut
  have h2 := Lib.hid htrim
  have h3 := Lib.hid hlow
  clear hcut htrim hlow
  go_enter Tryz.func60, Tryz.ntmps60
  go_wp2_with (first
    | (go_at_call 73; refine (h1.out _).mono ?_; rintro e w1 ⟨y, b, rfl, hb1⟩)
    | (go_at_call 67; refine (h2.out _).mono ?_; rintro e w2 ⟨rfl, hb2⟩)
    | (go_at_call 26; refine (h3.out _).mono ?_; rintro e w3 ⟨rfl, hb3⟩))
  go_ret
  exact ⟨rfl, below_then (below_then hb1 hb2) hb3⟩

set_option maxHeartbeats 4000000 in
set_option maxRecDepth 100000 in
theorem type_miss (v k t u : ByteArray) (w : World) (hcut : ∀ W, Calls Tryz.prog 73 #[.string v, .string ⟨#[59]⟩] W fun e w' => ∃ y b, e = .returned (.tuple #[.string k, .string y, .bool b]) ∧ Below W.heap.size W w')
    (htrim : ∀ W, Calls Tryz.prog 67 #[.string k] W fun e w' => e = .returned (.string t) ∧ Below W.heap.size W w')
    (hlow : ∀ W, Calls Tryz.prog 26 #[.string t] W fun e w' => e = .returned (.string u) ∧ Below W.heap.size W w')
    (q0 : (u.toList == [97, 112, 112, 108, 105, 99, 97, 116, 105, 111, 110, 47, 120, 45, 119, 119, 119, 45, 102, 111, 114, 109, 45, 117, 114, 108, 101, 110, 99, 111, 100, 101, 100]) = false) (q1 : (u.toList == [109, 117, 108, 116, 105, 112, 97, 114, 116, 47, 102, 111, 114, 109, 45, 100, 97, 116, 97]) = false) (q2 : (u.toList == [116, 101, 120, 116, 47, 112, 108, 97, 105, 110]) = false) :
    Calls Tryz.prog 60 #[.string v] w fun e w' => e = .returned (.bool false) ∧ Below w.heap.size w w' := by
  have h1 := Lib.hid hcut
  have h2 := Lib.hid htrim
  have h3 := Lib.hid hlow
  clear hcut htrim hlow
  go_enter Tryz.func60, Tryz.ntmps60
  go_wp2_with (first
    | (go_at_call 73; refine (h1.out _).mono ?_; rintro e w1 ⟨y, b, rfl, hb1⟩)
    | (go_at_call 67; refine (h2.out _).mono ?_; rintro e w2 ⟨rfl, hb2⟩)
    | (go_at_call 26; refine (h3.out _).mono ?_; rintro e w3 ⟨rfl, hb3⟩))
  go_ret
  exact ⟨rfl, below_then (below_then hb1 hb2) hb3⟩

theorem safeType_any (v : ByteArray) (hs : v.size ≤ maxLen) (w : World) : Calls Tryz.prog 60 #[.string v] w fun e w' => e = .returned (.bool (typeOk v)) ∧ Below w.heap.size w w' := by
  have hcut := fun W => cutOne_any v 59 hs W
  have l1 : (mk (aheadOf 59 v.data.toList)).size ≤ maxLen := by rw [mk_size]; have := aheadOf_le 59 v.data.toList; rw [size_len] at hs; omega
  have l2 : (mk (trim (aheadOf 59 v.data.toList))).size ≤ maxLen := by rw [mk_size] at l1 ⊢; have := trim_le (aheadOf 59 v.data.toList); omega
  have htrim := fun W => trim_any (mk (aheadOf 59 v.data.toList)) l1 W
  rw [mk_list] at htrim
  have hlow := fun W => lower_any (mk (trim (aheadOf 59 v.data.toList))) l2 W
  change ∀ W, Calls _ _ _ _ (fun e w' => ∃ y b, e = .returned (.tuple #[.string (mk (aheadOf 59 v.data.toList)), .string y, .bool b]) ∧ Below W.heap.size W w') at hcut
  change ∀ W, Calls _ _ _ _ (fun e w' => e = .returned (.string (mk (trim (aheadOf 59 v.data.toList)))) ∧ Below W.heap.size W w') at htrim
  change ∀ W, Calls _ _ _ _ (fun e w' => e = .returned (.string (typeOf v)) ∧ Below W.heap.size W w') at hlow
  unfold typeOk
  generalize typeOf v = u at hlow ⊢
  cases q0 : (u.toList == [97, 112, 112, 108, 105, 99, 97, 116, 105, 111, 110, 47, 120, 45, 119, 119, 119, 45, 102, 111, 114, 109, 45, 117, 114, 108, 101, 110, 99, 111, 100, 101, 100]) with
  | true =>
    rw [isIn_hit q0 (by simp [forms, mk])]
    rw [text_is q0] at hlow
    exact type_hit0 v _ _ w hcut htrim hlow
  | false =>
  cases q1 : (u.toList == [109, 117, 108, 116, 105, 112, 97, 114, 116, 47, 102, 111, 114, 109, 45, 100, 97, 116, 97]) with
  | true =>
    rw [isIn_hit q1 (by simp [forms, mk])]
    rw [text_is q1] at hlow
    exact type_hit1 v _ _ w hcut htrim hlow
  | false =>
  cases q2 : (u.toList == [116, 101, 120, 116, 47, 112, 108, 97, 105, 110]) with
  | true =>
    rw [isIn_hit q2 (by simp [forms, mk])]
    rw [text_is q2] at hlow
    exact type_hit2 v _ _ w hcut htrim hlow
  | false =>
  have hn : isIn u forms = false := isIn_miss (by simp only [forms, List.forall_mem_cons]; exact ⟨q0, q1, q2, fun _ h => by cases h⟩)
  rw [hn]
  exact type_miss v _ _ u w hcut htrim hlow q0 q1 q2
end Go.Proofs.YtalnjlodldhfbaaGreatDoor
