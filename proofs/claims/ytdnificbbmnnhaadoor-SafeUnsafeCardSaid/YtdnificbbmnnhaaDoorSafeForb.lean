/-
  Forbidden names, as the program has them. Conditions: those that each theorem states.
-/
import Derived.Test.YtdnificbbmnnhaaDoorSafeBase
import Derived.Test.YtdnificbbmnnhaaDoorStrPrefix
namespace Go.Proofs.YtdnificbbmnnhaaDoor
open Go.RowKit Go.Lib Go.Shelf

def forb : List ByteArray := [⟨#[97, 99, 99, 101, 112, 116, 45, 99, 104, 97, 114, 115, 101, 116]⟩, ⟨#[97, 99, 99, 101, 112, 116, 45, 101, 110, 99, 111, 100, 105, 110, 103]⟩, ⟨#[97, 99, 99, 101, 115, 115, 45, 99, 111, 110, 116, 114, 111, 108, 45, 114, 101, 113, 117, 101, 115, 116, 45, 104, 101, 97, 100, 101, 114, 115]⟩, ⟨#[97, 99, 99, 101, 115, 115, 45, 99, 111, 110, 116, 114, 111, 108, 45, 114, 101, 113, 117, 101, 115, 116, 45, 109, 101, 116, 104, 111, 100]⟩, ⟨#[99, 111, 110, 110, 101, 99, 116, 105, 111, 110]⟩, ⟨#[107, 101, 101, 112, 45, 97, 108, 105, 118, 101]⟩, ⟨#[116, 101]⟩, ⟨#[116, 114, 97, 105, 108, 101, 114]⟩, ⟨#[116, 114, 97, 110, 115, 102, 101, 114, 45, 101, 110, 99, 111, 100, 105, 110, 103]⟩, ⟨#[117, 112, 103, 114, 97, 100, 101]⟩, ⟨#[99, 111, 111, 107, 105, 101]⟩, ⟨#[99, 111, 111, 107, 105, 101, 50]⟩, ⟨#[115, 101, 116, 45, 99, 111, 111, 107, 105, 101]⟩, ⟨#[100, 110, 116]⟩, ⟨#[111, 114, 105, 103, 105, 110]⟩, ⟨#[114, 101, 102, 101, 114, 101, 114]⟩, ⟨#[99, 111, 110, 116, 101, 110, 116, 45, 108, 101, 110, 103, 116, 104]⟩, ⟨#[100, 97, 116, 101]⟩, ⟨#[101, 120, 112, 101, 99, 116]⟩, ⟨#[104, 111, 115, 116]⟩, ⟨#[118, 105, 97]⟩]
/-- Does a text begin as a forbidden name may? -/
def begun (u : ByteArray) : Bool := Lib.hasPrefix u.data.toList [112, 114, 111, 120, 121, 45] || Lib.hasPrefix u.data.toList [115, 101, 99, 45]
def forbOk (x : ByteArray) : Bool := isIn (mk (lo x)) forb || begun (mk (lo x))

set_option maxHeartbeats 4000000 in
set_option maxRecDepth 100000 in
theorem forb_hit0 (x : ByteArray) (w : World) (hlow : Calls Tryd.prog 23 #[.string x] w fun e w' => e = .returned (.string ⟨#[97, 99, 99, 101, 112, 116, 45, 99, 104, 97, 114, 115, 101, 116]⟩) ∧ Below w.heap.size w w') :
    Calls Tryd.prog 15 #[.string x] w fun e w' => e = .returned (.bool true) ∧ Below w.heap.size w w' := by
  go_enter Tryd.func15, Tryd.ntmps15
  go_wp2_with (go_at_call 23; refine hlow.mono ?_; rintro e w' ⟨rfl, hb⟩)
  go_ret
  exact ⟨rfl, hb⟩

set_option maxHeartbeats 4000000 in
set_option maxRecDepth 100000 in
theorem forb_hit1 (x : ByteArray) (w : World) (hlow : Calls Tryd.prog 23 #[.string x] w fun e w' => e = .returned (.string ⟨#[97, 99, 99, 101, 112, 116, 45, 101, 110, 99, 111, 100, 105, 110, 103]⟩) ∧ Below w.heap.size w w') :
    Calls Tryd.prog 15 #[.string x] w fun e w' => e = .returned (.bool true) ∧ Below w.heap.size w w' := by
  go_enter Tryd.func15, Tryd.ntmps15
  go_wp2_with (go_at_call 23; refine hlow.mono ?_; rintro e w' ⟨rfl, hb⟩)
  go_ret
  exact ⟨rfl, hb⟩

set_option maxHeartbeats 4000000 in
set_option maxRecDepth 100000 in
theorem forb_hit2 (x : ByteArray) (w : World) (hlow : Calls Tryd.prog 23 #[.string x] w fun e w' => e = .returned (.string ⟨#[97, 99, 99, 101, 115, 115, 45, 99, 111, 110, 116, 114, 111, 108, 45, 114, 101, 113, 117, 101, 115, 116, 45, 104, 101, 97, 100, 101, 114, 115]⟩) ∧ Below w.heap.size w w') :
    Calls Tryd.prog 15 #[.string x] w fun e w' => e = .returned (.bool true) ∧ Below w.heap.size w w' := by
  go_enter Tryd.func15, Tryd.ntmps15
  go_wp2_with (go_at_call 23; refine hlow.mono ?_; rintro e w' ⟨rfl, hb⟩)
  go_ret
  exact ⟨rfl, hb⟩

set_option maxHeartbeats 4000000 in
set_option maxRecDepth 100000 in
theorem forb_hit3 (x : ByteArray) (w : World) (hlow : Calls Tryd.prog 23 #[.string x] w fun e w' => e = .returned (.string ⟨#[97, 99, 99, 101, 115, 115, 45, 99, 111, 110, 116, 114, 111, 108, 45, 114, 101, 113, 117, 101, 115, 116, 45, 109, 101, 116, 104, 111, 100]⟩) ∧ Below w.heap.size w w') :
    Calls Tryd.prog 15 #[.string x] w fun e w' => e = .returned (.bool true) ∧ Below w.heap.size w w' := by
  go_enter Tryd.func15, Tryd.ntmps15
  go_wp2_with (go_at_call 23; refine hlow.mono ?_; rintro e w' ⟨rfl, hb⟩)
  go_ret
  exact ⟨rfl, hb⟩

set_option maxHeartbeats 4000000 in
set_option maxRecDepth 100000 in
theorem forb_hit4 (x : ByteArray) (w : World) (hlow : Calls Tryd.prog 23 #[.string x] w fun e w' => e = .returned (.string ⟨#[99, 111, 110, 110, 101, 99, 116, 105, 111, 110]⟩) ∧ Below w.heap.size w w') :
    Calls Tryd.prog 15 #[.string x] w fun e w' => e = .returned (.bool true) ∧ Below w.heap.size w w' := by
  go_enter Tryd.func15, Tryd.ntmps15
  go_wp2_with (go_at_call 23; refine hlow.mono ?_; rintro e w' ⟨rfl, hb⟩)
  go_ret
  exact ⟨rfl, hb⟩

set_option maxHeartbeats 4000000 in
set_option maxRecDepth 100000 in
theorem forb_hit5 (x : ByteArray) (w : World) (hlow : Calls Tryd.prog 23 #[.string x] w fun e w' => e = .returned (.string ⟨#[107, 101, 101, 112, 45, 97, 108, 105, 118, 101]⟩) ∧ Below w.heap.size w w') :
    Calls Tryd.prog 15 #[.string x] w fun e w' => e = .returned (.bool true) ∧ Below w.heap.size w w' := by
  go_enter Tryd.func15, Tryd.ntmps15
  go_wp2_with (go_at_call 23; refine hlow.mono ?_; rintro e w' ⟨rfl, hb⟩)
  go_ret
  exact ⟨rfl, hb⟩

set_option maxHeartbeats 4000000 in
set_option maxRecDepth 100000 in
theorem forb_hit6 (x : ByteArray) (w : World) (hlow : Calls Tryd.prog 23 #[.string x] w fun e w' => e = .returned (.string ⟨#[116, 101]⟩) ∧ Below w.heap.size w w') :
    Calls Tryd.prog 15 #[.string x] w fun e w' => e = .returned (.bool true) ∧ Below w.heap.size w w' := by
  go_enter Tryd.func15, Tryd.ntmps15
  go_wp2_with (go_at_call 23; refine hlow.mono ?_; rintro e w' ⟨rfl, hb⟩)
  go_ret
  exact ⟨rfl, hb⟩

set_option maxHeartbeats 4000000 in
set_option maxRecDepth 100000 in
theorem forb_hit7 (x : ByteArray) (w : World) (hlow : Calls Tryd.prog 23 #[.string x] w fun e w' => e = .returned (.string ⟨#[116, 114, 97, 105, 108, 101, 114]⟩) ∧ Below w.heap.size w w') :
    Calls Tryd.prog 15 #[.string x] w fun e w' => e = .returned (.bool true) ∧ Below w.heap.size w w' := by
  go_enter Tryd.func15, Tryd.ntmps15
  go_wp2_with (go_at_call 23; refine hlow.mono ?_; rintro e w' ⟨rfl, hb⟩)
  go_ret
  exact ⟨rfl, hb⟩

set_option maxHeartbeats 4000000 in
set_option maxRecDepth 100000 in
theorem forb_hit8 (x : ByteArray) (w : World) (hlow : Calls Tryd.prog 23 #[.string x] w fun e w' => e = .returned (.string ⟨#[116, 114, 97, 110, 115, 102, 101, 114, 45, 101, 110, 99, 111, 100, 105, 110, 103]⟩) ∧ Below w.heap.size w w') :
    Calls Tryd.prog 15 #[.string x] w fun e w' => e = .returned (.bool true) ∧ Below w.heap.size w w' := by
  go_enter Tryd.func15, Tryd.ntmps15
  go_wp2_with (go_at_call 23; refine hlow.mono ?_; rintro e w' ⟨rfl, hb⟩)
  go_ret
  exact ⟨rfl, hb⟩

set_option maxHeartbeats 4000000 in
set_option maxRecDepth 100000 in
theorem forb_hit9 (x : ByteArray) (w : World) (hlow : Calls Tryd.prog 23 #[.string x] w fun e w' => e = .returned (.string ⟨#[117, 112, 103, 114, 97, 100, 101]⟩) ∧ Below w.heap.size w w') :
    Calls Tryd.prog 15 #[.string x] w fun e w' => e = .returned (.bool true) ∧ Below w.heap.size w w' := by
  go_enter Tryd.func15, Tryd.ntmps15
  go_wp2_with (go_at_call 23; refine hlow.mono ?_; rintro e w' ⟨rfl, hb⟩)
  go_ret
  exact ⟨rfl, hb⟩

set_option maxHeartbeats 4000000 in
set_option maxRecDepth 100000 in
theorem forb_hit10 (x : ByteArray) (w : World) (hlow : Calls Tryd.prog 23 #[.string x] w fun e w' => e = .returned (.string ⟨#[99, 111, 111, 107, 105, 101]⟩) ∧ Below w.heap.size w w') :
    Calls Tryd.prog 15 #[.string x] w fun e w' => e = .returned (.bool true) ∧ Below w.heap.size w w' := by
  go_enter Tryd.func15, Tryd.ntmps15
  go_wp2_with (go_at_call 23; refine hlow.mono ?_; rintro e w' ⟨rfl, hb⟩)
  go_ret
  exact ⟨rfl, hb⟩

set_option maxHeartbeats 4000000 in
set_option maxRecDepth 100000 in
theorem forb_hit11 (x : ByteArray) (w : World) (hlow : Calls Tryd.prog 23 #[.string x] w fun e w' => e = .returned (.string ⟨#[99, 111, 111, 107, 105, 101, 50]⟩) ∧ Below w.heap.size w w') :
    Calls Tryd.prog 15 #[.string x] w fun e w' => e = .returned (.bool true) ∧ Below w.heap.size w w' := by
  go_enter Tryd.func15, Tryd.ntmps15
  go_wp2_with (go_at_call 23; refine hlow.mono ?_; rintro e w' ⟨rfl, hb⟩)
  go_ret
  exact ⟨rfl, hb⟩

set_option maxHeartbeats 4000000 in
set_option maxRecDepth 100000 in
theorem forb_hit12 (x : ByteArray) (w : World) (hlow : Calls Tryd.prog 23 #[.string x] w fun e w' => e = .returned (.string ⟨#[115, 101, 116, 45, 99, 111, 111, 107, 105, 101]⟩) ∧ Below w.heap.size w w') :
    Calls Tryd.prog 15 #[.string x] w fun e w' => e = .returned (.bool true) ∧ Below w.heap.size w w' := by
  go_enter Tryd.func15, Tryd.ntmps15
  go_wp2_with (go_at_call 23; refine hlow.mono ?_; rintro e w' ⟨rfl, hb⟩)
  go_ret
  exact ⟨rfl, hb⟩

set_option maxHeartbeats 4000000 in
set_option maxRecDepth 100000 in
theorem forb_hit13 (x : ByteArray) (w : World) (hlow : Calls Tryd.prog 23 #[.string x] w fun e w' => e = .returned (.string ⟨#[100, 110, 116]⟩) ∧ Below w.heap.size w w') :
    Calls Tryd.prog 15 #[.string x] w fun e w' => e = .returned (.bool true) ∧ Below w.heap.size w w' := by
  go_enter Tryd.func15, Tryd.ntmps15
  go_wp2_with (go_at_call 23; refine hlow.mono ?_; rintro e w' ⟨rfl, hb⟩)
  go_ret
  exact ⟨rfl, hb⟩

set_option maxHeartbeats 4000000 in
set_option maxRecDepth 100000 in
theorem forb_hit14 (x : ByteArray) (w : World) (hlow : Calls Tryd.prog 23 #[.string x] w fun e w' => e = .returned (.string ⟨#[111, 114, 105, 103, 105, 110]⟩) ∧ Below w.heap.size w w') :
    Calls Tryd.prog 15 #[.string x] w fun e w' => e = .returned (.bool true) ∧ Below w.heap.size w w' := by
  go_enter Tryd.func15, Tryd.ntmps15
  go_wp2_with (go_at_call 23; refine hlow.mono ?_; rintro e w' ⟨rfl, hb⟩)
  go_ret
  exact ⟨rfl, hb⟩

set_option maxHeartbeats 4000000 in
set_option maxRecDepth 100000 in
theorem forb_hit15 (x : ByteArray) (w : World) (hlow : Calls Tryd.prog 23 #[.string x] w fun e w' => e = .returned (.string ⟨#[114, 101, 102, 101, 114, 101, 114]⟩) ∧ Below w.heap.size w w') :
    Calls Tryd.prog 15 #[.string x] w fun e w' => e = .returned (.bool true) ∧ Below w.heap.size w w' := by
  go_enter Tryd.func15, Tryd.ntmps15
  go_wp2_with (go_at_call 23; refine hlow.mono ?_; rintro e w' ⟨rfl, hb⟩)
  go_ret
  exact ⟨rfl, hb⟩

set_option maxHeartbeats 4000000 in
set_option maxRecDepth 100000 in
theorem forb_hit16 (x : ByteArray) (w : World) (hlow : Calls Tryd.prog 23 #[.string x] w fun e w' => e = .returned (.string ⟨#[99, 111, 110, 116, 101, 110, 116, 45, 108, 101, 110, 103, 116, 104]⟩) ∧ Below w.heap.size w w') :
    Calls Tryd.prog 15 #[.string x] w fun e w' => e = .returned (.bool true) ∧ Below w.heap.size w w' := by
  go_enter Tryd.func15, Tryd.ntmps15
  go_wp2_with (go_at_call 23; refine hlow.mono ?_; rintro e w' ⟨rfl, hb⟩)
  go_ret
  exact ⟨rfl, hb⟩

set_option maxHeartbeats 4000000 in
set_option maxRecDepth 100000 in
theorem forb_hit17 (x : ByteArray) (w : World) (hlow : Calls Tryd.prog 23 #[.string x] w fun e w' => e = .returned (.string ⟨#[100, 97, 116, 101]⟩) ∧ Below w.heap.size w w') :
    Calls Tryd.prog 15 #[.string x] w fun e w' => e = .returned (.bool true) ∧ Below w.heap.size w w' := by
  go_enter Tryd.func15, Tryd.ntmps15
  go_wp2_with (go_at_call 23; refine hlow.mono ?_; rintro e w' ⟨rfl, hb⟩)
  go_ret
  exact ⟨rfl, hb⟩

set_option maxHeartbeats 4000000 in
set_option maxRecDepth 100000 in
theorem forb_hit18 (x : ByteArray) (w : World) (hlow : Calls Tryd.prog 23 #[.string x] w fun e w' => e = .returned (.string ⟨#[101, 120, 112, 101, 99, 116]⟩) ∧ Below w.heap.size w w') :
    Calls Tryd.prog 15 #[.string x] w fun e w' => e = .returned (.bool true) ∧ Below w.heap.size w w' := by
  go_enter Tryd.func15, Tryd.ntmps15
  go_wp2_with (go_at_call 23; refine hlow.mono ?_; rintro e w' ⟨rfl, hb⟩)
  go_ret
  exact ⟨rfl, hb⟩

set_option maxHeartbeats 4000000 in
set_option maxRecDepth 100000 in
theorem forb_hit19 (x : ByteArray) (w : World) (hlow : Calls Tryd.prog 23 #[.string x] w fun e w' => e = .returned (.string ⟨#[104, 111, 115, 116]⟩) ∧ Below w.heap.size w w') :
    Calls Tryd.prog 15 #[.string x] w fun e w' => e = .returned (.bool true) ∧ Below w.heap.size w w' := by
  go_enter Tryd.func15, Tryd.ntmps15
  go_wp2_with (go_at_call 23; refine hlow.mono ?_; rintro e w' ⟨rfl, hb⟩)
  go_ret
  exact ⟨rfl, hb⟩

set_option maxHeartbeats 4000000 in
set_option maxRecDepth 100000 in
theorem forb_hit20 (x : ByteArray) (w : World) (hlow : Calls Tryd.prog 23 #[.string x] w fun e w' => e = .returned (.string ⟨#[118, 105, 97]⟩) ∧ Below w.heap.size w w') :
    Calls Tryd.prog 15 #[.string x] w fun e w' => e = .returned (.bool true) ∧ Below w.heap.size w w' := by
  go_enter Tryd.func15, Tryd.ntmps15
  go_wp2_with (go_at_call 23; refine hlow.mono ?_; rintro e w' ⟨rfl, hb⟩)
  go_ret
  exact ⟨rfl, hb⟩

set_option maxHeartbeats 4000000 in
set_option maxRecDepth 100000 in
theorem forb_miss (x u : ByteArray) (w : World) (hlow : Calls Tryd.prog 23 #[.string x] w fun e w' => e = .returned (.string u) ∧ Below w.heap.size w w')
    (q0 : (u.toList == [97, 99, 99, 101, 112, 116, 45, 99, 104, 97, 114, 115, 101, 116]) = false)
    (q1 : (u.toList == [97, 99, 99, 101, 112, 116, 45, 101, 110, 99, 111, 100, 105, 110, 103]) = false)
    (q2 : (u.toList == [97, 99, 99, 101, 115, 115, 45, 99, 111, 110, 116, 114, 111, 108, 45, 114, 101, 113, 117, 101, 115, 116, 45, 104, 101, 97, 100, 101, 114, 115]) = false)
    (q3 : (u.toList == [97, 99, 99, 101, 115, 115, 45, 99, 111, 110, 116, 114, 111, 108, 45, 114, 101, 113, 117, 101, 115, 116, 45, 109, 101, 116, 104, 111, 100]) = false)
    (q4 : (u.toList == [99, 111, 110, 110, 101, 99, 116, 105, 111, 110]) = false)
    (q5 : (u.toList == [107, 101, 101, 112, 45, 97, 108, 105, 118, 101]) = false)
    (q6 : (u.toList == [116, 101]) = false)
    (q7 : (u.toList == [116, 114, 97, 105, 108, 101, 114]) = false)
    (q8 : (u.toList == [116, 114, 97, 110, 115, 102, 101, 114, 45, 101, 110, 99, 111, 100, 105, 110, 103]) = false)
    (q9 : (u.toList == [117, 112, 103, 114, 97, 100, 101]) = false)
    (q10 : (u.toList == [99, 111, 111, 107, 105, 101]) = false)
    (q11 : (u.toList == [99, 111, 111, 107, 105, 101, 50]) = false)
    (q12 : (u.toList == [115, 101, 116, 45, 99, 111, 111, 107, 105, 101]) = false)
    (q13 : (u.toList == [100, 110, 116]) = false)
    (q14 : (u.toList == [111, 114, 105, 103, 105, 110]) = false)
    (q15 : (u.toList == [114, 101, 102, 101, 114, 101, 114]) = false)
    (q16 : (u.toList == [99, 111, 110, 116, 101, 110, 116, 45, 108, 101, 110, 103, 116, 104]) = false)
    (q17 : (u.toList == [100, 97, 116, 101]) = false)
    (q18 : (u.toList == [101, 120, 112, 101, 99, 116]) = false)
    (q19 : (u.toList == [104, 111, 115, 116]) = false)
    (q20 : (u.toList == [118, 105, 97]) = false) :
    Calls Tryd.prog 15 #[.string x] w fun e w' => e = .returned (.bool (begun u)) ∧ Below w.heap.size w w' := by
  have hp1 := Lib.hid (fun W => prefix_any u ⟨#[112, 114, 111, 120, 121, 45]⟩ W)
  have hp2 := Lib.hid (fun W => prefix_any u ⟨#[115, 101, 99, 45]⟩ W)
  have hbg : Hid (begun u = (Lib.hasPrefix u.data.toList [112, 114, 111, 120, 121, 45] || Lib.hasPrefix u.data.toList [115, 101, 99, 45])) := Lib.hid rfl
  generalize begun u = r at hbg ⊢
  change Hid (∀ W, Calls _ _ _ _ (fun e w' => e = .returned (.bool (Lib.hasPrefix u.data.toList [112, 114, 111, 120, 121, 45])) ∧ w' = W)) at hp1
  change Hid (∀ W, Calls _ _ _ _ (fun e w' => e = .returned (.bool (Lib.hasPrefix u.data.toList [115, 101, 99, 45])) ∧ w' = W)) at hp2
  generalize Lib.hasPrefix u.data.toList [112, 114, 111, 120, 121, 45] = b1 at hp1 hbg
  generalize Lib.hasPrefix u.data.toList [115, 101, 99, 45] = b2 at hp2 hbg
  go_enter Tryd.func15, Tryd.ntmps15
  go_wp2_with (first
    | (go_at_call 23; refine hlow.mono ?_; rintro e w' ⟨rfl, hb⟩)
    | (go_at_call 32; with_reducible refine (hp1.out _).mono ?_; rintro e w2 ⟨rfl, hw⟩; subst hw)
    | (go_at_call 32; with_reducible refine (hp2.out _).mono ?_; rintro e w2 ⟨rfl, hw⟩; subst hw))
  all_goals go_ret
  all_goals exact ⟨ret_bool (by rw [hbg.out]; simp_all), hb⟩

theorem text_is {u : ByteArray} {l : List UInt8} (h : (u.toList == l) = true) : u = ⟨l.toArray⟩ := by
  rw [beq_iff_eq, ByteArray.toList_eq] at h
  rw [← h, Lib.mk_data]

theorem forbidden_any (x : ByteArray) (hs : x.size ≤ maxLen) (w : World) : Calls Tryd.prog 15 #[.string x] w fun e w' => e = .returned (.bool (forbOk x)) ∧ Below w.heap.size w w' := by
  have hlow := lower_any x hs w
  rw [show (⟨(x.data.toList.map (turn 65 90 32)).toArray⟩ : ByteArray) = mk (lo x) from rfl] at hlow
  have hm : forbOk x = (isIn (mk (lo x)) forb || begun (mk (lo x))) := rfl
  rw [hm]
  clear hm
  generalize mk (lo x) = u at hlow ⊢
  cases q0 : (u.toList == [97, 99, 99, 101, 112, 116, 45, 99, 104, 97, 114, 115, 101, 116]) with
  | true =>
    rw [isIn_hit q0 (by simp [forb, mk]), Bool.true_or]
    rw [text_is q0] at hlow
    exact forb_hit0 x w hlow
  | false =>
  cases q1 : (u.toList == [97, 99, 99, 101, 112, 116, 45, 101, 110, 99, 111, 100, 105, 110, 103]) with
  | true =>
    rw [isIn_hit q1 (by simp [forb, mk]), Bool.true_or]
    rw [text_is q1] at hlow
    exact forb_hit1 x w hlow
  | false =>
  cases q2 : (u.toList == [97, 99, 99, 101, 115, 115, 45, 99, 111, 110, 116, 114, 111, 108, 45, 114, 101, 113, 117, 101, 115, 116, 45, 104, 101, 97, 100, 101, 114, 115]) with
  | true =>
    rw [isIn_hit q2 (by simp [forb, mk]), Bool.true_or]
    rw [text_is q2] at hlow
    exact forb_hit2 x w hlow
  | false =>
  cases q3 : (u.toList == [97, 99, 99, 101, 115, 115, 45, 99, 111, 110, 116, 114, 111, 108, 45, 114, 101, 113, 117, 101, 115, 116, 45, 109, 101, 116, 104, 111, 100]) with
  | true =>
    rw [isIn_hit q3 (by simp [forb, mk]), Bool.true_or]
    rw [text_is q3] at hlow
    exact forb_hit3 x w hlow
  | false =>
  cases q4 : (u.toList == [99, 111, 110, 110, 101, 99, 116, 105, 111, 110]) with
  | true =>
    rw [isIn_hit q4 (by simp [forb, mk]), Bool.true_or]
    rw [text_is q4] at hlow
    exact forb_hit4 x w hlow
  | false =>
  cases q5 : (u.toList == [107, 101, 101, 112, 45, 97, 108, 105, 118, 101]) with
  | true =>
    rw [isIn_hit q5 (by simp [forb, mk]), Bool.true_or]
    rw [text_is q5] at hlow
    exact forb_hit5 x w hlow
  | false =>
  cases q6 : (u.toList == [116, 101]) with
  | true =>
    rw [isIn_hit q6 (by simp [forb, mk]), Bool.true_or]
    rw [text_is q6] at hlow
    exact forb_hit6 x w hlow
  | false =>
  cases q7 : (u.toList == [116, 114, 97, 105, 108, 101, 114]) with
  | true =>
    rw [isIn_hit q7 (by simp [forb, mk]), Bool.true_or]
    rw [text_is q7] at hlow
    exact forb_hit7 x w hlow
  | false =>
  cases q8 : (u.toList == [116, 114, 97, 110, 115, 102, 101, 114, 45, 101, 110, 99, 111, 100, 105, 110, 103]) with
  | true =>
    rw [isIn_hit q8 (by simp [forb, mk]), Bool.true_or]
    rw [text_is q8] at hlow
    exact forb_hit8 x w hlow
  | false =>
  cases q9 : (u.toList == [117, 112, 103, 114, 97, 100, 101]) with
  | true =>
    rw [isIn_hit q9 (by simp [forb, mk]), Bool.true_or]
    rw [text_is q9] at hlow
    exact forb_hit9 x w hlow
  | false =>
  cases q10 : (u.toList == [99, 111, 111, 107, 105, 101]) with
  | true =>
    rw [isIn_hit q10 (by simp [forb, mk]), Bool.true_or]
    rw [text_is q10] at hlow
    exact forb_hit10 x w hlow
  | false =>
  cases q11 : (u.toList == [99, 111, 111, 107, 105, 101, 50]) with
  | true =>
    rw [isIn_hit q11 (by simp [forb, mk]), Bool.true_or]
    rw [text_is q11] at hlow
    exact forb_hit11 x w hlow
  | false =>
  cases q12 : (u.toList == [115, 101, 116, 45, 99, 111, 111, 107, 105, 101]) with
  | true =>
    rw [isIn_hit q12 (by simp [forb, mk]), Bool.true_or]
    rw [text_is q12] at hlow
    exact forb_hit12 x w hlow
  | false =>
  cases q13 : (u.toList == [100, 110, 116]) with
  | true =>
    rw [isIn_hit q13 (by simp [forb, mk]), Bool.true_or]
    rw [text_is q13] at hlow
    exact forb_hit13 x w hlow
  | false =>
  cases q14 : (u.toList == [111, 114, 105, 103, 105, 110]) with
  | true =>
    rw [isIn_hit q14 (by simp [forb, mk]), Bool.true_or]
    rw [text_is q14] at hlow
    exact forb_hit14 x w hlow
  | false =>
  cases q15 : (u.toList == [114, 101, 102, 101, 114, 101, 114]) with
  | true =>
    rw [isIn_hit q15 (by simp [forb, mk]), Bool.true_or]
    rw [text_is q15] at hlow
    exact forb_hit15 x w hlow
  | false =>
  cases q16 : (u.toList == [99, 111, 110, 116, 101, 110, 116, 45, 108, 101, 110, 103, 116, 104]) with
  | true =>
    rw [isIn_hit q16 (by simp [forb, mk]), Bool.true_or]
    rw [text_is q16] at hlow
    exact forb_hit16 x w hlow
  | false =>
  cases q17 : (u.toList == [100, 97, 116, 101]) with
  | true =>
    rw [isIn_hit q17 (by simp [forb, mk]), Bool.true_or]
    rw [text_is q17] at hlow
    exact forb_hit17 x w hlow
  | false =>
  cases q18 : (u.toList == [101, 120, 112, 101, 99, 116]) with
  | true =>
    rw [isIn_hit q18 (by simp [forb, mk]), Bool.true_or]
    rw [text_is q18] at hlow
    exact forb_hit18 x w hlow
  | false =>
  cases q19 : (u.toList == [104, 111, 115, 116]) with
  | true =>
    rw [isIn_hit q19 (by simp [forb, mk]), Bool.true_or]
    rw [text_is q19] at hlow
    exact forb_hit19 x w hlow
  | false =>
  cases q20 : (u.toList == [118, 105, 97]) with
  | true =>
    rw [isIn_hit q20 (by simp [forb, mk]), Bool.true_or]
    rw [text_is q20] at hlow
    exact forb_hit20 x w hlow
  | false =>
  have hn : isIn u forb = false := isIn_miss (by simp only [forb, List.forall_mem_cons]; exact ⟨q0, q1, q2, q3, q4, q5, q6, q7, q8, q9, q10, q11, q12, q13, q14, q15, q16, q17, q18, q19, q20, fun _ h => by cases h⟩)
  rw [hn, Bool.false_or]
  exact forb_miss x u w hlow q0 q1 q2 q3 q4 q5 q6 q7 q8 q9 q10 q11 q12 q13 q14 q15 q16 q17 q18 q19 q20
end Go.Proofs.YtdnificbbmnnhaaDoor
