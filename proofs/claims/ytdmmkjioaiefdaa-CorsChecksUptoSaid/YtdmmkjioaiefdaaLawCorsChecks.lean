/-
  The walk of the statement CorsChecks: for any list of headers, text and number it returns true, and nothing that was there is changed. Condition: the names' and values' bytes, together with the number of headers, are at most 1048576.
-/
import Derived.Test.YtdmmkjioaiefdaaCorsAwake
import Derived.Test.YtdmmkjioaiefdaaCorsRef
import Derived.Test.YtdmmkjioaiefdaaCorsFew
namespace Go.Proofs.Ytdmmkjioaiefdaa
open Go.RowKit Go.Lib Go.Shelf

theorem short_in {l : List Hd} {B B' : Nat} (h : bytesIn l ≤ B) (hB : B ≤ B') : Short B' l := fun x hx => by
  have := bytesIn_mem hx
  omega

set_option maxHeartbeats 4000000 in
set_option maxRecDepth 100000 in
theorem corsChecks_law (A : Option Addr) (n0 c : Nat) (l0 : List Hd) (s : ByteArray) (k : Int) (_hk : k ≤ 9223372036854775807) (w : World) (h : Hds w A n0 c l0) (hb0 : bytesIn l0 ≤ 1048576) (_hs : s.size < 4294967281) :
    Calls Try.prog 3 #[.slice A n0 c, .string s, .int .i64 k] w (Yes w) := by
  have h30 := h.few
  have hbl : bytesIn (l0.take 30) ≤ 1048576 := Nat.le_trans (bytesIn_take _ _) hb0
  have hfew := Lib.hid (fun W (hb : Below w.heap.size w W) => few13_any A n0 c l0 W (h.later hb))
  have hn30 : min n0 30 ≤ 30 := Nat.min_le_right _ _
  clear h hb0
  generalize l0.take 30 = l at h30 hbl
  generalize min n0 30 = n at h30 hfew hn30
  have h1 := Lib.hid (fun W (hb : Below w.heap.size w W) => check_any A n c l s k W (h30.later hb) (by omega) (short_in hbl (by simp only [maxLen]; omega)) (by omega))
  have h2 := Lib.hid (fun W (hb : Below w.heap.size w W) => refCheck_any A n c l s k W (h30.later hb) (short_in hbl (by omega)) (by omega))
  clear h30 hbl
  generalize seen l s k = q at h1 h2
  go_enter Try.func3, Try.ntmps3
  go_wp2_with (first
    | (go_at_call 5; refine (awake13_any _).mono ?_; rintro e w1 ⟨rfl, hb1⟩)
    | (go_at_call 7; (with_reducible refine (hfew.out _ hb1).mono ?_); rintro e w' ⟨rfl, hw⟩; subst hw)
    | (go_at_call 6; refine (h1.out _ hb1).mono ?_; rintro e w2 ⟨rfl, hb2⟩; have B2 := below_then hb1 hb2)
    | (go_at_call 7; (with_reducible refine (hfew.out _ B2).mono ?_); rintro e w' ⟨rfl, hw⟩; subst hw)
    | (go_at_call 8; refine (h2.out _ B2).mono ?_; rintro e w3 ⟨rfl, hb3⟩))
  go_ret
  exact ⟨ret_bool (by simp), below_then B2 hb3⟩
end Go.Proofs.Ytdmmkjioaiefdaa
