/-
  A string as bytes and bytes as a string, as a conversion makes them. Conditions: those that each theorem states.
-/
import Derived.Test.YtkjnpdnihfohoaaLow
import Derived.Test.YtkjnpdnihfohoaaTabMath
import Derived.Lib.LazyBuf
namespace Go.Proofs.Ytkjnpdnihfohoaa
open Go.RowKit Go.Lib Leb

/-- The world behind '[]byte(s)'. -/
def convW (W : World) (s : ByteArray) : World := W.drew.alloc (.cells (bytesRow s (grownCap W s.size 0 5)) 5 ((bytesRow s (grownCap W s.size 0 5)).size, (bytesRow s (grownCap W s.size 0 5)).size + 1))
def convC (W : World) (s : ByteArray) : Nat := grownCap W s.size 0 5

theorem run_conv (W : World) (s : ByteArray) : (convert 9 22 (.string s)).run Try.prog W = .ok (.slice (some ⟨W.heap.size, 0, Option.none⟩) s.size (convC W s)) (convW W s) :=
  run_bytes_of_string (P := Try.prog) W 9 22 5 s Try.underlying9 Try.underlying22 Try.underlying5
theorem convW_size (W : World) (s : ByteArray) : (convW W s).heap.size = W.heap.size + 1 := by
  show (W.drew.heap.push _).size = _
  rw [Array.size_push]
  rfl
theorem convW_below (W : World) (s : ByteArray) : Below W.heap.size W (convW W s) := by
  have h : Below W.heap.size W W.drew := (Below.refl _ W).drew
  exact h.alloc (Nat.le_refl _) _
theorem holds_conv (W : World) (s : ByteArray) (hs : s.size ≤ maxLen) : Holds (convW W s) (some ⟨W.heap.size, 0, Option.none⟩) s.size (convC W s) (nums s.data.toList) := by
  have hd : W.drew.heap.size = W.heap.size := rfl
  refine ⟨by rw [nums_len, size_len], nums_bytes _, grownCap_ge W s.size 0 5, grownCap_le_maxLen W s.size 0 5 hs, (fun e => by cases e), fun _ => ⟨W.heap.size, 0, rfl, fun j hj => ?_⟩⟩
  have h1 : (convW W s).cell? ⟨W.drew.heap.size, 0 + j, Option.none⟩ = _ := World.cell?_alloc_mark ..
  rw [hd] at h1
  rw [h1, Nat.zero_add, bytesRow_at s _ j hj]
  have hj' : j < s.data.toList.length := by rw [← size_len]; exact hj
  simp [nums, List.getElem?_eq_getElem hj']

/-- What a conversion of bytes gives, as a text. -/
theorem text_of (q : List Int) : strOfNums q = mk (ltrs q) := by
  have h : (strOfNums q).toList = (mk (ltrs q)).toList := by
    rw [strOfNums_toList, ByteArray.toList_eq, mk_list]
    rfl
  rw [ByteArray.toList_eq, ByteArray.toList_eq] at h
  have h2 := congrArg mk h
  rwa [mk_of, mk_of] at h2

/-- b[i:j] of a slice that reads as bytes. -/
theorem run_mid (w : World) (A : Option Addr) (n c : Nat) (l : List Int) (h : Holds w A n c l) (i j : Nat) (x y : Int) (hx : x = i) (hy : y = j) (h1 : i ≤ j) (h2 : j ≤ n) :
    ∃ A' c', (Instr.sliceAt 22 (.slice A n c) (some (.int .i64 x)) (some (.int .i64 y)) Option.none).run Try.prog w = .ok (.slice A' (j - i) c') w ∧ Holds w A' (j - i) c' ((l.drop i).take (j - i)) := by
  subst hx
  subst hy
  have hcap := h.cap
  have hroom := h.room
  have f2 : (0 : Int) ≤ (i : Int) := by omega
  have f3 : (0 : Int) ≤ (j : Int) := by omega
  have f4 : (i : Int) ≤ (j : Int) := by omega
  have f5 : (j : Int) ≤ (c : Int) := by omega
  refine ⟨if c = i then A else A.map (·.add (i * 1)), c - i, by go_simp, ?_⟩
  by_cases hci : c = i
  · rw [if_pos hci]
    have e : j - i = 0 := by omega
    rw [e]
    exact holds_empty w A (c - i) (by omega) (fun e => by have := h.bare e; omega)
  · rw [if_neg hci]
    cases hA : A with
    | none => exact absurd (h.bare hA) (by omega)
    | some a =>
      by_cases hp : 0 < j - i
      · obtain ⟨b, off, e, hc⟩ := h.cell (by omega)
        rw [hA] at e
        injection e with e
        subst e
        have hb := (Holds.back (b := b) (off := off) (hA ▸ h) (k := i) (by omega)).front (k := j - i) (by omega)
        have e1 : ((some (⟨b, off, Option.none⟩ : Addr)).map (·.add (i * 1))) = some ⟨b, off + i, Option.none⟩ := by
          show some (Addr.add _ _) = _
          rw [addr_add, Nat.mul_one]
        rw [e1]
        exact hb
      · have e : j - i = 0 := by omega
        rw [e]
        exact holds_empty w _ (c - i) (by omega) (fun e => by cases e)
end Go.Proofs.Ytkjnpdnihfohoaa
