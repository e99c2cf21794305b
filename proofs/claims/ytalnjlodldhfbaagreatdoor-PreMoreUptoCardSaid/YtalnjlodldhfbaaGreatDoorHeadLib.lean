/-
  The library's contracts of slices.Contains and strings.Join in our words. Conditions: those that each theorem states.
-/
import Derived.Test.YtalnjlodldhfbaaGreatDoorLow
import Derived.Test.YtalnjlodldhfbaaGreatDoorHeadShelf
namespace Go.Proofs.YtalnjlodldhfbaaGreatDoor
open Go.RowKit Go.Lib Go.Shelf

theorem Tryz.extra156 : Builder.Extra Tryz.prog Tryz.lays156_ren where
  sizeBuilder := by kernel_rfl
  liesBuilder := by kernel_rfl
  t5 := by kernel_rfl
  a5 := fun _ => by kernel_rfl
  z5 := fun _ => by kernel_rfl
  v5 := fun _ => by kernel_rfl
  infoByte := by kernel_rfl
  cellsByte := by kernel_rfl
  sizeByte := by kernel_rfl
  neB5 := by decide

theorem contains_any (A : Option Addr) (n c : Nat) (zs : List ByteArray) (x : ByteArray) (w : World) (h : Strs w A n c zs) :
    Calls Tryz.prog 55 #[.slice A n c, .string x] w fun e w' => e = .returned (.bool (zs.any fun z => z.data.toList == x.data.toList)) ∧ w' = w := by
  have hr : Lib.containsS zs x = zs.any (fun z => z.data.toList == x.data.toList) := by
    rw [Bool.eq_iff_iff, Lib.containsS_iff, List.any_eq_true]
    constructor
    · intro hx
      exact ⟨x, hx, by simp⟩
    · rintro ⟨z, hz, e⟩
      rw [beq_iff_eq] at e
      have : z = x := by rw [← mk_of z, ← mk_of x, e]
      rw [← this]
      exact hz
  by_cases hn : 0 < n
  · obtain ⟨b, off, rfl, _, hc⟩ := h.cell hn
    have hm := h.room
    have hcap := h.cap
    unfold maxLen at hm
    have key := Any.slices_Contains_string Tryz.lays110 b off n c zs x w (by rw [h.len]; exact Nat.le_refl _) (by omega) (fun j hj => by rw [hc j hj, List.getD_eq_getElem?_getD, List.getElem?_eq_getElem hj]; rfl)
    rw [show zs.take n = zs by rw [← h.len, List.take_length], hr] at key
    exact key
  · have h0 : n = 0 := by omega
    subst h0
    have hz : zs = [] := List.eq_nil_of_length_eq_zero h.len
    subst hz
    exact Any.slices_Contains_string_empty Tryz.lays110 A c x w

theorem joined_text (xs : List ByteArray) : (⟨(Lib.join (xs.map (·.data.toList)) (⟨#[44, 32]⟩ : ByteArray).data.toList).toArray⟩ : ByteArray) = mk (joined xs) := rfl
theorem join_any (A : Option Addr) (n c : Nat) (xs : List ByteArray) (w : World) (h : Strs w A n c xs) (hN : n ≤ 140737488355328) (hlen : (joined xs).length ≤ 140737488355328) :
    Calls Tryz.prog 23 #[.slice A n c, .string ⟨#[44, 32]⟩] w fun e w' => e = .returned (.string (mk (joined xs))) ∧ Below w.heap.size w w' := by
  by_cases hn : 0 < n
  · obtain ⟨b, off, rfl, hlt, hc⟩ := h.cell hn
    have e := h.len
    subst e
    exact Any.strings_Join Tryz.lays156 Tryz.extra156 b off c xs ⟨#[44, 32]⟩ w (fun j x hx => by
      obtain ⟨hj, e⟩ := List.getElem?_eq_some_iff.1 hx
      rw [← e]
      exact hc j hj) hlt hN h.cap hlen
  · have h0 : n = 0 := by omega
    subst h0
    have hz : xs = [] := List.eq_nil_of_length_eq_zero h.len
    subst hz
    exact (Any.strings_Join_none Tryz.lays156 Tryz.extra156 A c ⟨#[44, 32]⟩ w).mono fun e w' ⟨he, hw⟩ => ⟨he, hw ▸ Below.refl _ _⟩
end Go.Proofs.YtalnjlodldhfbaaGreatDoor
