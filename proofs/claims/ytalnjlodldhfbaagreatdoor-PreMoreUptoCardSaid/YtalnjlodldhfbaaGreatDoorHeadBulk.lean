/-
  What the second form's bound (values and letters, together) says of headers, lists of them and lists of strings. Conditions: those that each theorem states.
-/
import Derived.Test.YtalnjlodldhfbaaGreatDoorHeadOpen
import Derived.Test.YtalnjlodldhfbaaGreatDoorRows
namespace Go.Proofs.YtalnjlodldhfbaaGreatDoor
open Go.RowKit Go.Lib Go.Deep Go.ChangeShapes Go.WideShapes Go.Joins

section
variable {H : Type}
theorem bulk_hd (q : Hd) : q.1.size + q.2.size + 1 ≤ Rows.uptoBulk (dHd q : DataW H) := by
  simp only [dHd, Rows.uptoBulk, Rows.uptoBulkAll, size_len]
  omega
theorem bulk_all (l : List Hd) : bytesIn l ≤ Rows.uptoBulkAll (l.map dHd : List (DataW H)) := by
  induction l with
  | nil => simp [bytesIn]
  | cons q r ih =>
    rw [bytesIn_cons, List.map_cons, Rows.uptoBulkAll]
    have := bulk_hd (H := H) q
    omega
theorem bulk_hds {d : DataW H} {l : List Hd} (hf : (d = .nil ∧ l = []) ∨ ∃ sp, d = .slice (l.map dHd) sp) : bytesIn l ≤ Rows.uptoBulk d := by
  rcases hf with ⟨_, rfl⟩ | ⟨sp, rfl⟩
  · simp [bytesIn]
  · rw [Rows.uptoBulk]
    have := bulk_all (H := H) l
    omega
theorem bulk_each {l : List ByteArray} : ∀ z ∈ l, z.size ≤ Rows.uptoBulkAll (strs l : List (DataW H)) := by
  induction l with
  | nil => intro z hz; cases hz
  | cons q r ih =>
    intro z hz
    have e : (strs (q :: r) : List (DataW H)) = .lit (.string q.data.toList) :: strs r := rfl
    rw [e, Rows.uptoBulkAll, Rows.uptoBulk, ← size_len]
    rcases List.mem_cons.1 hz with rfl | hz
    · omega
    · have := ih z hz
      omega
theorem bulk_strs {d : DataW H} {l : List ByteArray} (hf : (d = .nil ∧ l = []) ∨ ∃ sp, d = .slice (strs l) sp) : ∀ z ∈ l, z.size ≤ Rows.uptoBulk d := by
  rcases hf with ⟨_, rfl⟩ | ⟨sp, rfl⟩
  · intro z hz; cases hz
  · intro z hz
    rw [Rows.uptoBulk]
    have := bulk_each (H := H) z hz
    omega
end
end Go.Proofs.YtalnjlodldhfbaaGreatDoor
