/-
  An argument that is a response, as the frame of a statement's proof hands it over: what lies in memory, and how long it is. Conditions: those that each theorem states.
-/
import Derived.Test.YtalnjlodldhfbaaGreatDoorHeadBulk
namespace Go.Proofs.YtalnjlodldhfbaaGreatDoor
open Go.RowKit Go.Lib Go.Deep Go.ChangeShapes Go.WideShapes Go.Joins
open Go.ChangeMaps (open_string)

section
variable {H : Type} {enc : TypeId × Value → H} {W : World}
set_option maxRecDepth 100000 in
/-- A response by value. -/
theorem open_resp {base : Nat} {v : Value} {d : DataW H} {p : List MemPlace} (hval : Value.okWide Tryz.prog W .any base 30 v) (h : DataW.Trod enc Tryz.prog W 0 (fun _ => true) true 30 v d p) :
    ∃ (st : Int) (A : Option Addr) (n c : Nat) (l : List Hd) (bd : ByteArray), v = .agg #[.int .i64 st, .slice A n c, .string bd] ∧ (-9223372036854775808 ≤ st ∧ st ≤ 9223372036854775807) ∧ Hds W A n c l ∧
      ∃ dh, d = .agg [.lit (.int .i64 st), dh, .lit (.string bd.data.toList)] ∧ ((dh = .nil ∧ l = []) ∨ ∃ sp, dh = .slice (l.map dHd) sp) := by
  have hC : Tryz.prog.cellsOf 30 = 3 := by kernel_rfl
  obtain ⟨v0, v1, v2, y0, y1, y2, k, rfl, rfl, _, h0, h1, h2⟩ := open_agg3 Tryz.underlying30 (by kernel_rfl) hC hval h
  obtain ⟨st, e0, rfl, hw⟩ := DataW.trod_int Tryz.underlying3 h0
  obtain ⟨bd, e2, rfl, _⟩ := DataW.trod_string Tryz.underlying9 h2
  obtain rfl : v0 = .int .i64 st := by simpa using e0
  obtain rfl : v2 = .string bd := by simpa using e2
  obtain ⟨dh, ph⟩ := y1
  have hs : ∃ A n c, v1 = .slice A n c := by
    rcases open_slice Tryz.underlying22 h1 with ⟨e, _⟩ | ⟨a, len, cap, _, _, _, _, e, _⟩
    · exact ⟨_, _, _, by simpa using e⟩
    · exact ⟨_, _, _, by simpa using e⟩
  obtain ⟨A, n, c, rfl⟩ := hs
  obtain ⟨A', n', c', l, e, hH, hd⟩ := open_hds0 (A := A) (n := n) (c := c) (d := dh) (p := ph) ⟨k, by simpa [Value.cells] using h1⟩
  injection e with e1 e2 e3
  subst e1 e2 e3
  have := bounds_i64 hw
  exact ⟨st, A, n, c, l, bd, rfl, ⟨by omega, by omega⟩, hH, dh, rfl, hd⟩
theorem bulk_resp {st : Int} {dh : DataW H} {bd : List UInt8} {l : List Hd} (hf : (dh = .nil ∧ l = []) ∨ ∃ sp, dh = .slice (l.map dHd) sp) : bytesIn l ≤ Rows.uptoBulk (.agg [.lit (.int .i64 st), dh, .lit (.string bd)] : DataW H) := by
  have := bulk_hds hf
  simp only [Rows.uptoBulk, Rows.uptoBulkAll]
  omega
end
end Go.Proofs.YtalnjlodldhfbaaGreatDoor
