/-
  What chunk.takeSize, bytes.Equal and chunk.read return: as the plain functions of the mathematics say. Conditions: the slices read as bytes, and the text has at most 1,000,000 of them.
-/
import Derived.Test.YtaabhnjikggomaaChunkMath
import Derived.Test.YtaabhnjikggomaaCycCode
import Derived.Test.YtaabhnjikggomaaTakeAll
namespace Go.Proofs.Ytaabhnjikggomaa
open Go.RowKit Leb

/-- The four bytes of a text's checksum by the table t. -/
def sum4 (t : Nat → Nat) (p : List Int) : List Int := four (4294967295 - Cyc.byTab t 4294967295 p)
theorem sum4_sums (t : Nat → Nat) : Chunk.Sums (sum4 t) := ⟨fun _ => rfl, fun _ => four_bytes (by omega)⟩

/-- The number at the head of a piece: its value, the offset after it, the error's number. -/
def tsz (s : List Int) (p : Int) (full : Bool) : Nat × Int × Int :=
  if (take s p).2.2 ≠ 0 then (0, 0, (take s p).2.2)
  else if 256 < (take s p).1 then (0, 0, 2)
  else if (take s p).1 ≠ 0 ∧ full = false then (0, 0, 9)
  else ((take s p).1, (take s p).2.1, 0)

def Sized (w : World) (r : Nat × Int × Int) (e : Ending) (w' : World) : Prop := e = .returned (.tuple #[.int .i64 r.1, .int .i64 r.2.1, .int .i64 r.2.2]) ∧ w = w'

set_option maxRecDepth 100000 in
set_option maxHeartbeats 400000 in
theorem takeSize_any (A : Option Addr) (n c : Nat) (s : List Int) (p : Int) (full : Bool) (w : World) (hA : Holds w A n c s) :
    Calls Try.prog 29 #[.slice A n c, .int .i64 p, .bool full] w (Sized w (tsz s p full)) := by
  have hT := Lib.hid (take_any A n c s p w hA)
  obtain ⟨r, hr⟩ : ∃ r, r = tsz s p full := ⟨_, rfl⟩
  rw [← hr]
  unfold tsz at hr
  have hlt : U64 (take s p).1 := take_lt hA.byt p
  generalize take s p = k at *
  obtain ⟨m, q, e⟩ := k
  simp only at hr hlt
  have hw := Lib.hid (wrap_of hlt)
  have Hlt := Lib.hid hlt
  have Hr := Lib.hid hr
  clear hr hlt
  by_cases h1 : e = 0
  · subst h1
    by_cases h2 : 256 < m
    · obtain rfl : r = (0, 0, 2) := by rw [Hr.out, if_neg (by simp), if_pos h2]
      clear Hr
      go_enter Try.func29, Try.ntmps29
      go_wp2_with fail
      refine hT.out.mono ?_
      rintro e w' ⟨rfl, rfl⟩
      go_wp2_with fail
      go_ret3
      exact ⟨rfl, rfl⟩
    · by_cases h3 : m = 0
      · subst h3
        obtain rfl : r = (0, q, 0) := by rw [Hr.out, if_neg (by simp), if_neg h2, if_neg (fun h => h.1 rfl)]
        clear Hr
        go_enter Try.func29, Try.ntmps29
        go_wp2_with fail
        refine hT.out.mono ?_
        rintro e w' ⟨rfl, rfl⟩
        go_wp2_with fail
        go_ret3
        exact ⟨rfl, rfl⟩
      · have b0 : ((m : Int) == 0) = false := by rw [beq_eq_false_iff_ne]; omega
        cases full with
        | false =>
          obtain rfl : r = (0, 0, 9) := by rw [Hr.out, if_neg (by simp), if_neg h2, if_pos ⟨h3, rfl⟩]
          clear Hr
          go_enter Try.func29, Try.ntmps29
          go_wp2_with fail
          refine hT.out.mono ?_
          rintro e w' ⟨rfl, rfl⟩
          go_wp2_with fail
          go_ret3
          exact ⟨rfl, rfl⟩
        | true =>
          obtain rfl : r = (m, q, 0) := by rw [Hr.out, if_neg (by simp), if_neg h2, if_neg (fun h => by cases h.2)]
          clear Hr
          go_enter Try.func29, Try.ntmps29
          go_wp2_with fail
          refine hT.out.mono ?_
          rintro e w' ⟨rfl, rfl⟩
          go_wp2_with fail
          go_ret3
          exact ⟨rfl, rfl⟩
  · obtain rfl : r = (0, 0, e) := by rw [Hr.out, if_pos h1]
    have b0 : (e == 0) = false := by rw [beq_eq_false_iff_ne]; omega
    clear Hr
    go_enter Try.func29, Try.ntmps29
    go_wp2_with fail
    refine hT.out.mono ?_
    rintro e w' ⟨rfl, rfl⟩
    go_wp2_with fail
    go_ret3
    exact ⟨rfl, rfl⟩

set_option maxRecDepth 100000 in
set_option maxHeartbeats 400000 in
theorem equal_any (A B : Option Addr) (n m c d : Nat) (x y : List Int) (w : World) (hA : Holds w A n c x) (hB : Holds w B m d y) :
    Calls Try.prog 30 #[.slice A n c, .slice B m d] w fun e w' => e = .returned (.bool (decide (x = y))) ∧ w = w' := by
  have r1 := run_text (P := Try.prog) 24 9 5 Try.underlying24 Try.underlying5 Try.underlying9 hA
  have r2 := run_text (P := Try.prog) 24 9 5 Try.underlying24 Try.underlying5 Try.underlying9 hB
  have r3 := Lib.hid (text_inj hA.byt hB.byt)
  go_enter Try.func30, Try.ntmps30
  go_wp2
  go_ret
  exact ⟨ret_bool r3.out, rfl⟩
end Go.Proofs.Ytaabhnjikggomaa
