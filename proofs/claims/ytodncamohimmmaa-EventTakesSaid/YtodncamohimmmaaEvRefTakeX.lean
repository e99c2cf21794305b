/-
  The reference's Take of layer 21, whatever the bytes. Conditions: those that RefTakes names.
-/
import Derived.Test.YtodncamohimmmaaEvRefTakeM
import Derived.Test.YtodncamohimmmaaEvTakesW
namespace Go.Proofs.Ytodncamohimmmaa
open Go.RowKit Go.Lib Go.Maps Leb

theorem refTakes_any : RefTakes := by
  intro b t T0 u ls k A n c X p W h hlook hk hX hXo hT hn hls _ _
  obtain ⟨a, q1, e1, h1⟩ : ∃ a q e, take X p = (a, q, e) := ⟨_, _, _, rfl⟩
  by_cases he : e1 = 0
  · subst he
    by_cases hkd : a < 1 ∨ 7 < a
    · have e : takeE k X p = errE k 4 := by
        unfold takeE
        rw [h1, if_neg (fun h => h rfl)]
        exact if_pos hkd
      rw [e]
      refine (refTakeE_kind b A n c X p W hX h1 hkd).mono ?_
      rintro en w' ⟨rfl, hb⟩
      exact takEE_err (by decide) (alt_below hb _)
    · have e : takeE k X p = ntakeE k X a (nsteps X (decide (a = 2)) ⟨[], q1, 0⟩ (manyN a)) := by
        unfold takeE
        rw [h1, if_neg (fun h => h rfl)]
        exact if_neg hkd
      rw [e]
      exact refTakeE_main b t T0 u ls k A n c X p W h hlook hk hX hXo hT hn hls (fun q hq g off e h0 => by
        have h9 := (h.hds q hq).rd
        rw [e] at h9
        exact h9.block h0) h1 (by omega) (by omega)
  · have e : takeE k X p = errE k e1 := by
      unfold takeE
      rw [h1]
      exact if_pos he
    rw [e]
    refine (refTakeE_e1 b A n c X p W hX h1 (beq_eq_false_iff_ne.2 he)).mono ?_
    rintro en w' ⟨rfl, hb⟩
    exact takEE_err he (alt_below hb _)
end Go.Proofs.Ytodncamohimmmaa
