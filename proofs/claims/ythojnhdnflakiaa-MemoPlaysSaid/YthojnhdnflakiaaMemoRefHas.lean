/-
  The reference's memo of layer 15 in memory, and its Has. Conditions: those that each theorem states.
-/
import Derived.Test.YthojnhdnflakiaaMemoRM
namespace Go.Proofs.Ythojnhdnflakiaa
open Go.RowKit Go.Lib Go.Shelf

set_option maxHeartbeats 16000000 in
set_option maxRecDepth 100000 in
theorem refHas_any (b most : Nat) (v : Value) (l : List Ent) (x : Ent) (now : Int) (w : World) (h : RM w b most v l) :
    Calls Try.prog 12 #[.pointer (some ⟨b, 0, Option.none⟩), evalue x, .int .i64 now] w fun e w' => e = .returned (.bool (has l x now)) ∧ Below w.heap.size w w' := by
  obtain ⟨A, c, rfl, hE⟩ := h.own.eds
  obtain ⟨n, hn⟩ : ∃ n, n = l.length := ⟨_, rfl⟩
  rw [← hn] at hE h
  have hnm : n ≤ 9223372036854775807 := by have h1 := hE.cap; have h2 := hE.room; unfold maxLen at h2; omega
  have hl := Lib.hid hE.len
  have hM := Lib.hid h
  have hE' := Lib.hid hE
  have hbx := Lib.hid (box_six w x 32)
  have hb0 := Lib.hid (below_box w (.cells (ecell x).toArray 32))
  obtain ⟨w0, hw0⟩ : ∃ w0, w0 = w.alloc (.cells (ecell x).toArray 32) := ⟨_, rfl⟩
  rw [← hw0] at hbx hb0
  obtain ⟨x1, x2, x3, x4, x5, x6⟩ := x
  have hw0' : Hid (w.alloc (.cells #[.string x1, .string x2, .bool x3, .string x4, .string x5, .int .i64 x6] 32) = w0) := Lib.hid hw0.symm
  clear h hE hw0 hn
  unfold evalue
  simp only at hbx ⊢
  go_enter Try.func12, Try.ntmps12
  go_wp2
  rw [hw0'.out]
  go_loopw [7] (fun i wr => ∃ q : Nat, q ≤ n ∧ i = .int .i64 q ∧ Below w0.heap.size w0 wr ∧ Hid ((l.take q).any (letsE ⟨x1, x2, x3, x4, x5, x6⟩ now) = false)) (fun i _ => n - (RowKit.intOf i).toNat)
  case atStart => exact ⟨0, Nat.zero_le _, rfl, Below.refl _ _, Lib.hid rfl⟩
  case round =>
    obtain ⟨q, hq, rfl, hbe, hall⟩ := hrel
    have hbw := Lib.hid (below_then hb0.out hbe)
    obtain ⟨z1, z2, z3, z4, z5, z6⟩ := hbx.out
    replace z1 := cell_later hbe z1
    replace z2 := cell_later hbe z2
    replace z3 := cell_later hbe z3
    replace z4 := cell_later hbe z4
    replace z5 := cell_later hbe z5
    replace z6 := cell_later hbe z6
    have m1 := (hM.out.later hbw.out).cells.2
    by_cases hlt : q < n
    · have hql : q < l.length := by rw [hl.out]; exact hlt
      obtain ⟨y, hy⟩ : ∃ y, y = l[q] := ⟨_, rfl⟩
      obtain ⟨g, off, rfl, h1, h2, h3, h4, h5, h6⟩ := (hE'.out.later hbw.out).six hlt hy
      have hst := Lib.hid (any_step (p := letsE ⟨x1, x2, x3, x4, x5, x6⟩ now) hql)
      have hht := Lib.hid (fun hp => any_hit (p := letsE ⟨x1, x2, x3, x4, x5, x6⟩ now) hql hp)
      rw [← hy] at hst hht
      clear hy
      obtain ⟨y1, y2, y3, y4, y5, y6⟩ := y
      simp only at h1 h2 h3 h4 h5 h6
      have key' := Lib.hid (letsE_is ⟨x1, x2, x3, x4, x5, x6⟩ now ⟨y1, y2, y3, y4, y5, y6⟩)
      simp only at key'
      generalize letsE ⟨x1, x2, x3, x4, x5, x6⟩ now ⟨y1, y2, y3, y4, y5, y6⟩ = r at hst hht key'
      have hby := Lib.hid (below_box wr (.cells #[.string y1, .string y2, .bool y3, .string y4, .string y5, .int .i64 y6] 32))
      replace z1 := cell_later hby.out z1
      replace z2 := cell_later hby.out z2
      replace z3 := cell_later hby.out z3
      replace z4 := cell_later hby.out z4
      replace z5 := cell_later hby.out z5
      replace z6 := cell_later hby.out z6
      by_cases c1 : now < y6
      · rcases Bool.eq_false_or_eq_true (y1.toList == x1.toList) with q1 | q1
        · rcases Bool.eq_false_or_eq_true (y2.toList == x2.toList) with q2 | q2
          · cases x3 with
            | false =>
              cases y3 with
              | false =>
                rcases Bool.eq_false_or_eq_true (y4.toList == x4.toList) with m1 | m1
                · rcases Bool.eq_false_or_eq_true (y5.toList == x5.toList) with h1 | h1
                  · have hr : Hid (r = true) := Lib.hid (by rw [key'.out, decide_eq_true c1, q1, q2, m1, h1]; rfl)
                    clear key'
                    go_wp2
                    go_ret
                    exact ⟨ret_bool (show true = has l _ now from (hht.out hr.out).symm), below_then hbw.out hby.out⟩
                  · rcases Bool.eq_false_or_eq_true (y5.toList == [42]) with h2 | h2
                    · rcases Bool.eq_false_or_eq_true (x5.toList == []) with h3 | h3
                      · have hr : Hid (r = false) := Lib.hid (by rw [key'.out, decide_eq_true c1, q1, q2, m1, h1, h2, h3]; rfl)
                        clear key'
                        go_wp2
                        go_roundw
                        case rel => exact ⟨q + 1, by omega, by go_num, below_then hbe hby.out, Lib.hid (by rw [hst.out, hall.out, hr.out]; rfl)⟩
                        case measure => simp [RowKit.intOf]; omega
                      · rcases Bool.eq_false_or_eq_true (x5.toList == [97, 117, 116, 104, 111, 114, 105, 122, 97, 116, 105, 111, 110]) with h4 | h4
                        · have hr : Hid (r = false) := Lib.hid (by rw [key'.out, decide_eq_true c1, q1, q2, m1, h1, h2, h3, h4]; rfl)
                          clear key'
                          go_wp2
                          go_roundw
                          case rel => exact ⟨q + 1, by omega, by go_num, below_then hbe hby.out, Lib.hid (by rw [hst.out, hall.out, hr.out]; rfl)⟩
                          case measure => simp [RowKit.intOf]; omega
                        · have hr : Hid (r = true) := Lib.hid (by rw [key'.out, decide_eq_true c1, q1, q2, m1, h1, h2, h3, h4]; rfl)
                          clear key'
                          go_wp2
                          go_ret
                          exact ⟨ret_bool (show true = has l _ now from (hht.out hr.out).symm), below_then hbw.out hby.out⟩
                    · have hr : Hid (r = false) := Lib.hid (by rw [key'.out, decide_eq_true c1, q1, q2, m1, h1, h2]; rfl)
                      clear key'
                      go_wp2
                      go_roundw
                      case rel => exact ⟨q + 1, by omega, by go_num, below_then hbe hby.out, Lib.hid (by rw [hst.out, hall.out, hr.out]; rfl)⟩
                      case measure => simp [RowKit.intOf]; omega
                · rcases Bool.eq_false_or_eq_true (y4.toList == [42]) with m2 | m2
                  · rcases Bool.eq_false_or_eq_true (x4.toList == []) with m3 | m3
                    · rcases Bool.eq_false_or_eq_true (y5.toList == x5.toList) with h1 | h1
                      · have hr : Hid (r = false) := Lib.hid (by rw [key'.out, decide_eq_true c1, q1, q2, m1, m2, m3, h1]; rfl)
                        clear key'
                        go_wp2
                        go_roundw
                        case rel => exact ⟨q + 1, by omega, by go_num, below_then hbe hby.out, Lib.hid (by rw [hst.out, hall.out, hr.out]; rfl)⟩
                        case measure => simp [RowKit.intOf]; omega
                      · rcases Bool.eq_false_or_eq_true (y5.toList == [42]) with h2 | h2
                        · rcases Bool.eq_false_or_eq_true (x5.toList == []) with h3 | h3
                          · have hr : Hid (r = false) := Lib.hid (by rw [key'.out, decide_eq_true c1, q1, q2, m1, m2, m3, h1, h2, h3]; rfl)
                            clear key'
                            go_wp2
                            go_roundw
                            case rel => exact ⟨q + 1, by omega, by go_num, below_then hbe hby.out, Lib.hid (by rw [hst.out, hall.out, hr.out]; rfl)⟩
                            case measure => simp [RowKit.intOf]; omega
                          · rcases Bool.eq_false_or_eq_true (x5.toList == [97, 117, 116, 104, 111, 114, 105, 122, 97, 116, 105, 111, 110]) with h4 | h4
                            · have hr : Hid (r = false) := Lib.hid (by rw [key'.out, decide_eq_true c1, q1, q2, m1, m2, m3, h1, h2, h3, h4]; rfl)
                              clear key'
                              go_wp2
                              go_roundw
                              case rel => exact ⟨q + 1, by omega, by go_num, below_then hbe hby.out, Lib.hid (by rw [hst.out, hall.out, hr.out]; rfl)⟩
                              case measure => simp [RowKit.intOf]; omega
                            · have hr : Hid (r = false) := Lib.hid (by rw [key'.out, decide_eq_true c1, q1, q2, m1, m2, m3, h1, h2, h3, h4]; rfl)
                              clear key'
                              go_wp2
                              go_roundw
                              case rel => exact ⟨q + 1, by omega, by go_num, below_then hbe hby.out, Lib.hid (by rw [hst.out, hall.out, hr.out]; rfl)⟩
                              case measure => simp [RowKit.intOf]; omega
                        · have hr : Hid (r = false) := Lib.hid (by rw [key'.out, decide_eq_true c1, q1, q2, m1, m2, m3, h1, h2]; rfl)
                          clear key'
                          go_wp2
                          go_roundw
                          case rel => exact ⟨q + 1, by omega, by go_num, below_then hbe hby.out, Lib.hid (by rw [hst.out, hall.out, hr.out]; rfl)⟩
                          case measure => simp [RowKit.intOf]; omega
                    · rcases Bool.eq_false_or_eq_true (y5.toList == x5.toList) with h1 | h1
                      · have hr : Hid (r = true) := Lib.hid (by rw [key'.out, decide_eq_true c1, q1, q2, m1, m2, m3, h1]; rfl)
                        clear key'
                        go_wp2
                        go_ret
                        exact ⟨ret_bool (show true = has l _ now from (hht.out hr.out).symm), below_then hbw.out hby.out⟩
                      · rcases Bool.eq_false_or_eq_true (y5.toList == [42]) with h2 | h2
                        · rcases Bool.eq_false_or_eq_true (x5.toList == []) with h3 | h3
                          · have hr : Hid (r = false) := Lib.hid (by rw [key'.out, decide_eq_true c1, q1, q2, m1, m2, m3, h1, h2, h3]; rfl)
                            clear key'
                            go_wp2
                            go_roundw
                            case rel => exact ⟨q + 1, by omega, by go_num, below_then hbe hby.out, Lib.hid (by rw [hst.out, hall.out, hr.out]; rfl)⟩
                            case measure => simp [RowKit.intOf]; omega
                          · rcases Bool.eq_false_or_eq_true (x5.toList == [97, 117, 116, 104, 111, 114, 105, 122, 97, 116, 105, 111, 110]) with h4 | h4
                            · have hr : Hid (r = false) := Lib.hid (by rw [key'.out, decide_eq_true c1, q1, q2, m1, m2, m3, h1, h2, h3, h4]; rfl)
                              clear key'
                              go_wp2
                              go_roundw
                              case rel => exact ⟨q + 1, by omega, by go_num, below_then hbe hby.out, Lib.hid (by rw [hst.out, hall.out, hr.out]; rfl)⟩
                              case measure => simp [RowKit.intOf]; omega
                            · have hr : Hid (r = true) := Lib.hid (by rw [key'.out, decide_eq_true c1, q1, q2, m1, m2, m3, h1, h2, h3, h4]; rfl)
                              clear key'
                              go_wp2
                              go_ret
                              exact ⟨ret_bool (show true = has l _ now from (hht.out hr.out).symm), below_then hbw.out hby.out⟩
                        · have hr : Hid (r = false) := Lib.hid (by rw [key'.out, decide_eq_true c1, q1, q2, m1, m2, m3, h1, h2]; rfl)
                          clear key'
                          go_wp2
                          go_roundw
                          case rel => exact ⟨q + 1, by omega, by go_num, below_then hbe hby.out, Lib.hid (by rw [hst.out, hall.out, hr.out]; rfl)⟩
                          case measure => simp [RowKit.intOf]; omega
                  · rcases Bool.eq_false_or_eq_true (y5.toList == x5.toList) with h1 | h1
                    · have hr : Hid (r = false) := Lib.hid (by rw [key'.out, decide_eq_true c1, q1, q2, m1, m2, h1]; rfl)
                      clear key'
                      go_wp2
                      go_roundw
                      case rel => exact ⟨q + 1, by omega, by go_num, below_then hbe hby.out, Lib.hid (by rw [hst.out, hall.out, hr.out]; rfl)⟩
                      case measure => simp [RowKit.intOf]; omega
                    · rcases Bool.eq_false_or_eq_true (y5.toList == [42]) with h2 | h2
                      · rcases Bool.eq_false_or_eq_true (x5.toList == []) with h3 | h3
                        · have hr : Hid (r = false) := Lib.hid (by rw [key'.out, decide_eq_true c1, q1, q2, m1, m2, h1, h2, h3]; rfl)
                          clear key'
                          go_wp2
                          go_roundw
                          case rel => exact ⟨q + 1, by omega, by go_num, below_then hbe hby.out, Lib.hid (by rw [hst.out, hall.out, hr.out]; rfl)⟩
                          case measure => simp [RowKit.intOf]; omega
                        · rcases Bool.eq_false_or_eq_true (x5.toList == [97, 117, 116, 104, 111, 114, 105, 122, 97, 116, 105, 111, 110]) with h4 | h4
                          · have hr : Hid (r = false) := Lib.hid (by rw [key'.out, decide_eq_true c1, q1, q2, m1, m2, h1, h2, h3, h4]; rfl)
                            clear key'
                            go_wp2
                            go_roundw
                            case rel => exact ⟨q + 1, by omega, by go_num, below_then hbe hby.out, Lib.hid (by rw [hst.out, hall.out, hr.out]; rfl)⟩
                            case measure => simp [RowKit.intOf]; omega
                          · have hr : Hid (r = false) := Lib.hid (by rw [key'.out, decide_eq_true c1, q1, q2, m1, m2, h1, h2, h3, h4]; rfl)
                            clear key'
                            go_wp2
                            go_roundw
                            case rel => exact ⟨q + 1, by omega, by go_num, below_then hbe hby.out, Lib.hid (by rw [hst.out, hall.out, hr.out]; rfl)⟩
                            case measure => simp [RowKit.intOf]; omega
                      · have hr : Hid (r = false) := Lib.hid (by rw [key'.out, decide_eq_true c1, q1, q2, m1, m2, h1, h2]; rfl)
                        clear key'
                        go_wp2
                        go_roundw
                        case rel => exact ⟨q + 1, by omega, by go_num, below_then hbe hby.out, Lib.hid (by rw [hst.out, hall.out, hr.out]; rfl)⟩
                        case measure => simp [RowKit.intOf]; omega
              | true =>
                rcases Bool.eq_false_or_eq_true (y4.toList == x4.toList) with m1 | m1
                · rcases Bool.eq_false_or_eq_true (y5.toList == x5.toList) with h1 | h1
                  · have hr : Hid (r = true) := Lib.hid (by rw [key'.out, decide_eq_true c1, q1, q2, m1, h1]; rfl)
                    clear key'
                    go_wp2
                    go_ret
                    exact ⟨ret_bool (show true = has l _ now from (hht.out hr.out).symm), below_then hbw.out hby.out⟩
                  · have hr : Hid (r = false) := Lib.hid (by rw [key'.out, decide_eq_true c1, q1, q2, m1, h1]; rfl)
                    clear key'
                    go_wp2
                    go_roundw
                    case rel => exact ⟨q + 1, by omega, by go_num, below_then hbe hby.out, Lib.hid (by rw [hst.out, hall.out, hr.out]; rfl)⟩
                    case measure => simp [RowKit.intOf]; omega
                · rcases Bool.eq_false_or_eq_true (y5.toList == x5.toList) with h1 | h1
                  · have hr : Hid (r = false) := Lib.hid (by rw [key'.out, decide_eq_true c1, q1, q2, m1, h1]; rfl)
                    clear key'
                    go_wp2
                    go_roundw
                    case rel => exact ⟨q + 1, by omega, by go_num, below_then hbe hby.out, Lib.hid (by rw [hst.out, hall.out, hr.out]; rfl)⟩
                    case measure => simp [RowKit.intOf]; omega
                  · have hr : Hid (r = false) := Lib.hid (by rw [key'.out, decide_eq_true c1, q1, q2, m1, h1]; rfl)
                    clear key'
                    go_wp2
                    go_roundw
                    case rel => exact ⟨q + 1, by omega, by go_num, below_then hbe hby.out, Lib.hid (by rw [hst.out, hall.out, hr.out]; rfl)⟩
                    case measure => simp [RowKit.intOf]; omega
            | true =>
              cases y3 with
              | false =>
                have hr : Hid (r = false) := Lib.hid (by rw [key'.out, decide_eq_true c1, q1, q2]; rfl)
                clear key'
                go_wp2
                go_roundw
                case rel => exact ⟨q + 1, by omega, by go_num, below_then hbe hby.out, Lib.hid (by rw [hst.out, hall.out, hr.out]; rfl)⟩
                case measure => simp [RowKit.intOf]; omega
              | true =>
                rcases Bool.eq_false_or_eq_true (y4.toList == x4.toList) with m1 | m1
                · rcases Bool.eq_false_or_eq_true (y5.toList == x5.toList) with h1 | h1
                  · have hr : Hid (r = true) := Lib.hid (by rw [key'.out, decide_eq_true c1, q1, q2, m1, h1]; rfl)
                    clear key'
                    go_wp2
                    go_ret
                    exact ⟨ret_bool (show true = has l _ now from (hht.out hr.out).symm), below_then hbw.out hby.out⟩
                  · have hr : Hid (r = false) := Lib.hid (by rw [key'.out, decide_eq_true c1, q1, q2, m1, h1]; rfl)
                    clear key'
                    go_wp2
                    go_roundw
                    case rel => exact ⟨q + 1, by omega, by go_num, below_then hbe hby.out, Lib.hid (by rw [hst.out, hall.out, hr.out]; rfl)⟩
                    case measure => simp [RowKit.intOf]; omega
                · rcases Bool.eq_false_or_eq_true (y5.toList == x5.toList) with h1 | h1
                  · have hr : Hid (r = false) := Lib.hid (by rw [key'.out, decide_eq_true c1, q1, q2, m1, h1]; rfl)
                    clear key'
                    go_wp2
                    go_roundw
                    case rel => exact ⟨q + 1, by omega, by go_num, below_then hbe hby.out, Lib.hid (by rw [hst.out, hall.out, hr.out]; rfl)⟩
                    case measure => simp [RowKit.intOf]; omega
                  · have hr : Hid (r = false) := Lib.hid (by rw [key'.out, decide_eq_true c1, q1, q2, m1, h1]; rfl)
                    clear key'
                    go_wp2
                    go_roundw
                    case rel => exact ⟨q + 1, by omega, by go_num, below_then hbe hby.out, Lib.hid (by rw [hst.out, hall.out, hr.out]; rfl)⟩
                    case measure => simp [RowKit.intOf]; omega
          · have hr : Hid (r = false) := Lib.hid (by rw [key'.out, decide_eq_true c1, q1, q2]; rfl)
            clear key'
            go_wp2
            go_roundw
            case rel => exact ⟨q + 1, by omega, by go_num, below_then hbe hby.out, Lib.hid (by rw [hst.out, hall.out, hr.out]; rfl)⟩
            case measure => simp [RowKit.intOf]; omega
        · have hr : Hid (r = false) := Lib.hid (by rw [key'.out, decide_eq_true c1, q1]; rfl)
          clear key'
          go_wp2
          go_roundw
          case rel => exact ⟨q + 1, by omega, by go_num, below_then hbe hby.out, Lib.hid (by rw [hst.out, hall.out, hr.out]; rfl)⟩
          case measure => simp [RowKit.intOf]; omega
      · have hr : Hid (r = false) := Lib.hid (by rw [key'.out, decide_eq_false c1]; rfl)
        clear key'
        go_wp2
        go_roundw
        case rel => exact ⟨q + 1, by omega, by go_num, below_then hbe hby.out, Lib.hid (by rw [hst.out, hall.out, hr.out]; rfl)⟩
        case measure => simp [RowKit.intOf]; omega
    · have e : q = n := by omega
      have hf := Lib.hid (show has l ⟨x1, x2, x3, x4, x5, x6⟩ now = false by
        have h1 := hall.out
        rw [e, ← hl.out, List.take_length] at h1
        exact h1)
      go_wp2
      go_ret
      exact ⟨ret_bool hf.out.symm, hbw.out⟩
end Go.Proofs.Ythojnhdnflakiaa
