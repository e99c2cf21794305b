/-
  Letters of one size as the reference has them. Conditions: those that each theorem states.
-/
import Derived.Test.YtdmmkjioaiefdaaAscCase
namespace Go.Proofs.Ytdmmkjioaiefdaa
open Go.RowKit Go.Lib

/-- The bytes as numbers. -/
def nums (l : List UInt8) : List Int := l.map fun b => (b.toNat : Int)
theorem nums_len (l : List UInt8) : (nums l).length = l.length := by simp [nums]
theorem nums_bytes (l : List UInt8) : Leb.Bytes (nums l) := fun x hx => by
  obtain ⟨b, _, rfl⟩ := List.mem_map.1 hx
  have := byte_lt b
  omega
theorem nums_snoc {l : List UInt8} {k : Nat} {f : UInt8 → UInt8} (hk : k < l.length) {u : Int} (hu : u = ((f l[k]).toNat : Int)) : nums ((l.take k).map f) ++ [u] = nums ((l.take (k + 1)).map f) := by
  rw [List.take_add_one, List.getElem?_eq_getElem hk, hu, List.map_append]
  unfold nums
  rw [List.map_append]
  rfl
theorem one_byte {u : Int} (h0 : 0 ≤ u) (h1 : u < 256) : Leb.Bytes [u] := fun x hx => by
  simp at hx
  omega

/-- The reference's loop: of the bytes l the first k are taken over. -/
def CaseRel (w : World) (l : List UInt8) (f : UInt8 → UInt8) (v i : Value) (wr : World) : Prop :=
  ∃ k : Nat, k ≤ l.length ∧ i = .int .i64 k ∧ Owns wr w.heap.size 5 v (nums ((l.take k).map f)) ∧ Below w.heap.size w wr

theorem case_step {w wr w1 : World} {l : List UInt8} {f : UInt8 → UInt8} {v v1 : Value} {k : Nat} {u : Int} (o : Obj) (hk : k < l.length) (hu : u = ((f l[k]).toNat : Int))
    (hown : Owns wr w.heap.size 5 v (nums ((l.take k).map f))) (hb : Below w.heap.size w wr) (h1 : Owns w1 w.heap.size 5 v1 (nums ((l.take k).map f) ++ [u])) (hg : (wr.alloc o).grownBy w1 v.ownBlock) :
    CaseRel w l f v1 (.int .i64 ((k + 1 : Nat) : Int)) w1 := by
  rw [nums_snoc hk hu] at h1
  exact ⟨k + 1, hk, rfl, h1, below_own (hb.alloc hb.size _) (hown.alloc _) hg (by have := hb.size; simp; omega)⟩

set_option maxHeartbeats 2000000 in
set_option maxRecDepth 100000 in
theorem refLower_any (s : ByteArray) (hs : s.size ≤ 140737488351232) (w : World) : Calls Try.prog 20 #[.string s] w fun e w' =>
    e = .returned (.string ⟨(s.data.toList.map (turn 65 90 32)).toArray⟩) ∧ Below w.heap.size w w' := by
  obtain ⟨i0, hi, hz0, hz1, hz2⟩ := info_parts Try.info8
  have h0 := Lib.hid (owns_lit w w.heap.size 5 #[] [] rfl Leb.Bytes.nil (by simp) (Nat.le_refl _))
  have hsl := Lib.hid (size_len s)
  obtain ⟨l, hl⟩ : ∃ l, l = s.data.toList := ⟨_, rfl⟩
  rw [← hl] at hsl
  obtain ⟨r, hr⟩ : ∃ r : ByteArray, r = ⟨(s.data.toList.map (turn 65 90 32)).toArray⟩ := ⟨_, rfl⟩
  rw [← hr]
  have hl' := Lib.hid hl
  have hr' := Lib.hid hr
  clear hr hl
  go_enter Try.func20, Try.ntmps20
  go_wp2
  go_loopw [3, 4] (fun v i wr => CaseRel w l (turn 65 90 32) v i wr) (fun _ i _ => s.size - (RowKit.intOf i).toNat)
  case atStart => exact ⟨0, Nat.zero_le _, rfl, h0.out, (Below.refl _ _).alloc (Nat.le_refl _) _⟩
  case round =>
    obtain ⟨k, hk, rfl, hown, hb⟩ := hrel
    rw [← hsl.out] at hk
    have hB := hb.size
    have hlen : (nums ((l.take k).map (turn 65 90 32))).length = k := by rw [nums_len, List.length_map, List.length_take, ← hsl.out]; omega
    have hown' := Lib.hid hown
    generalize hys : nums ((l.take k).map (turn 65 90 32)) = ys at hown hlen
    have hys' := Lib.hid hys
    have hlen' := Lib.hid hlen
    clear hys hlen
    by_cases hkn : k < s.size
    · have hkl : k < l.length := by rw [← hsl.out]; exact hkn
      have hat : ∀ h : k < s.size, s[k] = l[k] := fun h => by rw [byte_at s k h]; simp only [hl'.out]
      have hat' := Lib.hid hat
      have hbl := byte_lt s[k]
      clear hat
      rcases (show s[k].toNat < 65 ∨ (65 ≤ s[k].toNat ∧ s[k].toNat ≤ 90) ∨ 90 < s[k].toNat by omega) with h | ⟨h, h'⟩ | h
      · have hu : (s[k].toNat : Int) = (((turn 65 90 32) l[k]).toNat : Int) := by rw [← hat'.out hkn, turn, if_neg (by omega)]
        have hu' := Lib.hid hu
        have H2 := Lib.hid (holds_new wr 5 #[.int .u8 (s[k].toNat : Int)] [(s[k].toNat : Int)] rfl (one_byte (by omega) (by omega)) (by simp [maxLen]))
        clear hu
        go_wp2_with (at_builtin; refine wpList_append_bytes rfl (.tmp 24) (.tmp 26) 38 rfl w.heap.size 5 i0 Try.underlying38 hi hz0 hz1 hz2 _ ys rfl (hown.alloc _) _ 1 1 [(s[k].toNat : Int)] rfl H2.out (by rw [hlen'.out]; omega) (by simp; omega) ?_; intro v1 w1 hown1 hg1 hat1)
        go_roundw
        case rel =>
          rw [← hys'.out] at hown1
          exact case_step _ hkl hu'.out hown'.out hb hown1 hg1
        case measure => simp [RowKit.intOf]; omega
      · have hu : ((s[k].toNat : Int) + 32) = (((turn 65 90 32) l[k]).toNat : Int) := by rw [← hat'.out hkn, turn, if_pos ⟨by omega, by omega⟩, UInt8.toNat_ofNat']; omega
        have hu' := Lib.hid hu
        have H2 := Lib.hid (holds_new wr 5 #[.int .u8 ((s[k].toNat : Int) + 32)] [((s[k].toNat : Int) + 32)] rfl (one_byte (by omega) (by omega)) (by simp [maxLen]))
        clear hu
        go_wp2_with (at_builtin; refine wpList_append_bytes rfl (.tmp 24) (.tmp 26) 38 rfl w.heap.size 5 i0 Try.underlying38 hi hz0 hz1 hz2 _ ys rfl (hown.alloc _) _ 1 1 [((s[k].toNat : Int) + 32)] rfl H2.out (by rw [hlen'.out]; omega) (by simp; omega) ?_; intro v1 w1 hown1 hg1 hat1)
        go_roundw
        case rel =>
          rw [← hys'.out] at hown1
          exact case_step _ hkl hu'.out hown'.out hb hown1 hg1
        case measure => simp [RowKit.intOf]; omega
      · have hu : (s[k].toNat : Int) = (((turn 65 90 32) l[k]).toNat : Int) := by rw [← hat'.out hkn, turn, if_neg (by omega)]
        have hu' := Lib.hid hu
        have H2 := Lib.hid (holds_new wr 5 #[.int .u8 (s[k].toNat : Int)] [(s[k].toNat : Int)] rfl (one_byte (by omega) (by omega)) (by simp [maxLen]))
        clear hu
        go_wp2_with (at_builtin; refine wpList_append_bytes rfl (.tmp 24) (.tmp 26) 38 rfl w.heap.size 5 i0 Try.underlying38 hi hz0 hz1 hz2 _ ys rfl (hown.alloc _) _ 1 1 [(s[k].toNat : Int)] rfl H2.out (by rw [hlen'.out]; omega) (by simp; omega) ?_; intro v1 w1 hown1 hg1 hat1)
        go_roundw
        case rel =>
          rw [← hys'.out] at hown1
          exact case_step _ hkl hu'.out hown'.out hb hown1 hg1
        case measure => simp [RowKit.intOf]; omega
    · have e : k = s.size := by omega
      subst e
      obtain ⟨X, c, hv, hh⟩ := hown.holds
      subst hv
      have htext := run_text (P := Try.prog) 38 9 5 Try.underlying38 Try.underlying5 Try.underlying9 hh
      have hrr : strOfNums ys = r := by
        rw [← hys'.out, hr'.out, ← hl'.out, hsl.out, List.take_length]
        exact bytes_text _
      rw [hrr] at htext
      clear hrr hown hh
      go_wp2
      go_ret
      exact ⟨rfl, hb⟩
end Go.Proofs.Ytdmmkjioaiefdaa
