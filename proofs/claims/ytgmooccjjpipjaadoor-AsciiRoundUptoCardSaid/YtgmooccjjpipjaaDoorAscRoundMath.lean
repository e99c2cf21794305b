/-
  What AsciiRound rests on: letters turned twice; the parts of a list are not empty, have no white at their ends and no comma, and are their own list. Conditions: those that each theorem states.
-/
import Derived.Test.YtgmooccjjpipjaaDoorAscAwake
import Derived.Test.YtgmooccjjpipjaaDoorRegion
namespace Go.Proofs.YtgmooccjjpipjaaDoor
open Go.RowKit Go.Lib

def lowT (s : ByteArray) : ByteArray := ⟨(s.data.toList.map (turn 65 90 32)).toArray⟩
def upT (s : ByteArray) : ByteArray := ⟨(s.data.toList.map (turn 97 122 224)).toArray⟩

theorem turn_lu (b : UInt8) : turn 65 90 32 (turn 97 122 224 b) = turn 65 90 32 b := by
  have h : ∀ c : Fin 256, turn 65 90 32 (turn 97 122 224 (UInt8.ofNat c.val)) = turn 65 90 32 (UInt8.ofNat c.val) := by decide +kernel
  have := h ⟨b.toNat, byte_lt b⟩
  simpa using this
theorem turn_ul (b : UInt8) : turn 97 122 224 (turn 65 90 32 b) = turn 97 122 224 b := by
  have h : ∀ c : Fin 256, turn 97 122 224 (turn 65 90 32 (UInt8.ofNat c.val)) = turn 97 122 224 (UInt8.ofNat c.val) := by decide +kernel
  have := h ⟨b.toNat, byte_lt b⟩
  simpa using this
theorem low_up (s : ByteArray) : lowT (upT s) = lowT s := by
  unfold lowT upT
  congr 2
  rw [List.map_map]
  exact List.map_congr_left fun b _ => turn_lu b
theorem up_low (s : ByteArray) : upT (lowT s) = upT s := by
  unfold lowT upT
  congr 2
  rw [List.map_map]
  exact List.map_congr_left fun b _ => turn_ul b
theorem low_size (s : ByteArray) : (lowT s).size = s.size := by rw [size_len, size_len]; simp [lowT]
theorem up_size (s : ByteArray) : (upT s).size = s.size := by rw [size_len, size_len]; simp [upT]
theorem lowT_any (s : ByteArray) (hs : s.size ≤ maxLen) (w : World) : Calls Tryd.prog 8 #[.string s] w fun e w' => e = .returned (.string (lowT s)) ∧ Below w.heap.size w w' := lower_any s hs w
theorem upT_any (s : ByteArray) (hs : s.size ≤ maxLen) (w : World) : Calls Tryd.prog 10 #[.string s] w fun e w' => e = .returned (.string (upT s)) ∧ Below w.heap.size w w' := upper_any s hs w

theorem drop_head {l : List UInt8} (h : 0 < (l.dropWhile white).length) : white ((l.dropWhile white)[0]) = false := by
  induction l with
  | nil => simp at h
  | cons b r ih =>
    by_cases hb : white b = true
    · have e : (b :: r).dropWhile white = r.dropWhile white := by simp [List.dropWhile, hb]
      simp only [e] at h ⊢
      exact ih h
    · have hb' : white b = false := by simpa using hb
      have e : (b :: r).dropWhile white = b :: r := by simp [List.dropWhile, hb']
      simp only [e]
      simpa using hb
theorem rtrim_end {l : List UInt8} (h : 0 < (rtrim l).length) : white ((rtrim l)[(rtrim l).length - 1]'(by omega)) = false := by
  unfold rtrim at h ⊢
  rw [List.length_reverse] at h
  rw [List.getElem_reverse]
  simp only [List.length_reverse]
  have e : (l.reverse.dropWhile white).length - 1 - ((l.reverse.dropWhile white).length - 1) = 0 := by omega
  simp only [e]
  exact drop_head h
theorem trim_good (l : List UInt8) : trim (trim l) = trim l := by
  refine trim_lead (fun h => drop_head h) fun h => ?_
  rw [trim_eq] at h
  obtain ⟨p, hp⟩ := List.dropWhile_suffix (l := rtrim l) white
  have hl : (rtrim l).length = p.length + (trim l).length := by
    conv => lhs; rw [← hp]
    rw [List.length_append]
    rfl
  have h' : 0 < (trim l).length := h
  have hr := rtrim_end (l := l) (by omega)
  have e : (rtrim l)[(rtrim l).length - 1]'(by omega) = (trim l)[(trim l).length - 1]'(by omega) := by
    have h1 : (rtrim l)[(rtrim l).length - 1]? = (trim l)[(trim l).length - 1]? := by
      conv => lhs; lhs; rw [← hp]
      rw [List.getElem?_append_right (by omega)]
      congr 1
      omega
    rw [List.getElem?_eq_getElem (by omega), List.getElem?_eq_getElem (by omega)] at h1
    exact Option.some.inj h1
  rw [e] at hr
  exact hr

theorem cut_no {l : List UInt8} : ∀ p ∈ cutAt l, ∀ b ∈ p, b ≠ 44 := by
  induction l with
  | nil => intro p hp; simp [cutAt] at hp; simp [hp]
  | cons c r ih =>
    intro p hp b hb
    rw [cutAt] at hp
    split at hp
    · rcases List.mem_cons.1 hp with rfl | hp
      · cases hb
      · exact ih p hp b hb
    · rename_i hc
      cases h : cutAt r with
      | nil => rw [h] at hp; simp [ahead] at hp; subst hp; simp at hb; subst hb; exact hc
      | cons q t =>
        rw [h] at hp ih
        simp only [ahead, List.mem_cons] at hp
        rcases hp with rfl | hp
        · rcases List.mem_cons.1 hb with rfl | hb
          · exact hc
          · exact ih q (by simp) b hb
        · exact ih p (by simp [hp]) b hb
theorem trim_sub {l : List UInt8} {b : UInt8} (h : b ∈ trim l) : b ∈ l := by
  rw [trim_eq] at h
  have h1 : b ∈ rtrim l := (List.dropWhile_sublist white).subset h
  unfold rtrim at h1
  rw [List.mem_reverse] at h1
  have h2 := (List.dropWhile_sublist white).subset h1
  exact List.mem_reverse.1 h2

/-- A part of a list is not empty, has no white at its ends, is its own list, and is no longer than the text. -/
theorem part_good {l p : List UInt8} (h : p ∈ listOf l) : p ≠ [] ∧ trim p = p ∧ listOf p = [p] ∧ p.length ≤ l.length := by
  unfold listOf clean at h
  rw [List.mem_filter, List.mem_map] at h
  obtain ⟨⟨q, hq, rfl⟩, hne⟩ := h
  have hn : trim q ≠ [] := by simpa using hne
  refine ⟨hn, trim_good q, ?_, Nat.le_trans (trim_le q) (cut_part_le q hq)⟩
  unfold listOf
  rw [cut_none fun b hb => cut_no q hq b (trim_sub hb), clean_one, trim_good, if_neg (by simpa using hn)]

theorem frame_eq (a : Act) (n : Nat) (h : a.tmps.size = n) (hd : a.defers = []) : a = { tmps := ((List.range n).map fun i => a.eval (.tmp i)).toArray, defers := [] } := by
  obtain ⟨t, d⟩ := a
  simp only at h hd
  subst hd
  congr 1
  apply Array.ext
  · simp [h]
  · intro i h1 h2
    simp [Act.eval, Array.getD, h1]
end Go.Proofs.YtgmooccjjpipjaaDoor
