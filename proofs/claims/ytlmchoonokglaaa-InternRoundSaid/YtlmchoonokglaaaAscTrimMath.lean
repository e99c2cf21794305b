/-
  Plain facts on a text without the white at its ends. No program is spoken of; no condition beyond those that each theorem states.
-/
import Derived.Test.YtlmchoonokglaaaAscBase
import Derived.Lib.SlTrimSet
import Derived.Lib.IndexBytes
namespace Go.Proofs.Ytlmchoonokglaaa
open Go.RowKit Go.Lib

/-- A text without the white (32 and 9) at its ends. -/
def trim (l : List UInt8) : List UInt8 := Lib.trimS l [32, 9]
def white (b : UInt8) : Bool := [32, 9].contains b

theorem white_iff (b : UInt8) : white b = true ↔ (b.toNat : Int) = 32 ∨ (b.toNat : Int) = 9 := by
  have h : ∀ b : Fin 256, white (UInt8.ofNat b.val) = true ↔ ((b.val : Int) = 32 ∨ (b.val : Int) = 9) := by decide +kernel
  have := h ⟨b.toNat, byte_lt b⟩
  simpa using this

def rtrim (l : List UInt8) : List UInt8 := (l.reverse.dropWhile white).reverse
theorem trim_eq (l : List UInt8) : trim l = (rtrim l).dropWhile white := rfl

theorem rtrim_last {l : List UInt8} {b : UInt8} (h : white b = true) : rtrim (l ++ [b]) = rtrim l := by
  unfold rtrim
  rw [List.reverse_append]
  simp [h]
theorem rtrim_keep {l : List UInt8} {b : UInt8} (h : white b = false) : rtrim (l ++ [b]) = l ++ [b] := by
  unfold rtrim
  rw [List.reverse_append]
  simp [h]
theorem rtrim_first (l : List UInt8) (b : UInt8) (h : white b = true) : rtrim (b :: l) = if (rtrim l).isEmpty then [] else b :: rtrim l := by
  unfold rtrim
  rw [List.reverse_cons, List.dropWhile_append]
  by_cases e : (l.reverse.dropWhile white).isEmpty = true
  · rw [if_pos e]
    simp only [List.isEmpty_iff] at e
    rw [e]
    simp [List.dropWhile, h]
  · rw [if_neg e, List.reverse_append]
    simp only [List.isEmpty_iff] at e
    simp [e]

theorem trim_first {l : List UInt8} {b : UInt8} (h : white b = true) : trim (b :: l) = trim l := by
  rw [trim_eq, trim_eq, rtrim_first l b h]
  by_cases e : (rtrim l).isEmpty = true
  · rw [if_pos e]
    simp only [List.isEmpty_iff] at e
    rw [e]
  · rw [if_neg e]
    simp [List.dropWhile, h]
theorem trim_last {l : List UInt8} {b : UInt8} (h : white b = true) : trim (l ++ [b]) = trim l := by rw [trim_eq, trim_eq, rtrim_last h]

theorem drop_first {l : List UInt8} (h : 0 < l.length) : l = l[0] :: l.drop 1 := by
  cases l with
  | nil => simp at h
  | cons a r => rfl
theorem take_last {l : List UInt8} (h : 0 < l.length) : l = l.take (l.length - 1) ++ [l[l.length - 1]'(by omega)] := by
  have h1 : (l.take (l.length - 1 + 1)) = l := by rw [show l.length - 1 + 1 = l.length by omega, List.take_length]
  conv => lhs; rw [← h1, List.take_add_one, List.getElem?_eq_getElem (show l.length - 1 < l.length by omega)]
  rfl

/-- The first byte is not white. -/
def Lead (l : List UInt8) : Prop := ∀ h : 0 < l.length, white l[0] = false

theorem trim_lead {l : List UInt8} (h : Lead l) (hl : ∀ h : 0 < l.length, white (l[l.length - 1]'(by omega)) = false) : trim l = l := by
  by_cases h0 : 0 < l.length
  · have e := take_last h0
    have hr : rtrim l = l := by
      conv => lhs; rw [e]
      rw [rtrim_keep (hl h0)]
      exact e.symm
    rw [trim_eq, hr]
    have hh := h h0
    cases l with
    | nil => rfl
    | cons a r => simp at hh; simp [List.dropWhile, hh]
  · have : l = [] := List.eq_nil_of_length_eq_zero (by omega)
    subst this
    rfl
theorem Lead.cut {l : List UInt8} (h : Lead l) (k : Nat) : Lead (l.take k) := fun hk => by
  rw [List.length_take] at hk
  rw [List.getElem_take]
  exact h (by omega)

theorem trim_le (l : List UInt8) : (trim l).length ≤ l.length := by
  rw [trim_eq]
  refine Nat.le_trans (List.dropWhile_sublist _).length_le ?_
  unfold rtrim
  rw [List.length_reverse]
  exact Nat.le_trans (List.dropWhile_sublist _).length_le (by simp)

theorem ret_string {a b : ByteArray} (h : a = b) : Ending.returned (.string a) = .returned (.string b) := by rw [h]

/-- How many bytes a value has that is a text. -/
def lenOf (v : Value) : Nat := match v with | .string t => t.size | _ => 0

theorem cut_first {t : ByteArray} (h : 0 < t.size) (hw : white t[0] = true) : trim (t.extract 1 t.size).data.toList = trim t.data.toList ∧ (t.extract 1 t.size).size = t.size - 1 := by
  have h' : 0 < t.data.toList.length := by rw [← size_len]; exact h
  constructor
  · rw [Lib.extract_to_end]
    conv => rhs; rw [drop_first h']
    rw [trim_first (by exact hw)]
  · rw [size_len, Lib.extract_to_end, List.length_drop, size_len]
theorem cut_last {t : ByteArray} (h : 0 < t.size) (hw : white (t[t.size - 1]'(by omega)) = true) : trim (t.extract 0 (t.size - 1)).data.toList = trim t.data.toList ∧ (t.extract 0 (t.size - 1)).size = t.size - 1 ∧ (t.extract 0 (t.size - 1)).data.toList = t.data.toList.take (t.size - 1) := by
  have h' : 0 < t.data.toList.length := by rw [← size_len]; exact h
  have e : (t.extract 0 (t.size - 1)).data.toList = t.data.toList.take (t.size - 1) := by rw [Lib.extract_data]; simp
  refine ⟨?_, ?_, e⟩
  · rw [e]
    conv => rhs; rw [take_last h']
    have hw' : white (t.data.toList[t.data.toList.length - 1]'(by omega)) = true := by
      have := byte_at t (t.size - 1) (by omega)
      rw [this] at hw
      simpa only [size_len] using hw
    rw [trim_last hw', size_len]
  · rw [size_len, e, List.length_take, ← size_len]
    omega

theorem text_kept {u : ByteArray} (hL : Lead u.data.toList) (h0 : 0 < u.size) (hw : ¬ white (u[u.size - 1]'(by omega)) = true) : trim u.data.toList = u.data.toList := by
  refine trim_lead hL fun _ => ?_
  rw [byte_at u (u.size - 1) (by omega)] at hw
  simpa only [size_len, Bool.not_eq_true] using hw
end Go.Proofs.Ytlmchoonokglaaa
