/-
  Letters of one size: ascii.shift and Lower as the program has them. Conditions: those that each theorem states.
-/
import Derived.Test.YtdmmkjioaiefdaaAscBase
import Derived.Lib.LazyBuf
namespace Go.Proofs.Ytdmmkjioaiefdaa
open Go.RowKit Go.Lib

/-- A number is added to the bytes from a to b. -/
def turn (a b k : Nat) (c : UInt8) : UInt8 := if a ≤ c.toNat ∧ c.toNat ≤ b then UInt8.ofNat (c.toNat + k) else c

/-- A row of bytes of the call's own: block g holds F 0 to F (n - 1), none of them frozen. -/
def Row (w : World) (g n : Nat) (F : Nat → UInt8) : Prop := ∀ j, j < n → w.cell? ⟨g, j, Option.none⟩ = some (.int .u8 ((F j).toNat : Int)) ∧ w.frozen? ⟨g, j, Option.none⟩ = false

theorem Row.set {w : World} {g n k : Nat} {F : Nat → UInt8} (h : Row w g n F) (hk : k < n) (y : UInt8) {u : Int} (hu : u = (y.toNat : Int)) : Row (w.setCell ⟨g, k, Option.none⟩ (.int .u8 u)) g n (fun j => if j = k then y else F j) := by
  intro j hj
  refine ⟨?_, by rw [World.frozen?_setCell]; exact (h j hj).2⟩
  by_cases e : j = k
  · subst e
    rw [World.cell?_setCell_same (u := .int .u8 ((F j).toNat : Int)) (h := (h j hj).1)]
    simp [hu]
  · rw [World.cell?_setCell_other (h := fun c => e (by injection c with _ c; exact c.symm))]
    simp only [if_neg e]
    exact (h j hj).1
theorem Row.congr {w : World} {g n : Nat} {F G : Nat → UInt8} (h : Row w g n F) (e : ∀ j, j < n → F j = G j) : Row w g n G := fun j hj => by
  rw [← e j hj]
  exact h j hj

/-- Of the bytes l the first k are turned. -/
def upTo (f : UInt8 → UInt8) (l : List UInt8) (k j : Nat) : UInt8 := if j < k then f (l[j]?.getD 0) else l[j]?.getD 0

theorem row_new (w : World) (s : ByteArray) (cap : Nat) (e lo hi : Nat) (hlo : s.size ≤ lo) (f : UInt8 → UInt8) : Row (w.alloc (.cells (bytesRow s cap) e (lo, hi))) w.heap.size s.size (upTo f s.data.toList 0) := by
  intro j hj
  constructor
  · rw [World.cell?_alloc_mark, bytesRow_at s cap j hj]
    simp [upTo, Array.getElem?_eq_getElem (show j < s.data.size from hj)]
  · rw [World.frozen?_alloc_mark, decide_eq_false (by omega)]
    rfl

theorem row_ge (s : ByteArray) (cap : Nat) : s.size ≤ (bytesRow s cap).size := by
  unfold bytesRow
  rw [Array.size_append, Array.size_map]
  exact Nat.le_add_right _ _

theorem upTo_step {f : UInt8 → UInt8} {l : List UInt8} {k : Nat} (j : Nat) : (if j = k then f (l[k]?.getD 0) else upTo f l k j) = upTo f l (k + 1) j := by
  unfold upTo
  by_cases e : j = k
  · subst e
    rw [if_pos rfl, if_pos (by omega)]
  · rw [if_neg e]
    by_cases h : j < k
    · rw [if_pos h, if_pos (by omega)]
    · rw [if_neg h, if_neg (by omega)]
theorem upTo_same {f : UInt8 → UInt8} {l : List UInt8} {k : Nat} (h : f (l[k]?.getD 0) = l[k]?.getD 0) (j : Nat) : upTo f l k j = upTo f l (k + 1) j := by
  rw [← upTo_step]
  by_cases e : j = k
  · subst e
    rw [if_pos rfl, h]
    unfold upTo
    rw [if_neg (by omega)]
  · rw [if_neg e]

theorem bytes_text (l : List UInt8) : strOfNums (l.map fun b => (b.toNat : Int)) = ⟨l.toArray⟩ := by
  unfold strOfNums
  congr 2
  rw [List.map_map]
  conv => rhs; rw [← List.map_id l]
  apply List.map_congr_left
  intro b _
  simp

theorem row_text {P : Program} {w : World} {g n c : Nat} {f : UInt8 → UInt8} {l : List UInt8} (hn : n = l.length) (h : Row w g n (upTo f l n)) (src dst e : TypeId)
    (hs : P.underlying src = some (.slice e)) (he : P.underlying e = some (.int .u8)) (hd : P.underlying dst = some .string) :
    (convert src dst (.slice (some ⟨g, 0, Option.none⟩) n c)).run P w = .ok (.string ⟨(l.map f).toArray⟩) w := by
  have := run_convert_bytes_arg (P := P) w src e hs he g 0 n c ((l.map f).map fun b => (b.toNat : Int)) (by simp [hn]) (fun i hi => by
    rw [Nat.zero_add, (h i hi).1]
    have hl : i < l.length := by omega
    simp [upTo, hi, hl]) dst hd
  rw [this, bytes_text]

set_option maxHeartbeats 2000000 in
set_option maxRecDepth 100000 in
theorem shift_any (s : ByteArray) (hs : s.size ≤ maxLen) (a b m : Nat) (w : World) : Calls Try.prog 21 #[.string s, .int .u8 a, .int .u8 b, .int .u8 m] w fun e w' =>
    e = .returned (.string ⟨(s.data.toList.map (turn a b m)).toArray⟩) ∧ Below w.heap.size w w' := by
  have hm : s.size ≤ 9223372036854775807 := by unfold maxLen at hs; exact hs
  have hconv := run_bytes_of_string (P := Try.prog) w 9 38 5 s Try.underlying9 Try.underlying38 Try.underlying5
  have hrow := row_new w s (grownCap w s.size 0 5) 5 (bytesRow s (grownCap w s.size 0 5)).size ((bytesRow s (grownCap w s.size 0 5)).size + 1) (row_ge s _) (turn a b m)
  generalize bytesRow s (grownCap w s.size 0 5) = C at hconv hrow
  generalize grownCap w s.size 0 5 = cap at hconv
  obtain ⟨r, hr⟩ : ∃ r : ByteArray, r = ⟨(s.data.toList.map (turn a b m)).toArray⟩ := ⟨_, rfl⟩
  rw [← hr]
  have hr' := Lib.hid hr
  have hrow' := Lib.hid hrow
  clear hr hrow
  go_enter Try.func21, Try.ntmps21
  go_wp2
  go_loopw [16] (fun i wr => ∃ k : Nat, k ≤ s.size ∧ i = .int .i64 k ∧ Below w.heap.size w wr ∧ Row wr w.heap.size s.size (upTo (turn a b m) s.data.toList k)) (fun i _ => s.size - (RowKit.intOf i).toNat)
  case atStart => exact ⟨0, Nat.zero_le _, rfl, ((Below.refl _ w).alloc (Nat.le_refl _) _).drew, hrow'.out⟩
  case round =>
    obtain ⟨k, hk, rfl, hb, hR0⟩ := hrel
    have hR := Lib.hid hR0
    by_cases hkn : k < s.size
    · have hc := (hR0 k hkn).1
      have hf := (hR0 k hkn).2
      have hx : upTo (turn a b m) s.data.toList k k = s.data.toList[k]?.getD 0 := by simp [upTo]
      rw [hx] at hc
      generalize hy : s.data.toList[k]?.getD 0 = y at hc
      have hy' := Lib.hid hy
      clear hR0 hx hy
      have hkeep : turn a b m y = y → Row wr w.heap.size s.size (upTo (turn a b m) s.data.toList (k + 1)) := fun h => hR.out.congr fun j _ => upTo_same (by rw [hy'.out]; exact h) j
      have hset : ∀ u : Int, u = ((turn a b m y).toNat : Int) → Row (wr.setCell ⟨w.heap.size, k, Option.none⟩ (.int .u8 u)) w.heap.size s.size (upTo (turn a b m) s.data.toList (k + 1)) := fun u hu =>
        (hR.out.set hkn (turn a b m y) hu).congr fun j _ => by rw [← hy'.out]; exact upTo_step j
      have hkeep' := Lib.hid hkeep
      have hset' := Lib.hid hset
      clear hkeep hset
      go_wp2
      · go_roundw
        case rel =>
          have h1 : a ≤ y.toNat := by assumption
          have h2 : y.toNat ≤ b := by assumption
          exact ⟨k + 1, by omega, by go_num, hb.setCell (Nat.le_refl _) _, hset'.out _ (by rw [turn, if_pos ⟨h1, h2⟩, UInt8.toNat_ofNat']; omega)⟩
        case measure => simp [RowKit.intOf]; omega
      · go_roundw
        case rel =>
          have h2 : ¬ y.toNat ≤ b := by assumption
          exact ⟨k + 1, by omega, by go_num, hb, hkeep'.out (by rw [turn, if_neg (by omega)])⟩
        case measure => simp [RowKit.intOf]; omega
      · go_roundw
        case rel =>
          have h2 : ¬ a ≤ y.toNat := by assumption
          exact ⟨k + 1, by omega, by go_num, hb, hkeep'.out (by rw [turn, if_neg (by omega)])⟩
        case measure => simp [RowKit.intOf]; omega
    · have e : k = s.size := by omega
      subst e
      have hback := row_text (P := Try.prog) (c := cap) (size_len s) hR0 38 9 5 Try.underlying38 Try.underlying5 Try.underlying9
      rw [← hr'.out] at hback
      clear hR0
      go_wp2
      go_ret
      exact ⟨rfl, hb⟩

theorem lower_any (s : ByteArray) (hs : s.size ≤ maxLen) (w : World) : Calls Try.prog 14 #[.string s] w fun e w' =>
    e = .returned (.string ⟨(s.data.toList.map (turn 65 90 32)).toArray⟩) ∧ Below w.heap.size w w' := by
  have h := shift_any s hs 65 90 32 w
  generalize (⟨(s.data.toList.map (turn 65 90 32)).toArray⟩ : ByteArray) = r at h ⊢
  go_enter Try.func14, Try.ntmps14
  go_wp2_with (go_at_call 21; refine h.mono ?_; rintro e w' ⟨rfl, hb⟩)
  go_ret
  exact ⟨rfl, hb⟩
end Go.Proofs.Ytdmmkjioaiefdaa
