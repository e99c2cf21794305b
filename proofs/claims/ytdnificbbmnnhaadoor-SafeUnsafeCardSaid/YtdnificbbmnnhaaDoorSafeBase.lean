/-
  A text among others; methods as the program and as the reference have them. Conditions: those that each theorem states.
-/
import Derived.Test.YtdnificbbmnnhaaDoorHeadMem
import Derived.Test.YtdnificbbmnnhaaDoorAscUpper
import Derived.Test.YtdnificbbmnnhaaDoorAscRefUpper
namespace Go.Proofs.YtdnificbbmnnhaaDoor
open Go.RowKit Go.Lib Go.Shelf

/-- A text's bytes with great letters. -/
def hi (s : ByteArray) : List UInt8 := s.data.toList.map (turn 97 122 224)

/-- Is a text one of some? -/
def isIn (x : ByteArray) (zs : List ByteArray) : Bool := zs.any fun z => x.data.toList == z.data.toList
theorem isIn_iff {x : ByteArray} {zs : List ByteArray} : isIn x zs = true ↔ x ∈ zs := by
  unfold isIn
  rw [List.any_eq_true]
  constructor
  · rintro ⟨z, hz, e⟩
    rw [beq_iff_eq] at e
    have : x = z := by rw [← mk_of x, ← mk_of z, e]
    rw [this]
    exact hz
  · intro h
    exact ⟨x, h, by simp⟩
theorem isIn_same (x : ByteArray) {a b : List ByteArray} (h : ∀ z ∈ a, z ∈ b) (h' : ∀ z ∈ b, z ∈ a) : isIn x a = isIn x b := by
  rw [Bool.eq_iff_iff, isIn_iff, isIn_iff]
  exact ⟨h x, h' x⟩
theorem isIn_hit {x : ByteArray} {l : List UInt8} {zs : List ByteArray} (h : (x.toList == l) = true) (hz : mk l ∈ zs) : isIn x zs = true := by
  rw [isIn_iff]
  rw [beq_iff_eq, ByteArray.toList_eq] at h
  have : x = mk l := by rw [← mk_of x, h]
  rw [this]
  exact hz
theorem isIn_miss {x : ByteArray} {zs : List ByteArray} (h : ∀ z ∈ zs, (x.toList == z.data.toList) = false) : isIn x zs = false := by
  unfold isIn
  rw [List.any_eq_false]
  intro z hz
  rw [← ByteArray.toList_eq, h z hz]
  exact Bool.false_ne_true

def usual : List ByteArray := [⟨#[68, 69, 76, 69, 84, 69]⟩, ⟨#[71, 69, 84]⟩, ⟨#[72, 69, 65, 68]⟩, ⟨#[79, 80, 84, 73, 79, 78, 83]⟩, ⟨#[80, 79, 83, 84]⟩, ⟨#[80, 85, 84]⟩]
def methodOf (s : ByteArray) : ByteArray := if isIn (mk (hi s)) usual then mk (hi s) else s

set_option maxRecDepth 100000 in
theorem method_any (s : ByteArray) (hs : s.size ≤ maxLen) (w : World) : Calls Tryd.prog 7 #[.string s] w fun e w' => e = .returned (.string (methodOf s)) ∧ Below w.heap.size w w' := by
  have hup := upper_any s hs w
  rw [show (⟨(s.data.toList.map (turn 97 122 224)).toArray⟩ : ByteArray) = mk (hi s) from rfl] at hup
  have hm : Hid (methodOf s = if isIn (mk (hi s)) usual then mk (hi s) else s) := Lib.hid rfl
  generalize methodOf s = r at hm ⊢
  generalize mk (hi s) = u at hup hm
  go_enter Tryd.func7, Tryd.ntmps7
  go_wp2_with (go_at_call 20; refine hup.mono ?_; rintro e w' ⟨rfl, hb⟩)
  all_goals go_ret
  all_goals first
    | (rename_i p q; exact absurd (p.symm.trans q) Bool.noConfusion)
    | (rename_i p q
       have hy : isIn u usual = true := isIn_hit q (by simp [usual, mk])
       refine ⟨ret_string ?_, hb⟩
       rw [hm.out, if_pos hy]; done)
    | (refine ⟨ret_string ?_, hb⟩
       have hn : isIn u usual = false := isIn_miss (by simp [usual]; simp_all)
       rw [hm.out, hn]
       rfl)

def banned : List ByteArray := [⟨#[67, 79, 78, 78, 69, 67, 84]⟩, ⟨#[84, 82, 65, 67, 69]⟩, ⟨#[84, 82, 65, 67, 75]⟩]
def simple : List ByteArray := [⟨#[71, 69, 84]⟩, ⟨#[72, 69, 65, 68]⟩, ⟨#[80, 79, 83, 84]⟩]

set_option maxRecDepth 100000 in
theorem bad_any (s : ByteArray) (hs : s.size ≤ maxLen) (w : World) : Calls Tryd.prog 9 #[.string s] w fun e w' => e = .returned (.bool (isIn (mk (hi s)) banned)) ∧ Below w.heap.size w w' := by
  have hup := upper_any s hs w
  rw [show (⟨(s.data.toList.map (turn 97 122 224)).toArray⟩ : ByteArray) = mk (hi s) from rfl] at hup
  generalize mk (hi s) = u at hup ⊢
  obtain ⟨r, hr⟩ : ∃ r, r = isIn u banned := ⟨_, rfl⟩
  rw [← hr]
  have hm := Lib.hid hr
  clear hr
  go_enter Tryd.func9, Tryd.ntmps9
  go_wp2_with (go_at_call 20; refine hup.mono ?_; rintro e w' ⟨rfl, hb⟩)
  all_goals go_ret
  all_goals first
    | (rename_i p q; exact absurd (p.symm.trans q) Bool.noConfusion)
    | (rename_i p q
       have hy : isIn u banned = true := isIn_hit q (by simp [banned, mk])
       refine ⟨ret_bool ?_, hb⟩
       rw [hm.out, hy]; done)
    | (refine ⟨ret_bool ?_, hb⟩
       have hn : isIn u banned = false := isIn_miss (by simp [banned]; simp_all)
       rw [hm.out, hn])

set_option maxRecDepth 100000 in
theorem simple_any (u : ByteArray) (w : World) : Calls Tryd.prog 11 #[.string u] w fun e w' => e = .returned (.bool (isIn u simple)) ∧ w' = w := by
  obtain ⟨r, hr⟩ : ∃ r, r = isIn u simple := ⟨_, rfl⟩
  rw [← hr]
  have hm := Lib.hid hr
  clear hr
  go_enter Tryd.func11, Tryd.ntmps11
  go_wp2
  all_goals go_ret
  all_goals first
    | (rename_i p q; exact absurd (p.symm.trans q) Bool.noConfusion)
    | (rename_i p q
       have hy : isIn u simple = true := isIn_hit q (by simp [simple, mk])
       refine ⟨ret_bool ?_, rfl⟩
       rw [hm.out, hy]; done)
    | (refine ⟨ret_bool ?_, rfl⟩
       have hn : isIn u simple = false := isIn_miss (by simp [simple]; simp_all)
       rw [hm.out, hn])

theorem isIn_step {x : ByteArray} {zs : List ByteArray} {k : Nat} (hk : k < zs.length) : isIn x (zs.take (k + 1)) = (isIn x (zs.take k) || (zs[k].toList == x.toList)) := by
  unfold isIn
  rw [take_snoc hk, List.any_append, ByteArray.toList_eq, ByteArray.toList_eq]
  congr 1
  simp only [List.any_cons, List.any_nil, Bool.or_false]
  exact Bool.beq_comm
theorem isIn_at {x : ByteArray} {zs : List ByteArray} {k : Nat} (hk : k < zs.length) (h : (zs[k].toList == x.toList) = true) : isIn x zs = true := by
  rw [isIn_iff]
  rw [beq_iff_eq, ByteArray.toList_eq, ByteArray.toList_eq] at h
  have : x = zs[k] := by rw [← mk_of x, ← h, mk_of]
  rw [this]
  exact List.getElem_mem hk

set_option maxHeartbeats 2000000 in
set_option maxRecDepth 100000 in
theorem among_any (A : Option Addr) (n c : Nat) (zs : List ByteArray) (x : ByteArray) (w : World) (h : Strs w A n c zs) :
    Calls Tryd.prog 22 #[.string x, .slice A n c] w fun e w' => e = .returned (.bool (isIn x zs)) ∧ w' = w := by
  have hn : n ≤ 9223372036854775807 := by have h1 := h.cap; have h2 := h.room; unfold maxLen at h2; omega
  have hl := Lib.hid h.len
  have hH := Lib.hid h
  clear h
  go_enter Tryd.func22, Tryd.ntmps22
  go_wp2
  go_loop [5] (fun i => ∃ k : Nat, k ≤ n ∧ i = .int .i64 k ∧ isIn x (zs.take k) = false) (fun i => n - (RowKit.intOf i).toNat)
  case atStart => exact ⟨0, Nat.zero_le _, rfl, rfl⟩
  case round =>
    obtain ⟨k, hk, rfl, hno0⟩ := hrel
    have hno := Lib.hid hno0
    clear hno0
    by_cases hlt : k < n
    · have hkl : k < zs.length := by rw [hl.out]; exact hlt
      obtain ⟨b, off, rfl, _, hc⟩ := hH.out.cell (by omega)
      have h1 := hc k hkl
      have hst := Lib.hid (isIn_step (x := x) hkl)
      have hat := Lib.hid (isIn_at (x := x) hkl)
      clear hc
      generalize zs[k] = z at h1 hst hat
      cases hq : (z.toList == x.toList) with
      | true =>
        have hf := Lib.hid (hat.out hq)
        go_wp2
        go_ret
        exact ⟨ret_bool hf.out.symm, rfl⟩
      | false =>
        have hf : Hid (isIn x (zs.take (k + 1)) = false) := Lib.hid (by rw [hst.out, hno.out, hq]; rfl)
        clear hst hat
        go_wp2
        go_round
        case rel => exact ⟨k + 1, by omega, by go_num, hf.out⟩
        case measure => simp [RowKit.intOf]; omega
    · have ek : k = n := by omega
      subst ek
      have hf := Lib.hid (show isIn x zs = false by
        have h1 := hno.out
        rw [← hl.out, List.take_length] at h1
        exact h1)
      go_wp2
      go_ret
      exact ⟨ret_bool hf.out.symm, rfl⟩

/-- The same of a new list. -/
theorem among_new (zs : List ByteArray) (n : Nat) (hn : n = zs.length) (hm : zs.length ≤ 1000) (x : ByteArray) (w : World) (cs : Array Value) (hcs : cs = (zs.map Value.string).toArray) (g : Nat) (hg : g = w.heap.size) :
    Calls Tryd.prog 22 #[.string x, .slice (some ⟨g, 0, Option.none⟩) n n] (w.alloc (.cells cs 9)) fun e w' => e = .returned (.bool (isIn x zs)) ∧ w' = w.alloc (.cells cs 9) := by
  subst hn
  subst hg
  exact among_any _ _ _ zs x _ (strs_new w cs zs hcs (tiny hm))

def usualR : List ByteArray := [⟨#[80, 85, 84]⟩, ⟨#[80, 79, 83, 84]⟩, ⟨#[79, 80, 84, 73, 79, 78, 83]⟩, ⟨#[72, 69, 65, 68]⟩, ⟨#[71, 69, 84]⟩, ⟨#[68, 69, 76, 69, 84, 69]⟩]
def bannedR : List ByteArray := [⟨#[84, 82, 65, 67, 75]⟩, ⟨#[84, 82, 65, 67, 69]⟩, ⟨#[67, 79, 78, 78, 69, 67, 84]⟩]
def simpleR : List ByteArray := [⟨#[80, 79, 83, 84]⟩, ⟨#[72, 69, 65, 68]⟩, ⟨#[71, 69, 84]⟩]
theorem usual_same (x : ByteArray) : isIn x usualR = isIn x usual := isIn_same x (by simp [usual, usualR]) (by simp [usual, usualR])
theorem banned_same (x : ByteArray) : isIn x bannedR = isIn x banned := isIn_same x (by simp [banned, bannedR]) (by simp [banned, bannedR])
theorem simple_same (x : ByteArray) : isIn x simpleR = isIn x simple := isIn_same x (by simp [simple, simpleR]) (by simp [simple, simpleR])

set_option maxRecDepth 100000 in
theorem refMethod_any (s : ByteArray) (hs : s.size ≤ 140737488351232) (w : World) : Calls Tryd.prog 8 #[.string s] w fun e w' => e = .returned (.string (methodOf s)) ∧ Below w.heap.size w w' := by
  have hup := refUpper_any s hs w
  rw [show (⟨(s.data.toList.map (turn 97 122 224)).toArray⟩ : ByteArray) = mk (hi s) from rfl] at hup
  have hm : Hid (methodOf s = if isIn (mk (hi s)) usual then mk (hi s) else s) := Lib.hid rfl
  generalize methodOf s = r at hm ⊢
  generalize mk (hi s) = u at hup hm
  have hin := Lib.hid (fun W cs hcs g hg => usual_same u ▸ among_new usualR 6 rfl (by decide) u W cs hcs g hg)
  generalize isIn u usual = b at hm hin
  cases b with
  | true =>
    have hr := Lib.hid (show r = u by rw [hm.out]; rfl)
    clear hm
    go_enter Tryd.func8, Tryd.ntmps8
    go_wp2_with (first
      | (go_at_call 21; refine hup.mono ?_; rintro e w' ⟨rfl, hb⟩)
      | (go_at_call 22; refine (hin.out _ _ rfl _ rfl).mono ?_; rintro e w2 ⟨rfl, hw⟩; subst hw))
    go_ret
    exact ⟨ret_string hr.out.symm, below_then hb (below_box _ _)⟩
  | false =>
    have hr := Lib.hid (show r = s by rw [hm.out]; rfl)
    clear hm
    go_enter Tryd.func8, Tryd.ntmps8
    go_wp2_with (first
      | (go_at_call 21; refine hup.mono ?_; rintro e w' ⟨rfl, hb⟩)
      | (go_at_call 22; refine (hin.out _ _ rfl _ rfl).mono ?_; rintro e w2 ⟨rfl, hw⟩; subst hw))
    go_ret
    exact ⟨ret_string hr.out.symm, below_then hb (below_box _ _)⟩

set_option maxRecDepth 100000 in
theorem refBad_any (s : ByteArray) (hs : s.size ≤ 140737488351232) (w : World) : Calls Tryd.prog 10 #[.string s] w fun e w' => e = .returned (.bool (isIn (mk (hi s)) banned)) ∧ Below w.heap.size w w' := by
  have hup := refUpper_any s hs w
  rw [show (⟨(s.data.toList.map (turn 97 122 224)).toArray⟩ : ByteArray) = mk (hi s) from rfl] at hup
  generalize mk (hi s) = u at hup ⊢
  have hin := Lib.hid (fun W cs hcs g hg => banned_same u ▸ among_new bannedR 3 rfl (by decide) u W cs hcs g hg)
  generalize isIn u banned = b at hin ⊢
  go_enter Tryd.func10, Tryd.ntmps10
  go_wp2_with (first
    | (go_at_call 21; refine hup.mono ?_; rintro e w' ⟨rfl, hb⟩)
    | (go_at_call 22; refine (hin.out _ _ rfl _ rfl).mono ?_; rintro e w2 ⟨rfl, hw⟩; subst hw))
  go_ret
  exact ⟨rfl, below_then hb (below_box _ _)⟩

set_option maxRecDepth 100000 in
theorem refSimple_any (u : ByteArray) (w : World) : Calls Tryd.prog 12 #[.string u] w fun e w' => e = .returned (.bool (isIn u simple)) ∧ Below w.heap.size w w' := by
  have hin := Lib.hid (fun W cs hcs g hg => simple_same u ▸ among_new simpleR 3 rfl (by decide) u W cs hcs g hg)
  generalize isIn u simple = b at hin ⊢
  go_enter Tryd.func12, Tryd.ntmps12
  go_wp2_with (go_at_call 22; refine (hin.out _ _ rfl _ rfl).mono ?_; rintro e w2 ⟨rfl, hw⟩; subst hw)
  go_ret
  exact ⟨rfl, below_box _ _⟩
end Go.Proofs.YtdnificbbmnnhaaDoor
