/-
  What leb.Take returns for any bytes and offset: as the plain function 'take' of the mathematics says; memory is as it was. Condition: the slice reads as bytes.
-/
import Derived.Test.YtkjnpdnihfohoaaTake
namespace Go.Proofs.Ytkjnpdnihfohoaa
open Go.RowKit Leb

theorem ret3 {k1 k2 k3 : IntKind} {a b c a' b' c' : Int} (h1 : a = a') (h2 : b = b') (h3 : c = c') : Ending.returned (.tuple #[.int k1 a, .int k2 b, .int k3 c]) = .returned (.tuple #[.int k1 a', .int k2 b', .int k3 c']) := by rw [h1, h2, h3]

/-- The end of Take: the three results of the plain function. -/
def Took (w : World) (r : Nat × Int × Int) (e : Ending) (w' : World) : Prop := e = .returned (.tuple #[.int .u64 r.1, .int .i64 r.2.1, .int .i64 r.2.2]) ∧ w = w'

set_option maxRecDepth 100000 in
set_option maxHeartbeats 400000 in
theorem take_out (A : Option Addr) (n c : Nat) (l : List Int) (p : Int) (w : World) (hA : Holds w A n c l) (hp : p < 0 ∨ (n : Int) < p) :
    Calls Try.prog 31 #[.slice A n c, .int .i64 p] w (Took w (take l p)) := by
  have hlen := hA.len
  have e : take l p = (0, 0, 1) := by rw [take, if_pos (by rw [hlen]; exact hp)]
  rw [e]
  clear e hlen
  have h1 := hA.cap
  have h2 := hA.room
  unfold maxLen at h2
  rcases hp with hp | hp
  · go_enter Try.func31, Try.ntmps31
    go_wp2
    go_ret3
    exact ⟨rfl, rfl⟩
  · go_enter Try.func31, Try.ntmps31
    go_wp2
    go_ret3
    exact ⟨rfl, rfl⟩

set_option maxRecDepth 100000 in
set_option maxHeartbeats 400000 in
theorem take_in (b off : Nat) (n c : Nat) (l : List Int) (p : Nat) (w : World) (hA : Holds w (some ⟨b, off, Option.none⟩) n c l) (hp : p < n) :
    Calls Try.prog 31 #[.slice (some ⟨b, off, Option.none⟩) n c, .int .i64 p] w (Took w (take l p)) := by
  have h1 := hA.cap
  have h2 := hA.room
  unfold maxLen at h2
  have hR := hA.back (k := p) (by omega)
  have hbd := span_le (l.drop p)
  rw [hR.len] at hbd
  have hspan := span_any _ _ _ _ w hR
  obtain ⟨r, hr⟩ : ∃ r, r = take l p := ⟨_, rfl⟩
  rw [← hr]
  rw [take, if_neg (by rw [hA.len]; omega)] at hr
  simp only [Int.toNat_natCast] at hr
  rw [hR.len] at hr
  have hE : span (l.drop p) ≠ 0 → Leb.Ends ((l.drop p).take (span (l.drop p))) := ends_span hR.byt
  generalize l.drop p = q at *
  generalize span q = s at *
  have Hspan := Lib.hid hspan
  have Hr := Lib.hid hr
  have HE := Lib.hid hE
  clear hspan hr hE
  by_cases h0 : s = 0
  · subst h0
    by_cases h10 : n - p < 10
    · obtain rfl : r = (0, 0, 7) := by rw [Hr.out, if_pos ⟨rfl, h10⟩]
      clear Hr
      go_enter Try.func31, Try.ntmps31
      go_wp2_with fail
      refine Hspan.out.mono ?_
      rintro e w' ⟨rfl, rfl⟩
      go_wp2_with fail
      go_ret3
      exact ⟨rfl, rfl⟩
    · obtain rfl : r = (0, 0, 4) := by rw [Hr.out, if_neg (fun h => h10 h.2), if_pos (.inl rfl)]
      clear Hr
      go_enter Try.func31, Try.ntmps31
      go_wp2_with fail
      refine Hspan.out.mono ?_
      rintro e w' ⟨rfl, rfl⟩
      go_wp2_with fail
      go_ret3
      exact ⟨rfl, rfl⟩
  · have b0 : ((s : Int) == 0) = false := by rw [beq_eq_false_iff_ne]; omega
    have hF := hR.front (k := s) (by omega)
    have hun := Lib.hid (unique_any _ _ _ _ w hF (by omega))
    cases hu : uniq (q.take s) with
    | false =>
      obtain rfl : r = (0, 0, 4) := by rw [Hr.out, if_neg (fun h => h0 h.1), if_pos (.inr hu)]
      rw [hu] at hun
      clear Hr hu
      go_enter Try.func31, Try.ntmps31
      go_wp2_with fail
      refine Hspan.out.mono ?_
      rintro e w' ⟨rfl, rfl⟩
      go_wp2_with fail
      refine hun.out.mono ?_
      rintro e w' ⟨rfl, rfl⟩
      go_wp2_with fail
      go_ret3
      exact ⟨rfl, rfl⟩
    | true =>
      obtain rfl : r = (val (q.take s), (p : Int) + s, 0) := by
        rw [Hr.out, if_neg (fun h => h0 h.1), if_neg (fun h => h.elim (fun h => h0 h) (fun h => by rw [hu] at h; cases h))]
      have hval := Lib.hid (value_any _ _ _ _ w hF (by omega) (by omega) (val_lt (HE.out h0) (by rw [hF.len]; omega) ((uniq_iff _).1 hu).1))
      rw [hu] at hun
      clear Hr hu
      go_enter Try.func31, Try.ntmps31
      go_wp2_with fail
      refine Hspan.out.mono ?_
      rintro e w' ⟨rfl, rfl⟩
      go_wp2_with fail
      refine hun.out.mono ?_
      rintro e w' ⟨rfl, rfl⟩
      go_wp2_with fail
      refine hval.out.mono ?_
      rintro e w' ⟨rfl, rfl⟩
      go_wp2_with fail
      go_ret3
      exact ⟨rfl, rfl⟩

set_option maxRecDepth 100000 in
set_option maxHeartbeats 400000 in
theorem take_end (A : Option Addr) (n c : Nat) (l : List Int) (w : World) (hA : Holds w A n c l) :
    Calls Try.prog 31 #[.slice A n c, .int .i64 n] w (Took w (take l n)) := by
  have h1 := hA.cap
  have h2 := hA.room
  have e : take l n = (0, 0, 7) := by
    have hl := hA.len
    rw [take, if_neg (by rw [hl]; omega)]
    have e1 : l.drop ((n : Int)).toNat = [] := by rw [Int.toNat_natCast]; exact List.drop_eq_nil_of_le (by omega)
    rw [e1, if_pos ⟨rfl, by simp⟩]
  rw [e]
  clear e
  have hsp : ∀ (B : Option Addr) (k : Nat), k ≤ maxLen → (B = Option.none → k = 0) → Calls Try.prog 34 #[.slice B 0 k] w fun e w' => e = .returned (.int .i64 0) ∧ w = w' :=
    fun B k h3 h4 => span_any B 0 k [] w (holds_empty w B k h3 h4)
  have H := Lib.hid hsp
  clear hsp
  have hroom := Lib.hid h2
  unfold maxLen at h2
  by_cases hc : n = c
  · subst hc
    go_enter Try.func31, Try.ntmps31
    go_wp2_with fail
    refine (H.out _ _ (by simp [maxLen]) (fun _ => rfl)).mono ?_
    rintro e w' ⟨rfl, rfl⟩
    go_wp2_with fail
    go_ret3
    exact ⟨rfl, rfl⟩
  · cases A with
    | none => exact absurd (hA.bare rfl) (by omega)
    | some a =>
      go_enter Try.func31, Try.ntmps31
      go_wp2_with fail
      refine (H.out _ _ (by have := hroom.out; omega) (fun h => by cases h)).mono ?_
      rintro e w' ⟨rfl, rfl⟩
      go_wp2_with fail
      go_ret3
      exact ⟨rfl, rfl⟩

/-- Take, for any bytes and any offset. -/
theorem take_any (A : Option Addr) (n c : Nat) (l : List Int) (p : Int) (w : World) (hA : Holds w A n c l) :
    Calls Try.prog 31 #[.slice A n c, .int .i64 p] w (Took w (take l p)) := by
  by_cases h : p < 0 ∨ (n : Int) < p
  · exact take_out A n c l p w hA h
  · obtain ⟨k, rfl⟩ : ∃ k : Nat, p = k := ⟨p.toNat, by omega⟩
    by_cases hk : k = n
    · subst hk
      exact take_end A k c l w hA
    · have hlt : k < n := by omega
      obtain ⟨b, off, rfl, _⟩ := hA.cell (by omega)
      exact take_in b off n c l k w hA hlt

theorem take_is {A : Option Addr} {n c : Nat} {l : List Int} {p : Int} {w : World} (hA : Holds w A n c l) {a : Nat} {b d : Int} (h : take l p = (a, b, d)) :
    Calls Try.prog 31 #[.slice A n c, .int .i64 p] w fun e w' => e = .returned (.tuple #[.int .u64 a, .int .i64 b, .int .i64 d]) ∧ w = w' := by
  have := take_any A n c l p w hA
  rw [h] at this
  exact this
end Go.Proofs.Ytkjnpdnihfohoaa
