/-
  Texts of one sort, one behind the other: numbers, memory, regions, strings, headers. Conditions: those that each theorem states.
-/
import Derived.Test.YtodncamohimmmaaLow2
import Derived.Lib.VarintBits
import Derived.Deep.QuietTactic
import Derived.BigQuiet
import Derived.Test.YtodncamohimmmaaLow9
import Derived.Test.YtodncamohimmmaaLow8

namespace Go.Proofs.Ytodncamohimmmaa
open Go.RowKit Leb

set_option maxRecDepth 100000 in
set_option maxHeartbeats 400000 in
theorem span_any (A : Option Addr) (n c : Nat) (l : List Int) (w : World) (hA : Holds w A n c l) :
    Calls Try.prog 58 #[.slice A n c] w fun e w' => e = .returned (.int .i64 (span l)) ∧ w = w' := by
  have h1 := hA.cap
  have h2 := hA.room
  unfold maxLen at h2
  have HB := Lib.hid hA.byt
  have hlen := hA.len
  have Hlen := Lib.hid hlen
  clear hlen
  by_cases h0 : n = 0
  · subst h0
    have hl : l = [] := List.eq_nil_of_length_eq_zero Hlen.out
    subst hl
    clear Hlen HB
    go_enter Try.func58, Try.ntmps58
    go_wp2
    refine wp_loop_rounds 1 ?_
    rw [rounds_succ]
    go_wp2
    go_ret
    exact ⟨rfl, rfl⟩
  · obtain ⟨b, off, rfl, hc⟩ := hA.cell (by omega)
    have HC := Lib.hid hc
    clear hc
    have key : ∀ M : Nat, M ≤ n → M ≤ 10 → (M = n ∨ M = 10) → ∀ k : Nat, k ≤ M → (∀ j, j < k → 128 ≤ l[j]?.getD 0) → ¬ k < M → span l = 0 := by
      intro M hM hM10 hor k hk hall hge
      refine span_none fun j hj hj10 => hall j ?_
      have := Hlen.out
      omega
    have Hkey := Lib.hid key
    clear key
    by_cases h10 : n ≤ 10
    · go_enter Try.func58, Try.ntmps58
      go_wp2
      go_loop [11] (fun i => ∃ k : Nat, k ≤ n ∧ i = .int .i64 k ∧ Hid (∀ j, j < k → 128 ≤ l[j]?.getD 0)) (fun i => n - (intOf i).toNat)
      case atStart => exact ⟨0, Nat.zero_le _, rfl, fun j hj => absurd hj (by omega)⟩
      case round =>
        obtain ⟨k, hk, rfl, hall⟩ := hrel
        by_cases hlt : k < n
        · have hcell := HC.out k hlt
          by_cases hx : l[k]?.getD 0 < 128
          · go_wp2
            go_ret
            exact ⟨ret_int (by rw [span_hit (by have := Hlen.out; omega) (by omega) hall.out hx]; simp), rfl⟩
          · go_wp2
            go_round
            case rel => exact ⟨k + 1, by omega, by go_num, fun j hj => by
              rcases Nat.lt_or_ge j k with h | h
              · exact hall.out j h
              · obtain rfl : j = k := by omega
                omega⟩
            case measure => simp [intOf]; omega
        · go_wp2
          go_ret
          exact ⟨ret_int (by rw [Hkey.out n (by omega) (by omega) (.inl rfl) k hk hall.out hlt]; rfl), rfl⟩
    · go_enter Try.func58, Try.ntmps58
      go_wp2
      go_loop [11] (fun i => ∃ k : Nat, k ≤ 10 ∧ i = .int .i64 k ∧ Hid (∀ j, j < k → 128 ≤ l[j]?.getD 0)) (fun i => 10 - (intOf i).toNat)
      case atStart => exact ⟨0, Nat.zero_le _, rfl, fun j hj => absurd hj (by omega)⟩
      case round =>
        obtain ⟨k, hk, rfl, hall⟩ := hrel
        by_cases hlt : k < 10
        · have hcell := HC.out k (by omega)
          by_cases hx : l[k]?.getD 0 < 128
          · go_wp2
            go_ret
            exact ⟨ret_int (by rw [span_hit (by have := Hlen.out; omega) (by omega) hall.out hx]; simp), rfl⟩
          · go_wp2
            go_round
            case rel => exact ⟨k + 1, by omega, by go_num, fun j hj => by
              rcases Nat.lt_or_ge j k with h | h
              · exact hall.out j h
              · obtain rfl : j = k := by omega
                omega⟩
            case measure => simp [intOf]; omega
        · go_wp2
          go_ret
          exact ⟨ret_int (by rw [Hkey.out 10 (by omega) (by omega) (.inr rfl) k hk hall.out hlt]; rfl), rfl⟩

set_option maxRecDepth 100000 in
set_option maxHeartbeats 400000 in
theorem unique_any (A : Option Addr) (n c : Nat) (l : List Int) (w : World) (hA : Holds w A n c l) (hn : 0 < n) :
    Calls Try.prog 59 #[.slice A n c] w fun e w' => e = .returned (.bool (uniq l)) ∧ w = w' := by
  have h1 := hA.cap
  have h2 := hA.room
  unfold maxLen at h2
  obtain ⟨b, off, rfl, hc⟩ := hA.cell hn
  have hlast : last l = l[n - 1]?.getD 0 := by rw [last, List.getLast?_eq_getElem?, hA.len]
  have hcell := hc (n - 1) (by omega)
  rw [← hlast] at hcell
  have hb := hA.byt.getD (n - 1)
  rw [← hlast] at hb
  have hfin := uniq_iff l
  rw [hA.len] at hfin
  generalize uniq l = u at hfin ⊢
  have Hf := Lib.hid hfin
  clear hfin hlast hc
  generalize last l = t at *
  by_cases h10 : n = 10
  · subst h10
    by_cases ht : 1 < t
    · obtain rfl : u = false := by
        cases u
        · rfl
        · have := (Hf.out.1 rfl).1 rfl
          omega
      go_enter Try.func59, Try.ntmps59
      go_wp2
      go_ret
      exact ⟨rfl, rfl⟩
    · by_cases h0 : t = 0
      · subst h0
        obtain rfl : u = false := by
          cases u
          · rfl
          · have := (Hf.out.1 rfl).2
            omega
        go_enter Try.func59, Try.ntmps59
        go_wp2
        go_ret
        exact ⟨rfl, rfl⟩
      · obtain rfl : t = 1 := by omega
        obtain rfl : u = true := Hf.out.2 ⟨fun _ => by omega, .inl (by omega)⟩
        go_enter Try.func59, Try.ntmps59
        go_wp2
        go_ret
        exact ⟨rfl, rfl⟩
  · have b10 : ((n : Int) == 10) = false := by rw [beq_eq_false_iff_ne]; omega
    by_cases h0 : t = 0
    · subst h0
      by_cases hn1 : n = 1
      · subst hn1
        obtain rfl : u = true := Hf.out.2 ⟨fun h => by omega, .inr rfl⟩
        simp only [Nat.sub_self, Nat.add_zero] at hcell
        go_enter Try.func59, Try.ntmps59
        go_wp2
        go_ret
        exact ⟨rfl, rfl⟩
      · have b1 : ((n : Int) == 1) = false := by rw [beq_eq_false_iff_ne]; omega
        obtain rfl : u = false := by
          cases u
          · rfl
          · have := (Hf.out.1 rfl).2
            omega
        go_enter Try.func59, Try.ntmps59
        go_wp2
        go_ret
        exact ⟨rfl, rfl⟩
    · have b0 : (t != 0) = true := by rw [bne_iff_ne]; exact h0
      obtain rfl : u = true := Hf.out.2 ⟨fun h => absurd h h10, .inl h0⟩
      go_enter Try.func59, Try.ntmps59
      go_wp2
      go_ret
      exact ⟨rfl, rfl⟩

theorem join7 {l : List Int} {k : Nat} (hv : U64 (val l)) (hk : k < l.length) (x : Int) (hx : x = l[k]?.getD 0 % 128) :
    bits .or .u64 (val (l.take k) : Int) (IntKind.u64.wrap (x * 2 ^ (7 * k))) = (val (l.take (k + 1)) : Int) := by
  have hs := val_snoc l k hk
  have hlow := val_take_lt k l
  have hle := Nat.lt_of_le_of_lt (val_take_le (k + 1) l) hv.out
  have hx0 : 0 ≤ x := by omega
  have e7 : (128 : Nat) ^ k = 2 ^ (7 * k) := by rw [Nat.pow_mul]
  rw [e7] at hs hlow
  obtain ⟨a, ha⟩ : ∃ a : Nat, x = (a : Int) := ⟨x.toNat, by omega⟩
  have ha' : (l[k]?.getD 0 % 128).toNat = a := by omega
  rw [ha'] at hs
  have hc : x * 2 ^ (7 * k) = ((a * 2 ^ (7 * k) : Nat) : Int) := by rw [ha]; simp
  rw [hc]
  have hb : a * 2 ^ (7 * k) < 18446744073709551616 := by omega
  rw [IntWalk.u64_in _ ⟨by omega, by omega⟩]
  have hj := bits_join_low .u64 64 (by decide) wraps_u64 (7 * k) (val (l.take k) : Int) ((a * 2 ^ (7 * k) : Nat) : Int) (by omega)
    (by have : ((val (l.take k) : Nat) : Int) < ((2 ^ (7 * k) : Nat) : Int) := by omega
        simpa using this) (by omega) (by omega) (by simp) (by omega)
  rw [hj, hs]
  simp

set_option maxRecDepth 100000 in
set_option maxHeartbeats 400000 in
theorem value_any (A : Option Addr) (n c : Nat) (l : List Int) (w : World) (hA : Holds w A n c l) (hn : 0 < n) (h10 : n ≤ 10) (hv : U64 (val l)) :
    Calls Try.prog 60 #[.slice A n c] w fun e w' => e = .returned (.int .u64 (val l)) ∧ w = w' := by
  have h1 := hA.cap
  have h2 := hA.room
  unfold maxLen at h2
  have HB := Lib.hid hA.byt
  have Hlen := Lib.hid hA.len
  obtain ⟨b, off, rfl, hc⟩ := hA.cell (by omega)
  have HC := Lib.hid hc
  clear hc
  go_enter Try.func60, Try.ntmps60
  go_wp2
  go_loop [3, 4, 9] (fun x s i => ∃ k : Nat, k ≤ n ∧ i = .int .i64 k ∧ s = .int .u64 ((7 * k : Nat) : Int) ∧ x = .int .u64 (val (l.take k))) (fun _ _ i => n - (intOf i).toNat)
  case atStart => exact ⟨0, Nat.zero_le _, rfl, rfl, rfl⟩
  case round =>
    obtain ⟨k, hk, rfl, rfl, rfl⟩ := hrel
    by_cases hlt : k < n
    · have hcell := HC.out k hlt
      have hby := HB.out.getD k
      have hmask := u8_and127 _ hby.1 (by omega)
      have hj := Lib.hid (join7 hv (show k < l.length by have := Hlen.out; omega) _ rfl)
      go_wp2
      go_round
      case rel => exact ⟨k + 1, by omega, by go_num, by go_num, by rw [hj.out]⟩
      case measure => simp [intOf]; omega
    · go_wp2
      go_ret
      exact ⟨ret_int (by rw [List.take_of_length_le (by have := Hlen.out; omega)]), rfl⟩
end Go.Proofs.Ytodncamohimmmaa

namespace Go.Proofs.Ytodncamohimmmaa
open Go.RowKit Leb

def Took (w : World) (r : Nat × Int × Int) (e : Ending) (w' : World) : Prop := e = .returned (.tuple #[.int .u64 r.1, .int .i64 r.2.1, .int .i64 r.2.2]) ∧ w = w'

set_option maxRecDepth 100000 in
set_option maxHeartbeats 400000 in
theorem take_out (A : Option Addr) (n c : Nat) (l : List Int) (p : Int) (w : World) (hA : Holds w A n c l) (hp : p < 0 ∨ (n : Int) < p) :
    Calls Try.prog 54 #[.slice A n c, .int .i64 p] w (Took w (take l p)) := by
  have hlen := hA.len
  have e : take l p = (0, 0, 1) := by rw [take, if_pos (by rw [hlen]; exact hp)]
  rw [e]
  clear e hlen
  have h1 := hA.cap
  have h2 := hA.room
  unfold maxLen at h2
  rcases hp with hp | hp
  · go_enter Try.func54, Try.ntmps54
    go_wp2
    go_ret3
    exact ⟨rfl, rfl⟩
  · go_enter Try.func54, Try.ntmps54
    go_wp2
    go_ret3
    exact ⟨rfl, rfl⟩

set_option maxRecDepth 100000 in
set_option maxHeartbeats 400000 in
theorem take_in (b off : Nat) (n c : Nat) (l : List Int) (p : Nat) (w : World) (hA : Holds w (some ⟨b, off, Option.none⟩) n c l) (hp : p < n) :
    Calls Try.prog 54 #[.slice (some ⟨b, off, Option.none⟩) n c, .int .i64 p] w (Took w (take l p)) := by
  have h1 := hA.cap
  have h2 := hA.room
  unfold maxLen at h2
  have hR := hA.back (k := p) (by omega)
  have hbd := span_le (l.drop p)
  rw [hR.len] at hbd
  have hspan := span_any _ _ _ _ w hR
  obtain ⟨r, hr⟩ : ∃ r, r = take l p := ⟨_, rfl⟩
  rw [← hr]
  rw [take, if_neg (by rw [hA.len]; omega)] at hr
  simp only [Int.toNat_natCast] at hr
  rw [hR.len] at hr
  have hE : span (l.drop p) ≠ 0 → Leb.Ends ((l.drop p).take (span (l.drop p))) := ends_span hR.byt
  generalize l.drop p = q at *
  generalize span q = s at *
  have Hspan := Lib.hid hspan
  have Hr := Lib.hid hr
  have HE := Lib.hid hE
  clear hspan hr hE
  by_cases h0 : s = 0
  · subst h0
    by_cases h10 : n - p < 10
    · obtain rfl : r = (0, 0, 7) := by rw [Hr.out, if_pos ⟨rfl, h10⟩]
      clear Hr
      go_enter Try.func54, Try.ntmps54
      go_wp2_with fail
      refine Hspan.out.mono ?_
      rintro e w' ⟨rfl, rfl⟩
      go_wp2_with fail
      go_ret3
      exact ⟨rfl, rfl⟩
    · obtain rfl : r = (0, 0, 4) := by rw [Hr.out, if_neg (fun h => h10 h.2), if_pos (.inl rfl)]
      clear Hr
      go_enter Try.func54, Try.ntmps54
      go_wp2_with fail
      refine Hspan.out.mono ?_
      rintro e w' ⟨rfl, rfl⟩
      go_wp2_with fail
      go_ret3
      exact ⟨rfl, rfl⟩
  · have b0 : ((s : Int) == 0) = false := by rw [beq_eq_false_iff_ne]; omega
    have hF := hR.front (k := s) (by omega)
    have hun := Lib.hid (unique_any _ _ _ _ w hF (by omega))
    cases hu : uniq (q.take s) with
    | false =>
      obtain rfl : r = (0, 0, 4) := by rw [Hr.out, if_neg (fun h => h0 h.1), if_pos (.inr hu)]
      rw [hu] at hun
      clear Hr hu
      go_enter Try.func54, Try.ntmps54
      go_wp2_with fail
      refine Hspan.out.mono ?_
      rintro e w' ⟨rfl, rfl⟩
      go_wp2_with fail
      refine hun.out.mono ?_
      rintro e w' ⟨rfl, rfl⟩
      go_wp2_with fail
      go_ret3
      exact ⟨rfl, rfl⟩
    | true =>
      obtain rfl : r = (val (q.take s), (p : Int) + s, 0) := by
        rw [Hr.out, if_neg (fun h => h0 h.1), if_neg (fun h => h.elim (fun h => h0 h) (fun h => by rw [hu] at h; cases h))]
      have hval := Lib.hid (value_any _ _ _ _ w hF (by omega) (by omega) (val_lt (HE.out h0) (by rw [hF.len]; omega) ((uniq_iff _).1 hu).1))
      rw [hu] at hun
      clear Hr hu
      go_enter Try.func54, Try.ntmps54
      go_wp2_with fail
      refine Hspan.out.mono ?_
      rintro e w' ⟨rfl, rfl⟩
      go_wp2_with fail
      refine hun.out.mono ?_
      rintro e w' ⟨rfl, rfl⟩
      go_wp2_with fail
      refine hval.out.mono ?_
      rintro e w' ⟨rfl, rfl⟩
      go_wp2_with fail
      go_ret3
      exact ⟨rfl, rfl⟩

set_option maxRecDepth 100000 in
set_option maxHeartbeats 400000 in
theorem take_end (A : Option Addr) (n c : Nat) (l : List Int) (w : World) (hA : Holds w A n c l) :
    Calls Try.prog 54 #[.slice A n c, .int .i64 n] w (Took w (take l n)) := by
  have h1 := hA.cap
  have h2 := hA.room
  have e : take l n = (0, 0, 7) := by
    have hl := hA.len
    rw [take, if_neg (by rw [hl]; omega)]
    have e1 : l.drop ((n : Int)).toNat = [] := by rw [Int.toNat_natCast]; exact List.drop_eq_nil_of_le (by omega)
    rw [e1, if_pos ⟨rfl, by simp⟩]
  rw [e]
  clear e
  have hsp : ∀ (B : Option Addr) (k : Nat), k ≤ maxLen → (B = Option.none → k = 0) → Calls Try.prog 58 #[.slice B 0 k] w fun e w' => e = .returned (.int .i64 0) ∧ w = w' :=
    fun B k h3 h4 => span_any B 0 k [] w (holds_empty w B k h3 h4)
  have H := Lib.hid hsp
  clear hsp
  have hroom := Lib.hid h2
  unfold maxLen at h2
  by_cases hc : n = c
  · subst hc
    go_enter Try.func54, Try.ntmps54
    go_wp2_with fail
    refine (H.out _ _ (by simp [maxLen]) (fun _ => rfl)).mono ?_
    rintro e w' ⟨rfl, rfl⟩
    go_wp2_with fail
    go_ret3
    exact ⟨rfl, rfl⟩
  · cases A with
    | none => exact absurd (hA.bare rfl) (by omega)
    | some a =>
      go_enter Try.func54, Try.ntmps54
      go_wp2_with fail
      refine (H.out _ _ (by have := hroom.out; omega) (fun h => by cases h)).mono ?_
      rintro e w' ⟨rfl, rfl⟩
      go_wp2_with fail
      go_ret3
      exact ⟨rfl, rfl⟩

theorem take_any (A : Option Addr) (n c : Nat) (l : List Int) (p : Int) (w : World) (hA : Holds w A n c l) :
    Calls Try.prog 54 #[.slice A n c, .int .i64 p] w (Took w (take l p)) := by
  by_cases h : p < 0 ∨ (n : Int) < p
  · exact take_out A n c l p w hA h
  · obtain ⟨k, rfl⟩ : ∃ k : Nat, p = k := ⟨p.toNat, by omega⟩
    by_cases hk : k = n
    · subst hk
      exact take_end A k c l w hA
    · have hlt : k < n := by omega
      obtain ⟨b, off, rfl, _⟩ := hA.cell (by omega)
      exact take_in b off n c l k w hA hlt

theorem take_is {A : Option Addr} {n c : Nat} {l : List Int} {p : Int} {w : World} (hA : Holds w A n c l) {a : Nat} {b d : Int} (h : take l p = (a, b, d)) :
    Calls Try.prog 54 #[.slice A n c, .int .i64 p] w fun e w' => e = .returned (.tuple #[.int .u64 a, .int .i64 b, .int .i64 d]) ∧ w = w' := by
  have := take_any A n c l p w hA
  rw [h] at this
  exact this
end Go.Proofs.Ytodncamohimmmaa

namespace Go.Proofs.Ytodncamohimmmaa
open Go.RowKit Go.Lib Go.Maps Go.WideMaps Leb

def PTook (w : World) (b : Nat) (o : Option Nat) (v : Value) (r : List UInt8 × Int × Int) (l' : List (List UInt8)) (en : Ending) (w' : World) : Prop :=
  ∃ o' u, en = .returned (.tuple #[.string (mk r.1), .int .i64 r.2.1, .int .i64 r.2.2]) ∧ PAdd w w' b o o' v u l'

section
variable (b : Nat) (o : Option Nat) (v : Value) (l : List (List UInt8)) (A : Option Addr) (n c : Nat) (X : List Int) (p : Int) (w : World)
set_option maxHeartbeats 4000000 in
set_option maxRecDepth 100000 in
theorem take_w1 {a : Nat} {q e : Int} (h : PT w b o v l) (hX : Holds w A n c X) (h1 : take X p = (a, q, e)) (he : e = 1 ∨ e = 4 ∨ e = 7) : Calls Try.prog 89 #[.pointer (some ⟨b, 0, Option.none⟩), .slice A n c, .int .i64 p] w (PTook w b o v ([], 0, e) l) := by
  rcases he with rfl | rfl | rfl
  · have hR := Lib.hid h
    have hk1' := Lib.hid (take_is (w := w) hX h1)
    clear h1
    have tok1 : True := trivial
    go_enter Try.func89, Try.ntmps89
    go_wp2_with (go_at_call 54; have _t := tok1; refine hk1'.out.mono ?_; rintro e9 w9 ⟨rfl, hw⟩; subst hw; clear tok1 hk1')
    go_ret3
    exact ⟨_, _, rfl, PAdd.same hR.out (Below.refl _ _)⟩
  · have hR := Lib.hid h
    have hk1' := Lib.hid (take_is (w := w) hX h1)
    clear h1
    have tok1 : True := trivial
    go_enter Try.func89, Try.ntmps89
    go_wp2_with (go_at_call 54; have _t := tok1; refine hk1'.out.mono ?_; rintro e9 w9 ⟨rfl, hw⟩; subst hw; clear tok1 hk1')
    go_ret3
    exact ⟨_, _, rfl, PAdd.same hR.out (Below.refl _ _)⟩
  · have hR := Lib.hid h
    have hk1' := Lib.hid (take_is (w := w) hX h1)
    clear h1
    have tok1 : True := trivial
    go_enter Try.func89, Try.ntmps89
    go_wp2_with (go_at_call 54; have _t := tok1; refine hk1'.out.mono ?_; rintro e9 w9 ⟨rfl, hw⟩; subst hw; clear tok1 hk1')
    go_ret3
    exact ⟨_, _, rfl, PAdd.same hR.out (Below.refl _ _)⟩
set_option maxHeartbeats 4000000 in
set_option maxRecDepth 100000 in
theorem take_wnone {a : Nat} {q : Int} (h : PT w b o v l) (hX : Holds w A n c X) (hl : l.length ≤ 1000000) (h1 : take X p = (a, q, 0)) (ha : l.length < a) : Calls Try.prog 89 #[.pointer (some ⟨b, 0, Option.none⟩), .slice A n c, .int .i64 p] w (PTook w b o v ([], 0, 5) l) := by
  have h0 : 0 < a := by omega
  have hR := Lib.hid h
  have hk1' := Lib.hid (take_is (w := w) hX h1)
  clear h1
  obtain ⟨Av, cv, rfl, hT⟩ := h.own.texts
  have hc1 := h.cell0
  obtain ⟨m, hm⟩ : ∃ m, m = l.length := ⟨_, rfl⟩
  rw [← hm] at hc1 ha hl
  have hf : IntKind.u64.wrap (m : Int) = m := IntWalk.u64_in _ ⟨by omega, by omega⟩
  clear hX h hm hT
  have tok1 : True := trivial
  go_enter Try.func89, Try.ntmps89
  go_wp2_with (go_at_call 54; have _t := tok1; refine hk1'.out.mono ?_; rintro e9 w9 ⟨rfl, hw⟩; subst hw; clear tok1 hk1')
  go_ret3
  exact ⟨_, _, rfl, PAdd.same hR.out (Below.refl _ _)⟩
set_option maxHeartbeats 4000000 in
set_option maxRecDepth 100000 in
theorem take_wold {a : Nat} {q : Int} (h : PT w b o v l) (hX : Holds w A n c X) (hl : l.length ≤ 1000000) (h1 : take X p = (a, q, 0)) (h0 : 0 < a) (ha : a ≤ l.length) : Calls Try.prog 89 #[.pointer (some ⟨b, 0, Option.none⟩), .slice A n c, .int .i64 p] w (PTook w b o v (l[a - 1]?.getD [], q, 0) l) := by
  have hR := Lib.hid h
  have hk1' := Lib.hid (take_is (w := w) hX h1)
  clear h1
  obtain ⟨Av, cv, rfl, hT⟩ := h.own.texts
  have hc1 := h.cell0
  obtain ⟨m, hm⟩ : ∃ m, m = l.length := ⟨_, rfl⟩
  rw [← hm] at hc1 ha hl hT
  obtain ⟨g, rfl, _, hcs⟩ := hT.cell (by omega)
  have hcell := hcs (a - 1) (by omega)
  obtain ⟨s, hs⟩ : ∃ s, s = l[a - 1]?.getD [] := ⟨_, rfl⟩
  rw [← hs] at hcell ⊢
  obtain ⟨x, hx⟩ : ∃ x, x = mk s := ⟨_, rfl⟩
  rw [← hx] at hcell
  have hx9 := Lib.hid hx
  obtain ⟨k, rfl⟩ : ∃ k, a = k + 1 := ⟨a - 1, by omega⟩
  simp only [Nat.add_sub_cancel] at hcell
  have hf : IntKind.u64.wrap (m : Int) = m := IntWalk.u64_in _ ⟨by omega, by omega⟩
  have hf2 : IntKind.u64.wrap (((k + 1 : Nat) : Int) - 1) = (k : Int) := by rw [IntWalk.u64_in _ ⟨by omega, by omega⟩]; omega
  have hkm : k < m := by omega
  clear hX h hm hT hcs hs h0 hx
  have tok1 : True := trivial
  go_enter Try.func89, Try.ntmps89
  go_wp2_with (go_at_call 54; have _t := tok1; refine hk1'.out.mono ?_; rintro e9 w9 ⟨rfl, hw⟩; subst hw; clear tok1 hk1')
  go_ret3
  have e9 := hx9.out
  subst e9
  exact ⟨_, _, rfl, PAdd.same hR.out (Below.refl _ _)⟩
set_option maxHeartbeats 4000000 in
set_option maxRecDepth 100000 in
theorem fr_e2 {a2 : Nat} {q q2 e : Int} (h : PT w b o v l) (hX : Holds w A n c X) (h2 : take X q = (a2, q2, e)) (he : e = 1 ∨ e = 4 ∨ e = 7) : Calls Try.prog 94 #[.pointer (some ⟨b, 0, Option.none⟩), .slice A n c, .int .i64 q] w (PTook w b o v ([], 0, e) l) := by
  rcases he with rfl | rfl | rfl
  · have hR := Lib.hid h
    have hk2' := Lib.hid (take_is (w := w) hX h2)
    clear h2
    have tok2 : True := trivial
    go_enter Try.func94, Try.ntmps94
    go_wp2_with (go_at_call 54; have _t := tok2; refine hk2'.out.mono ?_; rintro e9 w9 ⟨rfl, hw⟩; subst hw; clear tok2 hk2')
    go_ret3
    exact ⟨_, _, rfl, PAdd.same hR.out (Below.refl _ _)⟩
  · have hR := Lib.hid h
    have hk2' := Lib.hid (take_is (w := w) hX h2)
    clear h2
    have tok2 : True := trivial
    go_enter Try.func94, Try.ntmps94
    go_wp2_with (go_at_call 54; have _t := tok2; refine hk2'.out.mono ?_; rintro e9 w9 ⟨rfl, hw⟩; subst hw; clear tok2 hk2')
    go_ret3
    exact ⟨_, _, rfl, PAdd.same hR.out (Below.refl _ _)⟩
  · have hR := Lib.hid h
    have hk2' := Lib.hid (take_is (w := w) hX h2)
    clear h2
    have tok2 : True := trivial
    go_enter Try.func94, Try.ntmps94
    go_wp2_with (go_at_call 54; have _t := tok2; refine hk2'.out.mono ?_; rintro e9 w9 ⟨rfl, hw⟩; subst hw; clear tok2 hk2')
    go_ret3
    exact ⟨_, _, rfl, PAdd.same hR.out (Below.refl _ _)⟩
set_option maxHeartbeats 4000000 in
set_option maxRecDepth 100000 in
theorem fr_over {a2 : Nat} {q q2 : Int} (h : PT w b o v l) (hX : Holds w A n c X) (h2 : take X q = (a2, q2, 0)) (ho : 2048 < a2) : Calls Try.prog 94 #[.pointer (some ⟨b, 0, Option.none⟩), .slice A n c, .int .i64 q] w (PTook w b o v ([], 0, 2) l) := by
  have hR := Lib.hid h
  have hk2' := Lib.hid (take_is (w := w) hX h2)
  clear h2
  have tok2 : True := trivial
  go_enter Try.func94, Try.ntmps94
  go_wp2_with (go_at_call 54; have _t := tok2; refine hk2'.out.mono ?_; rintro e9 w9 ⟨rfl, hw⟩; subst hw; clear tok2 hk2')
  go_ret3
  exact ⟨_, _, rfl, PAdd.same hR.out (Below.refl _ _)⟩
set_option maxHeartbeats 4000000 in
set_option maxRecDepth 100000 in
theorem fr_short {a2 : Nat} {q q2 : Int} (h : PT w b o v l) (hX : Holds w A n c X) (h2 : take X q = (a2, q2, 0)) (ho : a2 ≤ 2048) (hs : (X.length : Int) < q2 + a2) (hn : n ≤ 9000000000000000000) : Calls Try.prog 94 #[.pointer (some ⟨b, 0, Option.none⟩), .slice A n c, .int .i64 q] w (PTook w b o v ([], 0, 7) l) := by
  have hq := take_ok h2
  have hlen := hX.len
  have hcap := hX.cap
  have hroom := hX.room
  unfold maxLen at hroom
  rw [hlen] at hs hq
  have hf1 : IntKind.i64.wrap (a2 : Int) = a2 := IntWalk.i64_in _ ⟨by omega, by omega⟩
  have hf2 : IntKind.i64.wrap (q2 + (a2 : Int)) = q2 + (a2 : Int) := IntWalk.i64_in _ ⟨by omega, by omega⟩
  have hf3 : IntKind.i64.wrap ((n : Int) - q2) = (n : Int) - q2 := IntWalk.i64_in _ ⟨by omega, by omega⟩
  have hf4 : IntKind.u64.wrap ((n : Int) - q2) = (n : Int) - q2 := IntWalk.u64_in _ ⟨by omega, by omega⟩
  have hs1 : (n : Int) - q2 < a2 := by omega
  have hR := Lib.hid h
  have hk2' := Lib.hid (take_is (w := w) hX h2)
  clear h2
  have tok2 : True := trivial
  go_enter Try.func94, Try.ntmps94
  go_wp2_with (go_at_call 54; have _t := tok2; refine hk2'.out.mono ?_; rintro e9 w9 ⟨rfl, hw⟩; subst hw; clear tok2 hk2')
  go_ret3
  exact ⟨_, _, rfl, PAdd.same hR.out (Below.refl _ _)⟩
set_option maxHeartbeats 4000000 in
set_option maxRecDepth 100000 in
theorem fr_twice {a2 : Nat} {q q2 : Int} {s : List UInt8} (h : PT w b o v l) (hX : Holds w A n c X) (h2 : take X q = (a2, q2, 0)) (ho : a2 ≤ 2048) (hs : q2 + a2 ≤ (X.length : Int)) (hx : ltrs ((X.drop q2.toNat).take a2) = s) (ht : numT l s ≠ 0) : Calls Try.prog 94 #[.pointer (some ⟨b, 0, Option.none⟩), .slice A n c, .int .i64 q] w (PTook w b o v ([], 0, 4) l) := by
  have hq := take_ok h2
  have hlen := hX.len
  have hcap := hX.cap
  have hroom := hX.room
  unfold maxLen at hroom
  rw [hlen] at hs hq
  have hf1 : IntKind.i64.wrap (a2 : Int) = a2 := IntWalk.i64_in _ ⟨by omega, by omega⟩
  have hf2 : IntKind.i64.wrap (q2 + (a2 : Int)) = q2 + (a2 : Int) := IntWalk.i64_in _ ⟨by omega, by omega⟩
  have hf3 : IntKind.i64.wrap ((n : Int) - q2) = (n : Int) - q2 := IntWalk.i64_in _ ⟨by omega, by omega⟩
  have hf4 : IntKind.u64.wrap ((n : Int) - q2) = (n : Int) - q2 := IntWalk.u64_in _ ⟨by omega, by omega⟩
  obtain ⟨k2, rfl⟩ : ∃ k2 : Nat, q2 = k2 := ⟨q2.toNat, by omega⟩
  simp only [Int.toNat_natCast] at hx
  obtain ⟨A3, c3, hm3, hH3⟩ := run_mid w A n c X hX k2 (k2 + a2) (k2 : Int) ((k2 : Int) + a2) rfl (by simp) (by omega) (by omega)
  have ht3 := run_text (P := Try.prog) 43 9 5 Try.underlying43 Try.underlying5 Try.underlying9 hH3
  rw [Nat.add_sub_cancel_left] at hm3
  simp only [Nat.add_sub_cancel_left] at ht3 hx
  rw [text_of, hx] at ht3
  have hsl : s.length ≤ 2048 := by rw [← hx, ltrs_len]; exact Nat.le_trans (List.length_take_le _ _) ho
  have hml : s.length ≤ maxLen := by simp only [maxLen]; omega
  have hmap := Lib.hid h.map
  have hkey := key_mk hml
  have hc1 := h.cell1
  have hs2 : ¬ (n : Int) - (k2 : Int) < a2 := by omega
  have hR := Lib.hid h
  have hk2' := Lib.hid (take_is (w := w) hX h2)
  clear h2
  obtain ⟨z, hz⟩ : ∃ z, z = mk s := ⟨_, rfl⟩
  have hz' := Lib.hid hz
  rw [← hz] at hkey ht3
  have hkey' := Lib.hid hkey
  have ht' := Lib.hid ht
  clear hX h hlen ht hz hx hkey hH3 hsl hml
  have tok2 : True := trivial
  go_enter Try.func94, Try.ntmps94
  go_wp2_with (first | (go_at_call 54; have _t := tok2; refine hk2'.out.mono ?_; rintro e9 w9 ⟨rfl, hw⟩; subst hw; clear tok2 hk2') | (at_lookup; refine wpList_lookup_tab rfl _ _ rfl _ l rfl hmap.out _ s rfl hkey'.out ?_; intro x9 hx9; clear hx9; rw [show decide (numT l s ≠ 0) = true from decide_eq_true ht'.out]))
  go_ret3
  exact ⟨_, _, rfl, PAdd.same hR.out (Below.refl _ _)⟩
set_option maxHeartbeats 4000000 in
set_option maxRecDepth 100000 in
theorem fr_new {a2 : Nat} {q q2 : Int} {s : List UInt8} (h : PT w b o v l) (hX : Holds w A n c X) (hl : l.length ≤ 1000000) (h2 : take X q = (a2, q2, 0)) (ho : a2 ≤ 2048) (hs : q2 + a2 ≤ (X.length : Int)) (hx : ltrs ((X.drop q2.toNat).take a2) = s) (ht : numT l s = 0) : Calls Try.prog 94 #[.pointer (some ⟨b, 0, Option.none⟩), .slice A n c, .int .i64 q] w (PTook w b o v (s, q2 + a2, 0) (l ++ [s])) := by
  have hq := take_ok h2
  have hlen := hX.len
  have hcap := hX.cap
  have hroom := hX.room
  unfold maxLen at hroom
  rw [hlen] at hs hq
  have hf1 : IntKind.i64.wrap (a2 : Int) = a2 := IntWalk.i64_in _ ⟨by omega, by omega⟩
  have hf2 : IntKind.i64.wrap (q2 + (a2 : Int)) = q2 + (a2 : Int) := IntWalk.i64_in _ ⟨by omega, by omega⟩
  have hf3 : IntKind.i64.wrap ((n : Int) - q2) = (n : Int) - q2 := IntWalk.i64_in _ ⟨by omega, by omega⟩
  have hf4 : IntKind.u64.wrap ((n : Int) - q2) = (n : Int) - q2 := IntWalk.u64_in _ ⟨by omega, by omega⟩
  obtain ⟨k2, rfl⟩ : ∃ k2 : Nat, q2 = k2 := ⟨q2.toNat, by omega⟩
  simp only [Int.toNat_natCast] at hx
  obtain ⟨A3, c3, hm3, hH3⟩ := run_mid w A n c X hX k2 (k2 + a2) (k2 : Int) ((k2 : Int) + a2) rfl (by simp) (by omega) (by omega)
  have ht3 := run_text (P := Try.prog) 43 9 5 Try.underlying43 Try.underlying5 Try.underlying9 hH3
  rw [Nat.add_sub_cancel_left] at hm3
  simp only [Nat.add_sub_cancel_left] at ht3 hx
  rw [text_of, hx] at ht3
  have hsl : s.length ≤ 2048 := by rw [← hx, ltrs_len]; exact Nat.le_trans (List.length_take_le _ _) ho
  have hml : s.length ≤ maxLen := by simp only [maxLen]; omega
  have hmap := Lib.hid h.map
  have hkey := key_mk hml
  have hc1 := h.cell1
  have hs2 : ¬ (n : Int) - (k2 : Int) < a2 := by omega
  have hR := Lib.hid h
  have hk2' := Lib.hid (take_is (w := w) hX h2)
  clear h2
  have hadd := Lib.hid (add_any b o v l s w h hl ht hml)
  obtain ⟨z, hz⟩ : ∃ z, z = mk s := ⟨_, rfl⟩
  have hz' := Lib.hid hz
  rw [← hz] at hkey ht3 hadd
  have hkey' := Lib.hid hkey
  have ht' := Lib.hid ht
  clear hX h hlen ht hz hx hkey hH3 hsl hml hl
  have tok2 : True := trivial
  go_enter Try.func94, Try.ntmps94
  go_wp2_with (first | (go_at_call 54; have _t := tok2; refine hk2'.out.mono ?_; rintro e9 w9 ⟨rfl, hw⟩; subst hw; clear tok2 hk2') | (at_lookup; refine wpList_lookup_tab rfl _ _ rfl _ l rfl hmap.out _ s rfl hkey'.out ?_; intro x9 hx9; clear hx9; rw [show decide (numT l s ≠ 0) = false from decide_eq_false (fun e => e ht'.out)]) | (go_at_call 84; refine hadd.out.mono ?_; rintro e9 w1 ⟨rfl, o1, u, hA⟩; have hA' := Lib.hid hA; clear hA))
  go_ret3
  have e9 := hz'.out
  subst e9
  exact ⟨_, _, rfl, hA'.out⟩
set_option maxHeartbeats 4000000 in
set_option maxRecDepth 100000 in
theorem take_wfresh {q : Int} {r : List UInt8 × Int × Int} {l2 : List (List UInt8)} (h : PT w b o v l) (hX : Holds w A n c X) (hl : l.length ≤ 1000000) (h1 : take X p = (0, q, 0)) (hfr : Calls Try.prog 94 #[.pointer (some ⟨b, 0, Option.none⟩), .slice A n c, .int .i64 q] w (PTook w b o v r l2)) : Calls Try.prog 89 #[.pointer (some ⟨b, 0, Option.none⟩), .slice A n c, .int .i64 p] w (PTook w b o v r l2) := by
  have hR := Lib.hid h
  have hk1' := Lib.hid (take_is (w := w) hX h1)
  clear h1
  obtain ⟨Av, cv, rfl, hT⟩ := h.own.texts
  have hc1 := h.cell0
  obtain ⟨m, hm⟩ : ∃ m, m = l.length := ⟨_, rfl⟩
  rw [← hm] at hc1 hl
  have hf : IntKind.u64.wrap (m : Int) = m := IntWalk.u64_in _ ⟨by omega, by omega⟩
  have hfr' := Lib.hid hfr
  clear hX h hm hT hfr
  have tok1 : True := trivial
  go_enter Try.func89, Try.ntmps89
  go_wp2_with (first | (go_at_call 54; have _t := tok1; refine hk1'.out.mono ?_; rintro e9 w9 ⟨rfl, hw⟩; subst hw; clear tok1 hk1') | (go_at_call 94; refine hfr'.out.mono ?_; rintro e9 w9 ⟨o1, u1, rfl, hA⟩; have hA' := Lib.hid hA; clear hA))
  go_ret3
  exact ⟨_, _, rfl, hA'.out⟩

theorem take19_any (h : PT w b o v l) (hl : l.length ≤ 1000000) (hX : Holds w A n c X) (hn : n ≤ 140737488355328) : Calls Try.prog 89 #[.pointer (some ⟨b, 0, Option.none⟩), .slice A n c, .int .i64 p] w (PTook w b o v (takeB l X p) (takeL l X p)) := by
  obtain ⟨a, q, e, h1⟩ : ∃ a q e, take X p = (a, q, e) := ⟨_, _, _, rfl⟩
  have he := take_err X p
  rw [h1] at he
  by_cases he0 : e = 0
  · subst he0
    by_cases ha : l.length < a
    · obtain ⟨e1, e2⟩ := takeB_none h1 ha
      rw [e1, e2]
      exact take_wnone b o v l A n c X p w h hX hl h1 ha
    · by_cases h0 : 0 < a
      · obtain ⟨e1, e2⟩ := takeB_old (l := l) h1 h0 (by omega)
        rw [e1, e2]
        exact take_wold b o v l A n c X p w h hX hl h1 h0 (by omega)
      · obtain rfl : a = 0 := by omega
        obtain ⟨a2, q2, f, h2⟩ : ∃ a2 q2 f, take X q = (a2, q2, f) := ⟨_, _, _, rfl⟩
        have hf := take_err X q
        rw [h2] at hf
        by_cases hf0 : f = 0
        · subst hf0
          by_cases ho : 2048 < a2
          · obtain ⟨e1, e2⟩ := takeB_over (l := l) h1 h2 ho
            rw [e1, e2]
            exact take_wfresh b o v l A n c X p w h hX hl h1 (fr_over b o v l A n c X w h hX h2 ho)
          · by_cases hs : (X.length : Int) < q2 + a2
            · obtain ⟨e1, e2⟩ := takeB_short (l := l) h1 h2 (by omega) hs
              rw [e1, e2]
              exact take_wfresh b o v l A n c X p w h hX hl h1 (fr_short b o v l A n c X w h hX h2 (by omega) hs (by omega))
            · by_cases ht : numT l (ltrs ((X.drop q2.toNat).take a2)) = 0
              · obtain ⟨e1, e2⟩ := takeB_new (l := l) h1 h2 (by omega) (by omega) rfl ht
                rw [e1, e2]
                exact take_wfresh b o v l A n c X p w h hX hl h1 (fr_new b o v l A n c X w h hX hl h2 (by omega) (by omega) rfl ht)
              · obtain ⟨e1, e2⟩ := takeB_twice (l := l) h1 h2 (by omega) (by omega) rfl ht
                rw [e1, e2]
                exact take_wfresh b o v l A n c X p w h hX hl h1 (fr_twice b o v l A n c X w h hX h2 (by omega) (by omega) rfl ht)
        · obtain ⟨e1, e2⟩ := takeB_e2 (l := l) h1 h2 hf0
          rw [e1, e2]
          exact take_wfresh b o v l A n c X p w h hX hl h1 (fr_e2 b o v l A n c X w h hX h2 (by simp only at hf; omega))
  · obtain ⟨e1, e2⟩ := takeB_e1 (l := l) h1 he0
    rw [e1, e2]
    exact take_w1 b o v l A n c X p w h hX h1 (by simp only at he; omega)
end
end Go.Proofs.Ytodncamohimmmaa
