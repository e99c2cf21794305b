/-
  event's Good. Conditions: those that each theorem states.
-/
import Derived.Test.YtodncamohimmmaaEvPErase
import Derived.Test.YtodncamohimmmaaEvPSmall
import Derived.Test.YtodncamohimmmaaLow3
namespace Go.Proofs.Ytodncamohimmmaa
open Go.RowKit Go.Lib Leb

def placeE (x : Ev) : Prop := (0 ≤ x.ses ∧ x.ses ≤ if x.kind = 5 then 0 else 1048576) ∧ 0 ≤ x.tick ∧ x.tick ≤ 1099511627776
instance (x : Ev) : Decidable (placeE x) := by unfold placeE; infer_instance
def numE (x : Ev) : Prop := (x.kind = 1 ∧ okModes (x.code % 4) (x.code / 4 % 4) (x.code / 16 % 4) (x.code / 64)) ∨ (x.kind = 2 ∧ (1 ≤ x.code ∧ x.code ≤ 2)) ∨ (x.kind = 3 ∧ (100 ≤ x.status ∧ x.status ≤ 599)) ∨ (x.kind = 5 ∧ x.n ≤ 1099511627776) ∨ (x.kind = 7 ∧ (1 ≤ x.code ∧ x.code ≤ 16) ∧ (0 ≤ x.status ∧ x.status ≤ 599)) ∨ x.kind = 4 ∨ x.kind = 6
instance (x : Ev) : Decidable (numE x) := by unfold numE; infer_instance
def lenE (x : Ev) : Prop := (x.hs.length ≤ 25 ∧ x.me.size ≤ 512 ∧ x.no.size ≤ 512 ∧ x.url.size ≤ 2048 ∧ x.body.size ≤ 2048) ∧ ∀ h ∈ x.hs, h.1.size ≤ 512 ∧ h.2.size ≤ 2048
instance (x : Ev) : Decidable (lenE x) := by unfold lenE; infer_instance
theorem okModes_of (c : Int) : okModes (c % 4) (c / 4 % 4) (c / 16 % 4) (c / 64) ↔ okCode c := by unfold okModes okCode; omega
theorem goodE_parts (x : Ev) : GoodE x ↔ placeE x ∧ numE x ∧ lenE x ∧ restE (eraseE x) := by
  obtain ⟨kind, ses, tick, me, url, hs, body, status, code, cred, no, k⟩ := x
  unfold GoodE BoundE kindE placeE numE lenE bareE
  simp only [okModes_of]
  constructor
  · rintro ⟨⟨b1, b2, b3, b4, b5, b6, b7, b8, b9, b10⟩, h⟩
    rcases h with ⟨rfl, h⟩ | ⟨rfl, h⟩ | ⟨rfl, h⟩ | ⟨rfl, h⟩ | ⟨rfl, h⟩ | ⟨rfl, h⟩ | ⟨rfl, h⟩
    all_goals
      refine ⟨?_, ?_, ⟨⟨b9, b5, b6, b7, b8⟩, b10⟩, ?_⟩
      · simp
        omega
      · first
          | exact .inl ⟨rfl, h.1⟩
          | exact .inr (.inl ⟨rfl, by omega⟩)
          | exact .inr (.inr (.inl ⟨rfl, by omega⟩))
          | exact .inr (.inr (.inr (.inl ⟨rfl, h.2.2.2.1⟩)))
          | exact .inr (.inr (.inr (.inr (.inl ⟨rfl, h.2.1, by omega⟩))))
          | exact .inr (.inr (.inr (.inr (.inr (.inl rfl)))))
          | exact .inr (.inr (.inr (.inr (.inr (.inr rfl)))))
      · simp_all [restE, eraseE]
  · rintro ⟨⟨⟨b1, b2⟩, b3, b4⟩, hn, ⟨⟨b9, b5, b6, b7, b8⟩, b10⟩, hr⟩
    rcases hn with ⟨rfl, h⟩ | ⟨rfl, h⟩ | ⟨rfl, h⟩ | ⟨rfl, h⟩ | ⟨rfl, h⟩ | rfl | rfl
    all_goals
      simp only [restE, eraseE] at hr
      simp at hr b2
      refine ⟨⟨b1, by omega, b3, b4, b5, b6, b7, b8, b9, b10⟩, ?_⟩
      simp_all
      try omega
set_option maxHeartbeats 8000000 in
set_option maxRecDepth 100000 in
theorem goodPlace_any (x : Ev) (A : Option Addr) (m c : Nat) (w : World) :
    Calls Try.prog 24 #[evv x A m c] w fun e w' => e = .returned (.bool (decide (placeE x))) ∧ Below w.heap.size w w' := by
  obtain ⟨kind, ses, tick, me, url, hs, body, status, code, cred, no, k⟩ := x
  have hb := Lib.hid (below_box w (.cells (ecell12 ⟨kind, ses, tick, me, url, hs, body, status, code, cred, no, k⟩ A m c) 25))
  unfold evv
  unfold ecell12 at *
  unfold placeE
  simp only at *
  by_cases hk : kind = 5
  · cases h1 : decide (0 ≤ ses ∧ ses ≤ 0)
    · have h1 := Lib.hid h1
      go_enter Try.func24, Try.ntmps24
      go_wp2_with (go_at_call 43; refine (within_any _ _ _ _).mono ?_; rintro e w' ⟨rfl, rfl⟩; first | rw [h1.out] | skip)
      go_ret
      refine ⟨ret_bool ?_, below_box w _⟩
      have := h1.out
      first
        | rfl
        | (rw [if_pos hk, Bool.decide_and]
           simp only [this, Bool.false_and])
        | simp
    · have h1 := Lib.hid h1
      go_enter Try.func24, Try.ntmps24
      go_wp2_with (go_at_call 43; refine (within_any _ _ _ _).mono ?_; rintro e w' ⟨rfl, rfl⟩; first | rw [h1.out] | skip)
      go_ret
      refine ⟨ret_bool ?_, below_box w _⟩
      have := h1.out
      first
        | rfl
        | (rw [if_pos hk, Bool.decide_and]
           simp only [this, Bool.true_and])
        | simp
  · cases h1 : decide (0 ≤ ses ∧ ses ≤ 1048576)
    · have h1 := Lib.hid h1
      go_enter Try.func24, Try.ntmps24
      go_wp2_with (go_at_call 43; refine (within_any _ _ _ _).mono ?_; rintro e w' ⟨rfl, rfl⟩; first | rw [h1.out] | skip)
      go_ret
      refine ⟨ret_bool ?_, below_box w _⟩
      have := h1.out
      first
        | rfl
        | (rw [if_neg hk, Bool.decide_and]
           simp only [this, Bool.false_and])
        | simp
    · have h1 := Lib.hid h1
      go_enter Try.func24, Try.ntmps24
      go_wp2_with (go_at_call 43; refine (within_any _ _ _ _).mono ?_; rintro e w' ⟨rfl, rfl⟩; first | rw [h1.out] | skip)
      go_ret
      refine ⟨ret_bool ?_, below_box w _⟩
      have := h1.out
      first
        | rfl
        | (rw [if_neg hk, Bool.decide_and]
           simp only [this, Bool.true_and])
        | simp
set_option maxHeartbeats 8000000 in
set_option maxRecDepth 100000 in
theorem goodNumbers_any (x : Ev) (A : Option Addr) (m c : Nat) (w : World) :
    Calls Try.prog 25 #[evv x A m c] w fun e w' => e = .returned (.bool (decide (numE x))) ∧ Below w.heap.size w w' := by
  obtain ⟨kind, ses, tick, me, url, hs, body, status, code, cred, no, k⟩ := x
  unfold evv
  unfold ecell12 at *
  unfold numE
  simp only at *
  by_cases k1 : kind = 1
  · subst k1
    have hg := Lib.hid (fun W => fgood_modes (code % 4) (code / 4 % 4) (code / 16 % 4) (code / 64) W)
    go_enter Try.func25, Try.ntmps25
    go_wp2_with (first
      | (go_at_call 49; refine (modes_any _ _).mono ?_; rintro e w1 ⟨rfl, hb1⟩; have hb1' := Lib.hid hb1; clear hb1)
      | (go_at_call 50; refine (hg.out _).mono ?_; rintro e w2 ⟨rfl, hb2⟩; have hb2' := Lib.hid hb2; clear hb2))
    go_ret
    exact ⟨ret_bool (by simp), below_then (below_then (below_box w _) hb1'.out) hb2'.out⟩
  by_cases k2 : kind = 2
  · subst k2
    go_enter Try.func25, Try.ntmps25
    go_wp2_with (go_at_call 43; refine (within_any _ _ _ _).mono ?_; rintro e w' ⟨rfl, rfl⟩)
    go_ret
    exact ⟨ret_bool (by simp), below_box w _⟩
  by_cases k3 : kind = 3
  · subst k3
    go_enter Try.func25, Try.ntmps25
    go_wp2_with (go_at_call 43; refine (within_any _ _ _ _).mono ?_; rintro e w' ⟨rfl, rfl⟩)
    go_ret
    exact ⟨ret_bool (by simp), below_box w _⟩
  by_cases k5 : kind = 5
  · subst k5
    go_enter Try.func25, Try.ntmps25
    go_wp2
    all_goals
      go_ret
      refine ⟨ret_bool ?_, below_box w _⟩
      simp
      try omega
  by_cases k7 : kind = 7
  · subst k7
    cases h1 : decide (1 ≤ code ∧ code ≤ 16)
    all_goals
      have h1 := Lib.hid h1
      go_enter Try.func25, Try.ntmps25
      go_wp2_with (go_at_call 43; refine (within_any _ _ _ _).mono ?_; rintro e w' ⟨rfl, rfl⟩; first | rw [h1.out] | skip)
      go_ret
      refine ⟨ret_bool ?_, below_box w _⟩
      have := h1.out
      simp at this ⊢
      try omega
  by_cases k4 : kind = 4
  · subst k4
    go_enter Try.func25, Try.ntmps25
    go_wp2
    go_ret
    exact ⟨ret_bool (by simp), below_box w _⟩
  by_cases k6 : kind = 6
  · subst k6
    go_enter Try.func25, Try.ntmps25
    go_wp2
    go_ret
    exact ⟨ret_bool (by simp), below_box w _⟩
  go_enter Try.func25, Try.ntmps25
  go_wp2
  go_ret
  exact ⟨ret_bool (by simp [k1, k2, k3, k4, k5, k6, k7]), below_box w _⟩

set_option maxHeartbeats 16000000 in
set_option maxRecDepth 100000 in
theorem goodLengths_any (x : Ev) (A : Option Addr) (m c : Nat) (w : World) (ha : Hds w A m c x.hs) :
    Calls Try.prog 26 #[evv x A m c] w fun e w' => e = .returned (.bool (decide (lenE x))) ∧ Below w.heap.size w w' := by
  have hbel := Lib.hid (below_box w (.cells (ecell12 x A m c) 25))
  have hat := Lib.hid (fun W' h => (evAt_new w x A m c 25).later (w' := W') h)
  have hA := Lib.hid (ha.later hbel.out)
  have hlen := Lib.hid ha.len
  have hmb : (m : Int) ≤ 9223372036854775807 := by
    have h1 := ha.cap
    have h2 := ha.room
    unfold maxLen at h2
    omega
  clear ha
  obtain ⟨kind, ses, tick, me, url, hs, body, status, code, cred, no, k⟩ := x
  unfold evv
  unfold ecell12 at *
  simp only at *
  obtain ⟨W0, hW0⟩ : ∃ W0, W0 = w.alloc (.cells #[.int .i64 kind, .int .i64 ses, .int .i64 tick, .string me, .string url, .slice A m c, .string body, .int .i64 status, .int .i64 code, .bool cred, .string no, .int .u64 (k : Int)] 25) := ⟨_, rfl⟩
  have hW0' := Lib.hid hW0
  rw [← hW0] at hbel hat hA
  clear hW0
  go_enter Try.func26, Try.ntmps26
  go_wp2
  rw [← hW0'.out]
  go_loopw [8] (fun i wr => ∃ q : Nat, q ≤ m ∧ i = .int .i64 q ∧ Below W0.heap.size W0 wr ∧ ∀ j (hj : j < hs.length), j < q → hs[j].1.size ≤ 512 ∧ hs[j].2.size ≤ 2048) (fun i _ => m - (RowKit.intOf i).toNat)
  case atStart => exact ⟨0, Nat.zero_le _, rfl, Below.refl _ _, fun j _ h => absurd h (by omega)⟩
  case round =>
    obtain ⟨q, hq, rfl, hB, hall⟩ := hrel
    have hall' := Lib.hid hall
    have hB' := Lib.hid hB
    obtain ⟨_, _, _, a3, a4, a5, a6, _, _, _, a10, _⟩ := hat.out wr hB
    have hAr := hA.out.later hB
    simp only at a3 a4 a5 a6 a10
    clear hall hB
    by_cases hqm : q < m
    · obtain ⟨g, off, rfl, h1, h2⟩ := hAr.at hqm
      have hql : q < hs.length := by rw [hlen.out]; exact hqm
      obtain ⟨xn, hxn⟩ : ∃ xn, xn = hs[q].1 := ⟨_, rfl⟩
      obtain ⟨xv, hxv⟩ : ∃ xv, xv = hs[q].2 := ⟨_, rfl⟩
      rw [← hxn] at h1
      rw [← hxv] at h2
      have hn' := Lib.hid hxn
      have hv' := Lib.hid hxv
      clear hxn hxv hAr
      by_cases hz : xn.size ≤ 512 ∧ xv.size ≤ 2048
      · have z1 : ¬ (512 : Int) < (xn.size : Int) := by omega
        have z2 : ¬ (2048 : Int) < (xv.size : Int) := by omega
        have hz' := Lib.hid hz
        have hw1 : wrap64 ((q : Int) + 1) = (q : Int) + 1 := wrap_int (by omega) (by omega)
        clear hz
        go_wp2
        go_roundw
        case rel =>
          refine ⟨q + 1, by omega, rfl, hB'.out.trans ((below_box wr _).mono hB'.out.size), fun j hj hjq => ?_⟩
          by_cases e : j = q
          · subst e
            rw [← hn'.out, ← hv'.out]
            exact hz'.out
          · exact hall'.out j hj (by omega)
        case measure => simp [RowKit.intOf]; omega
      · have hbad : ¬ lenE ⟨kind, ses, tick, me, url, hs, body, status, code, cred, no, k⟩ := fun hg => hz (by
          have := hg.2 hs[q] (List.getElem_mem hql)
          rw [hn'.out, hv'.out]
          exact this)
        have hbad' := Lib.hid hbad
        have hz' := Lib.hid hz
        clear hbad hz
        go_wp2
        all_goals
          first
            | (go_ret; exact ⟨ret_bool (decide_eq_false hbad'.out).symm, below_then hbel.out (below_then hB'.out (below_box wr _))⟩)
            | (exfalso; have hz := hz'.out; clear hz'; omega)
    · obtain rfl : m = q := by omega
      have hheads : ∀ g ∈ hs, g.1.size ≤ 512 ∧ g.2.size ≤ 2048 := fun g hg => by
        obtain ⟨j, hj, e⟩ := List.getElem_of_mem hg
        have := hall'.out j hj (by rw [← hlen.out]; exact hj)
        rw [e] at this
        exact this
      have hgood : lenE ⟨kind, ses, tick, me, url, hs, body, status, code, cred, no, k⟩ ↔ (m ≤ 25 ∧ me.size ≤ 512 ∧ no.size ≤ 512 ∧ url.size ≤ 2048 ∧ body.size ≤ 2048) := by
        unfold lenE
        rw [← hlen.out]
        exact and_iff_left hheads
      have hgood' := Lib.hid hgood
      clear hheads hall' hqm hq hgood hAr
      go_wp2
      all_goals
        go_ret
        refine ⟨ret_bool ?_, below_then hbel.out hB'.out⟩
        have hg := hgood'.out
        clear hgood' hbel hat hA hlen hB' hW0'
        first
          | (simp [hg]; done)
          | (rw [Bool.eq_iff_iff]; simp [hg]; omega)
set_option maxHeartbeats 16000000 in
set_option maxRecDepth 100000 in
theorem goodP_any (x : Ev) (A : Option Addr) (m c : Nat) (w : World) (ha : Hds w A m c x.hs) :
    Calls Try.prog 11 #[evv x A m c] w fun e w' => e = .returned (.bool (decide (GoodE x))) ∧ Below w.heap.size w w' := by
  have hg := goodE_parts x
  have c1 := Lib.hid (fun W => goodPlace_any x A m c W)
  have c2 := Lib.hid (fun W => goodNumbers_any x A m c W)
  have c3 := Lib.hid (fun W (h : Below w.heap.size w W) => goodLengths_any x A m c W (ha.later h))
  have c4 := Lib.hid (fun W (h : Below w.heap.size w W) => strangeE_any x A m c W (ha.later h))
  obtain ⟨p1, e1⟩ : ∃ p1, p1 = decide (placeE x) := ⟨_, rfl⟩
  obtain ⟨p2, e2⟩ : ∃ p2, p2 = decide (numE x) := ⟨_, rfl⟩
  obtain ⟨p3, e3⟩ : ∃ p3, p3 = decide (lenE x) := ⟨_, rfl⟩
  obtain ⟨p4, e4⟩ : ∃ p4, p4 = decide (restE (eraseE x)) := ⟨_, rfl⟩
  have hv : decide (GoodE x) = (p1 && p2 && p3 && p4) := by
    rw [e1, e2, e3, e4, decide_eq_decide.2 hg, Bool.decide_and, Bool.decide_and, Bool.decide_and, Bool.and_assoc, Bool.and_assoc]
  rw [hv]
  rw [← e1] at c1
  rw [← e2] at c2
  rw [← e3] at c3
  rw [← e4] at c4
  clear hg hv e1 e2 e3 e4 ha
  obtain ⟨kind, ses, tick, me, url, hs, body, status, code, cred, no, k⟩ := x
  unfold evv ecell12 at *
  simp only at *
  have hi := Lib.hid (show (Try.prog.info? 25).map (·.size) = some (#[.int .i64 kind, .int .i64 ses, .int .i64 tick, .string me, .string url, .slice A m c, .string body, .int .i64 status, .int .i64 code, .bool cred, .string no, .int .u64 (k : Int)] : Array Value).size from infoEvP)
  obtain ⟨fs, hfs⟩ := undEvP
  replace hfs := Lib.hid hfs
  have hr0 := Lib.hid (heap_alloc_new w (.cells #[.int .i64 kind, .int .i64 ses, .int .i64 tick, .string me, .string url, .slice A m c, .string body, .int .i64 status, .int .i64 code, .bool cred, .string no, .int .u64 (k : Int)] 25))
  have hb0 := Lib.hid (below_box w (.cells #[.int .i64 kind, .int .i64 ses, .int .i64 tick, .string me, .string url, .slice A m c, .string body, .int .i64 status, .int .i64 code, .bool cred, .string no, .int .u64 (k : Int)] 25))
  have hrow := Lib.hid (fun W (h : Below (w.alloc (.cells #[.int .i64 kind, .int .i64 ses, .int .i64 tick, .string me, .string url, .slice A m c, .string body, .int .i64 status, .int .i64 code, .bool cred, .string no, .int .u64 (k : Int)] 25)).heap.size (w.alloc (.cells #[.int .i64 kind, .int .i64 ses, .int .i64 tick, .string me, .string url, .slice A m c, .string body, .int .i64 status, .int .i64 code, .bool cred, .string no, .int .u64 (k : Int)] 25)) W) => (h.block w.heap.size (by simp)).trans hr0.out)
  cases p1
  all_goals try cases p2
  all_goals try cases p3
  all_goals
    go_enter Try.func11, Try.ntmps11
    go_wp2_with (first
      | (go_at_call 24; refine (c1.out _).mono ?_; rintro e w1 ⟨rfl, hb1⟩; have hb1' := Lib.hid hb1; have hr1 := Lib.hid (hrow.out w1 hb1); clear hb1)
      | (go_at_call 25; refine (c2.out _).mono ?_; rintro e w2 ⟨rfl, hb2⟩; have hb2' := Lib.hid (hb1'.out.trans (hb2.mono hb1'.out.size)); have hr2 := Lib.hid (hrow.out w2 hb2'.out); clear hb2)
      | (go_at_call 26; refine (c3.out _ (below_then hb0.out hb2'.out)).mono ?_; rintro e w3 ⟨rfl, hb3⟩; have hb3' := Lib.hid (hb2'.out.trans (hb3.mono hb2'.out.size)); have hr3 := Lib.hid (hrow.out w3 hb3'.out); clear hb3)
      | (go_at_call 27; refine (c4.out _ (below_then hb0.out hb3'.out)).mono ?_; rintro e w4 ⟨rfl, hb4⟩; have hb4' := Lib.hid (hb3'.out.trans (hb4.mono hb3'.out.size)); clear hb4)
      | (with_reducible refine wpList_load_row rfl _ _ rfl w.heap.size rfl 25 #[.int .i64 kind, .int .i64 ses, .int .i64 tick, .string me, .string url, .slice A m c, .string body, .int .i64 status, .int .i64 code, .bool cred, .string no, .int .u64 (k : Int)] (0, 0) (.struct fs) hr0.out hfs.out rfl hi.out ?_)
      | (with_reducible refine wpList_load_rowP ?hw w.heap.size rfl 25 #[.int .i64 kind, .int .i64 ses, .int .i64 tick, .string me, .string url, .slice A m c, .string body, .int .i64 status, .int .i64 code, .bool cred, .string no, .int .u64 (k : Int)] (0, 0) (.struct fs) hr3.out hfs.out rfl hi.out ?_; (case hw => simp [Region.wanted, yielded]))
      | (with_reducible refine wpList_load_rowP ?hw w.heap.size rfl 25 #[.int .i64 kind, .int .i64 ses, .int .i64 tick, .string me, .string url, .slice A m c, .string body, .int .i64 status, .int .i64 code, .bool cred, .string no, .int .u64 (k : Int)] (0, 0) (.struct fs) hr2.out hfs.out rfl hi.out ?_; (case hw => simp [Region.wanted, yielded]))
      | (with_reducible refine wpList_load_rowP ?hw w.heap.size rfl 25 #[.int .i64 kind, .int .i64 ses, .int .i64 tick, .string me, .string url, .slice A m c, .string body, .int .i64 status, .int .i64 code, .bool cred, .string no, .int .u64 (k : Int)] (0, 0) (.struct fs) hr1.out hfs.out rfl hi.out ?_; (case hw => simp [Region.wanted, yielded])))
    go_ret
    exact ⟨ret_bool (by simp), below_then hb0.out (by first | exact hb4'.out | exact hb3'.out | exact hb2'.out | exact hb1'.out)⟩
end Go.Proofs.Ytodncamohimmmaa
