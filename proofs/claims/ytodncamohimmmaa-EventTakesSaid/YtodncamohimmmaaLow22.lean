/-
  Texts of one sort, one behind the other: numbers, memory, regions, strings, headers. Conditions: those that each theorem states.
-/
import Derived.Test.YtodncamohimmmaaLow3
import Derived.Test.YtodncamohimmmaaLow4
import Derived.Test.YtodncamohimmmaaEvRound
import Derived.Test.YtodncamohimmmaaLow7

namespace Go.Proofs.Ytodncamohimmmaa
open Go.Lib Leb

section
variable (k : Bk) (x : Ev) (X : List Int)
def pY0 : List Int := X ++ enc x.kind.toNat
def pY1 : List Int := pY0 x X ++ enc x.ses.toNat ++ enc (x.tick - k.tick).toNat
def pY2 : List Int := pY1 k x X ++ if x.kind = 1 ∨ x.kind = 2 ∨ x.kind = 7 then enc x.code.toNat else []
def pY3 : List Int := pY2 k x X ++ if x.kind = 3 ∨ x.kind = 7 then enc x.status.toNat else []
def pY4 : List Int := pY3 k x X ++ if x.kind = 2 then [if x.cred = true then 1 else 0] else []
def pY5 : List Int := pY4 k x X ++ if x.kind = 2 ∨ x.kind = 5 ∨ x.kind = 6 then enc x.n else []
def pT6 : List (List UInt8) := if x.kind = 1 ∨ x.kind = 2 then putL (putL k.tab x.me.data.toList) x.url.data.toList else k.tab
def pY6 : List Int := pY5 k x X ++ if x.kind = 1 ∨ x.kind = 2 then putB k.tab x.me.data.toList ++ putB (putL k.tab x.me.data.toList) x.url.data.toList else []
def pT7 : List (List UInt8) := if x.kind = 1 then putL (pT6 k x) x.no.data.toList else pT6 k x
def pY7 : List Int := pY6 k x X ++ if x.kind = 1 then putB (pT6 k x) x.no.data.toList else []
def pT8 : List (List UInt8) := if x.kind ≤ 3 then dputL (putL (pT7 k x) x.body.data.toList) (k.look x.ses (decide (x.kind = 3))) x.hs else pT7 k x
def pY8 : List Int := pY7 k x X ++ if x.kind ≤ 3 then putB (pT7 k x) x.body.data.toList ++ dputB (putL (pT7 k x) x.body.data.toList) (k.look x.ses (decide (x.kind = 3))) x.hs else []
end

section
variable {k : Bk} {x : Ev} {X : List Int}
theorem pT8_is (hg : GoodE x) : pT8 k x = headL k x := by
  unfold pT8 pT7 pT6 headL textsE
  rcases hg.kinds with h | h | h | h | h | h | h <;> simp [h, putsL]
theorem enc_small0 : enc 0 = [0] := enc_small (by omega)
theorem enc_small1 : enc 1 = [1] := enc_small (by omega)
theorem pY8_is (hg : GoodE x) : pY8 k x X = X ++ encB k x := by
  unfold pY8 pY7 pY6 pY5 pY4 pY3 pY2 pY1 pY0 pT7 pT6 encB headB numsE fieldsE textsE
  rcases hg.kinds with h | h | h | h | h | h | h
  all_goals simp [h, putsL, putsB, encs, List.append_assoc]
  all_goals by_cases hc : x.cred = true <;> simp [hc, enc_small0, enc_small1]

theorem pY0_is (hk : 1 ≤ x.kind ∧ x.kind ≤ 7) : pY0 x X = X ++ [x.kind] := by
  unfold pY0
  rw [enc_small (by omega)]
  congr 2
  omega

theorem goodE_nums (hg : GoodE x) {tick : Int} (h0 : 0 ≤ tick) (ht : tick ≤ x.tick) :
    ∃ kn sn dn cn stn : Nat, x.kind = kn ∧ x.ses = sn ∧ x.tick - tick = dn ∧ x.code = cn ∧ x.status = stn ∧ 1 ≤ kn ∧ kn ≤ 7 ∧ sn ≤ 1048576 ∧ dn ≤ 1099511627776 ∧ cn ≤ 1000 ∧ stn ≤ 1000 := by
  obtain ⟨b1, b2, b3, b4, _⟩ := hg.1
  have hk := hg.kinds
  have hc : 0 ≤ x.code ∧ x.code ≤ 1000 ∧ 0 ≤ x.status ∧ x.status ≤ 1000 := by
    rcases hg.2 with h | h | h | h | h | h | h
    · obtain ⟨_, h1, h2, _⟩ := h
      obtain ⟨c0, _, _, _, _, _, _, _, c8⟩ := h1
      omega
    · obtain ⟨_, h1, h2, _⟩ := h
      omega
    · obtain ⟨_, h1, _, _, h2, _⟩ := h
      omega
    · obtain ⟨_, _, h1, h2, _⟩ := h
      omega
    · obtain ⟨_, _, h1, h2, _⟩ := h
      omega
    · obtain ⟨_, _, h1, h2⟩ := h
      omega
    · obtain ⟨_, _, h1, h2, _⟩ := h
      omega
  exact ⟨x.kind.toNat, x.ses.toNat, (x.tick - tick).toNat, x.code.toNat, x.status.toNat, by omega, by omega, by omega, by omega, by omega, by omega, by omega, by omega, by omega, by omega, by omega⟩
theorem encLen (a : Nat) (h : a < 18446744073709551616) : (enc a).length ≤ 10 := size_le10 h
theorem pY5_len (hg : GoodE x) (h0 : 0 ≤ k.tick) (ht : k.tick ≤ x.tick) (hn : x.n < 18446744073709551616) :
    (pY0 x X).length ≤ X.length + 10 ∧ (pY1 k x X).length ≤ X.length + 30 ∧ (pY2 k x X).length ≤ X.length + 40 ∧ (pY3 k x X).length ≤ X.length + 50 ∧ (pY4 k x X).length ≤ X.length + 51 ∧ (pY5 k x X).length ≤ X.length + 61 := by
  obtain ⟨kn, sn, dn, cn, stn, e1, e2, e3, e4, e5, _, _, _, _, _, _⟩ := goodE_nums hg h0 ht
  have a1 := encLen x.kind.toNat (by omega)
  have a2 := encLen x.ses.toNat (by omega)
  have a3 := encLen (x.tick - k.tick).toNat (by omega)
  have a4 := encLen x.code.toNat (by omega)
  have a5 := encLen x.status.toNat (by omega)
  have a6 := encLen x.n hn
  have l0 : (pY0 x X).length ≤ X.length + 10 := by unfold pY0; rw [List.length_append]; omega
  have l1 : (pY1 k x X).length ≤ X.length + 30 := by unfold pY1; rw [List.length_append, List.length_append]; omega
  have l2 : (pY2 k x X).length ≤ X.length + 40 := by
    unfold pY2
    rw [List.length_append]
    split
    · omega
    · simp; omega
  have l3 : (pY3 k x X).length ≤ X.length + 50 := by
    unfold pY3
    rw [List.length_append]
    split
    · omega
    · simp; omega
  have l4 : (pY4 k x X).length ≤ X.length + 51 := by
    unfold pY4
    rw [List.length_append]
    split
    · simp; omega
    · simp; omega
  refine ⟨l0, l1, l2, l3, l4, ?_⟩
  unfold pY5
  rw [List.length_append]
  split
  · omega
  · simp; omega
theorem txtLen {t : ByteArray} {n : Nat} (h : t.size ≤ n) : t.data.toList.length ≤ n := by
  have e : t.data.toList.length = t.size := Array.length_toList
  omega
theorem pY7_len (hg : GoodE x) (h0 : 0 ≤ k.tick) (ht : k.tick ≤ x.tick) (hn : x.n < 18446744073709551616) (hT : k.tab.length ≤ 200000) :
    (pY6 k x X).length ≤ X.length + 3000 ∧ (pT6 k x).length ≤ k.tab.length + 2 ∧ (pY7 k x X).length ≤ X.length + 4000 ∧ (pT7 k x).length ≤ k.tab.length + 3 := by
  obtain ⟨_, _, _, _, _, l5⟩ := pY5_len (X := X) hg h0 ht hn
  obtain ⟨_, _, _, _, b5, b6, b7, b8, _⟩ := hg.1
  have m1 := txtLen b5
  have m2 := txtLen b7
  have m3 := txtLen b6
  have q1 := putL_len k.tab x.me.data.toList
  have q2 := putL_len (putL k.tab x.me.data.toList) x.url.data.toList
  have q3 := putB_len k.tab x.me.data.toList (by omega) (by omega)
  have q4 := putB_len (putL k.tab x.me.data.toList) x.url.data.toList (by omega) (by omega)
  have t6 : (pT6 k x).length ≤ k.tab.length + 2 := by
    unfold pT6
    split <;> omega
  have l6 : (pY6 k x X).length ≤ X.length + 3000 := by
    unfold pY6
    rw [List.length_append]
    split
    · rw [List.length_append]; omega
    · simp; omega
  have q5 := putL_len (pT6 k x) x.no.data.toList
  have q6 := putB_len (pT6 k x) x.no.data.toList (by omega) (by omega)
  refine ⟨l6, t6, ?_, ?_⟩
  · unfold pY7
    rw [List.length_append]
    split
    · omega
    · simp; omega
  · unfold pT7
    split <;> omega
theorem txts (hg : GoodE x) {T : List (List UInt8)} (hT : T.length ≤ 200000) : x.me.data.toList.length ≤ 512 ∧ x.url.data.toList.length ≤ 2048 ∧ x.no.data.toList.length ≤ 512 ∧ x.body.data.toList.length ≤ 2048 ∧ (putL T x.me.data.toList).length ≤ T.length + 1 ∧ (putB T x.me.data.toList).length ≤ 600 := by
  obtain ⟨_, _, _, _, b5, b6, b7, b8, _⟩ := hg.1
  have m1 := txtLen b5
  have q3 := putB_len T x.me.data.toList (by omega) (by omega)
  exact ⟨m1, txtLen b7, txtLen b6, txtLen b8, putL_len T _, by omega⟩
theorem bodyLen (hg : GoodE x) (h0 : 0 ≤ k.tick) (ht : k.tick ≤ x.tick) (hn : x.n < 18446744073709551616) (hT : k.tab.length ≤ 200000) :
    (pY7 k x X ++ putB (pT7 k x) x.body.data.toList).length ≤ X.length + 7000 ∧ (putL (pT7 k x) x.body.data.toList).length ≤ k.tab.length + 4 := by
  obtain ⟨_, _, h1, h2⟩ := pY7_len (X := X) hg h0 ht hn hT
  have m1 := (txts hg hT).2.2.2.1
  have q1 := putL_len (pT7 k x) x.body.data.toList
  have q3 := putB_len (pT7 k x) x.body.data.toList (by omega) (by omega)
  rw [List.length_append]
  exact ⟨by omega, by omega⟩
theorem shortE (hg : GoodE x) : Short 2048 x.hs := fun h hh => by
  have := hg.1.2.2.2.2.2.2.2.2.2 h hh
  omega
end
end Go.Proofs.Ytodncamohimmmaa

namespace Go.Proofs.Ytodncamohimmmaa
open Go.Lib Leb

theorem putsB_len : ∀ (ss : List (List UInt8)) (l : List (List UInt8)), (∀ s ∈ ss, s.length ≤ 2048) → l.length + ss.length ≤ 1000000 → (putsB l ss).length ≤ 2059 * ss.length
  | [], _, _, _ => by simp [putsB]
  | s :: r, l, h, hl => by
    have h1 := putB_len l s (by simp at hl; omega) (by have := h s (by simp); omega)
    have h2 := h s (by simp)
    have h3 := putL_len l s
    have ih := putsB_len r (putL l s) (fun z hz => h z (by simp [hz])) (by simp at hl; omega)
    show (putB l s ++ putsB (putL l s) r).length ≤ _
    rw [List.length_append, List.length_cons]
    omega
theorem txs_short {l : List Hd} (h : Short 2048 l) : ∀ s ∈ txs l, s.length ≤ 2048 := by
  induction l with
  | nil => intro s hs; cases hs
  | cons q r ih =>
    obtain ⟨x, y⟩ := q
    intro s hs
    have hq := h (x, y) (by simp)
    simp only [txs, List.mem_cons] at hs
    rcases hs with rfl | rfl | hs
    · exact txtLen hq.1
    · exact txtLen hq.2
    · exact ih (fun z hz => h z (by simp [hz])) s hs
section
variable {k : Bk} {x : Ev} {X : List Int}
theorem fresh_short {w l : List Hd} (h : Short 2048 l) : Short 2048 (fresh w l) := fun q hq => h q (List.mem_of_mem_drop (List.mem_of_mem_take hq))
theorem headL_len (hg : GoodE x) : (headL k x).length ≤ k.tab.length + 54 := by
  have hts : (textsE x).length ≤ 4 := by
    unfold textsE
    rcases hg.kinds with h | h | h | h | h | h | h <;> simp [h]
  have h1 := putsL_len k.tab (textsE x)
  unfold headL
  split
  · unfold dputL
    have h2 := putsL_len (putsL k.tab (textsE x)) (txs (fresh (k.look x.ses (decide (x.kind = 3))) x.hs))
    rw [txs_len, fresh_len] at h2
    have h3 := hg.1.2.2.2.2.2.2.2.2.1
    omega
  · omega
theorem encB_len (hg : GoodE x) (hk : k.Ok) (ht : k.tick ≤ x.tick) (hn : x.n < 18446744073709551616) (hT : k.tab.length ≤ 200000) : (X ++ encB k x).length ≤ X.length + 120000 := by
  rw [← pY8_is hg]
  have h7 := pY7_len (X := X) hg hk.low ht hn hT
  have h8 := bodyLen (X := X) hg hk.low ht hn hT
  unfold pY8
  rw [List.length_append]
  split
  · rw [← List.length_append, ← List.append_assoc, List.length_append]
    have hd : (dputB (putL (pT7 k x) x.body.data.toList) (k.look x.ses (decide (x.kind = 3))) x.hs).length ≤ 30 + 2059 * 50 := by
      unfold dputB
      rw [List.length_append]
      have a1 := dputH_len (k.look x.ses (decide (x.kind = 3))) x.hs (by have := hk.few x.ses (decide (x.kind = 3)); omega) (by have := hg.1.2.2.2.2.2.2.2.2.1; omega)
      have a3 : (fresh (k.look x.ses (decide (x.kind = 3))) x.hs).length ≤ 25 := by
        rw [fresh_len]
        have := hg.1.2.2.2.2.2.2.2.2.1
        omega
      have a2 := putsB_len (txs (fresh (k.look x.ses (decide (x.kind = 3))) x.hs)) (putL (pT7 k x) x.body.data.toList) (txs_short (fresh_short (shortE hg))) (by rw [txs_len]; omega)
      rw [txs_len] at a2
      omega
    omega
  · simp
    omega
end
end Go.Proofs.Ytodncamohimmmaa

namespace Go.Proofs.Ytodncamohimmmaa
open Go.Lib Leb

inductive Chain (k : Bk) : List Ev → Bk → List Int → Prop where
  | nil : Chain k [] k []
  | snoc {l : List Ev} {k' : Bk} {Y : List Int} {x : Ev} : Chain k l k' Y → GoodE x → k'.tick ≤ x.tick → x.n < 18446744073709551616 → Chain k (l ++ [x]) (tellE k' x) (Y ++ encB k' x)
section
variable {k k' : Bk} {l : List Ev} {Y : List Int}
theorem Chain.ok (h : Chain k l k' Y) (hk : k.Ok) : k'.Ok := by
  induction h with
  | nil => exact hk
  | snoc _ hg _ _ ih => exact ih.tell hg
theorem Chain.tab (h : Chain k l k' Y) : k'.tab.length ≤ k.tab.length + 54 * l.length := by
  induction h with
  | nil => simp
  | @snoc l1 k1 Y1 x1 _ hg _ _ ih =>
    have h1 : (tellE k1 x1).tab.length ≤ k1.tab.length + 54 := headL_len hg
    rw [List.length_append, List.length_cons, List.length_nil]
    omega
theorem Chain.fn (h : Chain k l k' Y) : (k', Y) = l.foldl (fun s x => (tellE s.1 x, s.2 ++ encB s.1 x)) (k, []) := by
  induction h with
  | nil => rfl
  | snoc _ _ _ _ ih => rw [List.foldl_append, ← ih]; rfl
theorem Chain.uniq {k2 : Bk} {Y2 : List Int} (h : Chain k l k' Y) (h2 : Chain k l k2 Y2) : k' = k2 ∧ Y = Y2 := by
  have e := h.fn.trans h2.fn.symm
  injection e with e1 e2
  exact ⟨e1, e2⟩
theorem encB_pos {k : Bk} {x : Ev} : 1 ≤ (encB k x).length := by
  have h : 1 ≤ (enc x.kind.toNat).length := by
    unfold enc
    split <;> simp
  unfold encB
  rw [List.length_append]
  omega
theorem Chain.at (h : Chain k l k' Y) (hk : k.Ok) (ht : k.tab.length + 54 * l.length ≤ 1000000) {i : Nat} {x : Ev} (hx : l[i]? = some x) :
    ∃ ki Yi, Chain k (l.take i) ki Yi ∧ Chain k (l.take (i + 1)) (tellE ki x) (Yi ++ encB ki x) ∧ takeE ki Y Yi.length = ((x, ((Yi ++ encB ki x).length : Int), 0), tellE ki x) ∧ (Yi ++ encB ki x).length ≤ Y.length ∧ Yi.length < (Yi ++ encB ki x).length := by
  have key : ∃ ki Yi R, Chain k (l.take i) ki Yi ∧ GoodE x ∧ ki.tick ≤ x.tick ∧ x.n < 18446744073709551616 ∧ Y = Yi ++ encB ki x ++ R := by
    clear hk ht
    induction h with
    | nil => simp at hx
    | @snoc l1 k1 Y1 x1 h1 hg hti hn ih =>
      by_cases hi : i < l1.length
      · rw [List.getElem?_append_left hi] at hx
        obtain ⟨ki, Yi, R, hc, h2, h3, h4, e⟩ := ih hx
        exact ⟨ki, Yi, R ++ encB k1 x1, by rw [List.take_append_of_le_length (by omega)]; exact hc, h2, h3, h4, by rw [e]; simp only [List.append_assoc]⟩
      · have hi2 : i = l1.length := by
          have h5 := (List.getElem?_eq_some_iff.1 hx).1
          rw [List.length_append, List.length_cons, List.length_nil] at h5
          omega
        subst hi2
        have e : x1 = x := by simpa using hx
        subst e
        exact ⟨k1, Y1, [], by rw [List.take_left' rfl]; exact h1, hg, hti, hn, by simp⟩
  obtain ⟨ki, Yi, R, hc, hg, hti, hn, e⟩ := key
  have hi := (List.getElem?_eq_some_iff.1 hx).1
  have hki := hc.ok hk
  have htab := hc.tab
  rw [List.length_take] at htab
  have hc2 := Chain.snoc hc hg hti hn
  have e2 : l.take i ++ [x] = l.take (i + 1) := by
    rw [List.take_add_one, hx]
    rfl
  rw [e2] at hc2
  have hp : 1 ≤ (encB ki x).length := encB_pos
  refine ⟨ki, Yi, hc, hc2, ?_, ?_, by rw [List.length_append]; omega⟩
  · rw [e]
    exact takeE_put hki (by omega) hg hn hti Yi R
  · rw [e]
    simp only [List.length_append]
    omega
end
end Go.Proofs.Ytodncamohimmmaa

namespace Go.Proofs.Ytodncamohimmmaa
open Go.RowKit Go.Lib Go.Maps Leb

set_option maxHeartbeats 16000000 in
set_option maxRecDepth 100000 in
theorem wamount_any (w1 : World) (b tb mb : Nat) (T0 L : Nat → Prop) (ks : List (Int × Bool)) (val : Int → Bool → Value) (k : Bk) (g h lb : Nat) (x : Ev) (A : Option Addr) (m c : Nat) (d : Int) (Aw : Option Addr) (nw cw : Nat) (T : List (List UInt8)) (Y : List Int) (ov : Value) (q i n : Nat) (W : World) (hW : WR w1 b tb mb T0 L ks val k g h lb x A m c d Aw nw cw T Y ov ov W) (hc : W.cell? ⟨q, i, Option.none⟩ = some (.int .i64 n)) (hn : n ≤ 9223372036854775807) (hY : Y.length ≤ 2000000000) :
    Calls Try.prog 34 #[.pointer (some ⟨h, 0, Option.none⟩), .pointer (some ⟨q, i, Option.none⟩)] W fun e W' => e = .returned (.tuple #[]) ∧ ∃ out, WR w1 b tb mb T0 L ks val k g h lb x A m c d Aw nw cw T (Y ++ enc n) out out W' := by
  have hb := below_box W (.cells #[.int .u64 n] 23)
  have hnum := Lib.hid (wnumber_any w1 b tb mb T0 L ks val k g h lb x A m c d Aw nw cw T Y ov W.heap.size 0 n (W.alloc (.cells #[.int .u64 n] 23)) (hW.later hb) (by rw [cell_of_row _ _ _ _ _ _ (heap_alloc_new W _)]; rfl) (by unfold U64; omega) hY)
  have hwr : IntKind.u64.wrap (n : Int) = n := by simp [IntKind.wrap, IntKind.bits, IntKind.signed]; omega
  clear hW hb
  go_enter Try.func34, Try.ntmps34
  go_wp2_with (go_at_call 51; refine hnum.out.mono ?_; rintro e w2 ⟨rfl, out, hq⟩; have hq' := Lib.hid hq; clear hq)
  exact bodyPost_end (results_none rfl _ _ _) rfl ⟨rfl, out, hq'.out⟩
set_option maxHeartbeats 16000000 in
set_option maxRecDepth 100000 in
theorem wflag_any (w1 : World) (b tb mb : Nat) (T0 L : Nat → Prop) (ks : List (Int × Bool)) (val : Int → Bool → Value) (k : Bk) (g h lb : Nat) (x : Ev) (A : Option Addr) (m c : Nat) (d : Int) (Aw : Option Addr) (nw cw : Nat) (T : List (List UInt8)) (Y : List Int) (ov : Value) (q i : Nat) (f : Bool) (W : World) (hW : WR w1 b tb mb T0 L ks val k g h lb x A m c d Aw nw cw T Y ov ov W) (hc : W.cell? ⟨q, i, Option.none⟩ = some (.bool f)) (hY : Y.length ≤ 2000000000) :
    Calls Try.prog 78 #[.pointer (some ⟨h, 0, Option.none⟩), .pointer (some ⟨q, i, Option.none⟩)] W fun e W' => e = .returned (.tuple #[]) ∧ ∃ out, WR w1 b tb mb T0 L ks val k g h lb x A m c d Aw nw cw T (Y ++ enc (if f = true then 1 else 0)) out out W' := by
  have hn := Lib.hid (fun n (hu : U64 n) => wnumber_any w1 b tb mb T0 L ks val k g h lb x A m c d Aw nw cw T Y ov W.heap.size 0 n (W.alloc (.cells #[.int .u64 n] 23)) (hW.later (below_box W _)) (by rw [cell_of_row _ _ _ _ _ _ (heap_alloc_new W _)]; rfl) hu hY)
  have hc' := fun o => cell_later (below_box W o) hc
  clear hW hc
  cases f
  · have hnum := Lib.hid (hn.out 0 (by unfold U64; omega))
    go_enter Try.func78, Try.ntmps78
    go_wp2_with (go_at_call 51; refine hnum.out.mono ?_; rintro e w2 ⟨rfl, out, hq⟩; have hq' := Lib.hid hq; clear hq)
    exact bodyPost_end (results_none rfl _ _ _) rfl ⟨rfl, out, hq'.out⟩
  · have hnum := Lib.hid (hn.out 1 (by unfold U64; omega))
    go_enter Try.func78, Try.ntmps78
    go_wp2_with (go_at_call 51; refine hnum.out.mono ?_; rintro e w2 ⟨rfl, out, hq⟩; have hq' := Lib.hid hq; clear hq)
    exact bodyPost_end (results_none rfl _ _ _) rfl ⟨rfl, out, hq'.out⟩
end Go.Proofs.Ytodncamohimmmaa

namespace Go.Proofs.Ytodncamohimmmaa
open Go.RowKit Go.Lib Go.Maps Leb

theorem dputB_short {T : List (List UInt8)} {was l : List Hd} (hw : was.length ≤ 25) (hl : l.length ≤ 25) (hs : Short 2048 l) (hT : T.length ≤ 300000) : (dputB T was l).length ≤ 200000 := by
  unfold dputB
  rw [List.length_append]
  have a1 := dputH_len was l (by omega) (by omega)
  have a3 : (fresh was l).length ≤ 25 := by
    rw [fresh_len]
    omega
  have a2 := putsB_len (txs (fresh was l)) T (txs_short (fresh_short hs)) (by rw [txs_len]; omega)
  rw [txs_len] at a2
  omega
def WV (w1 : World) (b tb mb : Nat) (T0 L : Nat → Prop) (ks : List (Int × Bool)) (val : Int → Bool → Value) (k : Bk) (g h lb : Nat) (x : Ev) (A : Option Addr) (m c : Nat) (d : Int) (Aw : Option Addr) (nw cw : Nat) (T : List (List UInt8)) (Y : List Int) (W : World) : Prop := ∃ out, WR w1 b tb mb T0 L ks val k g h lb x A m c d Aw nw cw T Y out out W
section
variable {w1 : World} {b tb mb : Nat} {T0 L : Nat → Prop} {ks : List (Int × Bool)} {val : Int → Bool → Value} {k : Bk} {g h lb : Nat} {x : Ev} {A : Option Addr} {m c : Nat} {d : Int} {Aw : Option Addr} {nw cw : Nat} {T : List (List UInt8)} {Y : List Int}
theorem WV.st {kd : Int} (hk : x.kind = kd) : VSt g kd (WV w1 b tb mb T0 L ks val k g h lb x A m c d Aw nw cw T Y) := ⟨fun W ⟨out, hW⟩ => by rw [← hk]; exact hW.ev.c0, fun W ⟨out, hW⟩ => ⟨out, hW.later (Below.refl _ W).drew⟩⟩
set_option maxRecDepth 100000 in
theorem wv_amount8 {n : Nat} (hx : x.code = (n : Int)) (hn : n ≤ 9223372036854775807) (hY : Y.length ≤ 2000000000) : VStep 84 (.pointer (some ⟨h, 0, Option.none⟩)) g "pursuivant/event.amount" 8 (WV w1 b tb mb T0 L ks val k g h lb x A m c d Aw nw cw T Y) (WV w1 b tb mb T0 L ks val k g h lb x A m c d Aw nw cw T (Y ++ enc n)) := by
  refine ⟨fun W => by kernel_rfl, 34, .pointer (some ⟨h, 0, Option.none⟩), leads_of (fun W => by kernel_rfl) (fun vs W => by kernel_rfl), fun W hV => ?_⟩
  obtain ⟨out, hW⟩ := hV
  exact wamount_any w1 b tb mb T0 L ks val k g h lb x A m c d Aw nw cw T Y out g 8 n W hW (by rw [hW.ev.c8, hx]) hn hY
set_option maxRecDepth 100000 in
theorem wv_amount7 {n : Nat} (hx : x.status = (n : Int)) (hn : n ≤ 9223372036854775807) (hY : Y.length ≤ 2000000000) : VStep 84 (.pointer (some ⟨h, 0, Option.none⟩)) g "pursuivant/event.amount" 7 (WV w1 b tb mb T0 L ks val k g h lb x A m c d Aw nw cw T Y) (WV w1 b tb mb T0 L ks val k g h lb x A m c d Aw nw cw T (Y ++ enc n)) := by
  refine ⟨fun W => by kernel_rfl, 34, .pointer (some ⟨h, 0, Option.none⟩), leads_of (fun W => by kernel_rfl) (fun vs W => by kernel_rfl), fun W hV => ?_⟩
  obtain ⟨out, hW⟩ := hV
  exact wamount_any w1 b tb mb T0 L ks val k g h lb x A m c d Aw nw cw T Y out g 7 n W hW (by rw [hW.ev.c7, hx]) hn hY
set_option maxRecDepth 100000 in
theorem wv_flag9 (hY : Y.length ≤ 2000000000) : VStep 84 (.pointer (some ⟨h, 0, Option.none⟩)) g "pursuivant/event.flag" 9 (WV w1 b tb mb T0 L ks val k g h lb x A m c d Aw nw cw T Y) (WV w1 b tb mb T0 L ks val k g h lb x A m c d Aw nw cw T (Y ++ enc (if x.cred = true then 1 else 0))) := by
  refine ⟨fun W => by kernel_rfl, 78, .pointer (some ⟨h, 0, Option.none⟩), leads_of (fun W => by kernel_rfl) (fun vs W => by kernel_rfl), fun W hV => ?_⟩
  obtain ⟨out, hW⟩ := hV
  exact wflag_any w1 b tb mb T0 L ks val k g h lb x A m c d Aw nw cw T Y out g 9 x.cred W hW hW.ev.c9 hY
set_option maxRecDepth 100000 in
theorem wv_number11 (hn : U64 x.n) (hY : Y.length ≤ 2000000000) : VStep 84 (.pointer (some ⟨h, 0, Option.none⟩)) g "pursuivant/event.number" 11 (WV w1 b tb mb T0 L ks val k g h lb x A m c d Aw nw cw T Y) (WV w1 b tb mb T0 L ks val k g h lb x A m c d Aw nw cw T (Y ++ enc x.n)) := by
  refine ⟨fun W => by kernel_rfl, 51, .pointer (some ⟨h, 0, Option.none⟩), leads_of (fun W => by kernel_rfl) (fun vs W => by kernel_rfl), fun W hV => ?_⟩
  obtain ⟨out, hW⟩ := hV
  exact wnumber_any w1 b tb mb T0 L ks val k g h lb x A m c d Aw nw cw T Y out g 11 x.n W hW hW.ev.c11 hn hY
theorem ptext {p : ByteArray} {T : List (List UInt8)} (hp : p.size ≤ 4000) (hT : T.length ≤ 300000) : (putB T p.data.toList).length ≤ 10000 := by
  have h2 : p.data.toList.length = p.size := by rw [Array.length_toList]; rfl
  have h1 := putB_len T p.data.toList (by omega) (by omega)
  omega
set_option maxRecDepth 100000 in
theorem wv_text3 (hp : x.me.size ≤ 4000) (hT : T.length ≤ 300000) (hY : Y.length ≤ 2000000000) : VStep 84 (.pointer (some ⟨h, 0, Option.none⟩)) g "pursuivant/event.text" 3 (WV w1 b tb mb T0 L ks val k g h lb x A m c d Aw nw cw T Y) (WV w1 b tb mb T0 L ks val k g h lb x A m c d Aw nw cw (putL T x.me.data.toList) (Y ++ putB T x.me.data.toList)) := by
  refine ⟨fun W => by kernel_rfl, 80, .pointer (some ⟨h, 0, Option.none⟩), leads_of (fun W => by kernel_rfl) (fun vs W => by kernel_rfl), fun W hV => ?_⟩
  obtain ⟨out, hW⟩ := hV
  exact wtext_any w1 b tb mb T0 L ks val k g h lb x A m c d Aw nw cw T Y out g 3 x.me W hW hW.ev.c3 hT hp (ptext hp hT) hY
set_option maxRecDepth 100000 in
theorem wv_text4 (hp : x.url.size ≤ 4000) (hT : T.length ≤ 300000) (hY : Y.length ≤ 2000000000) : VStep 84 (.pointer (some ⟨h, 0, Option.none⟩)) g "pursuivant/event.text" 4 (WV w1 b tb mb T0 L ks val k g h lb x A m c d Aw nw cw T Y) (WV w1 b tb mb T0 L ks val k g h lb x A m c d Aw nw cw (putL T x.url.data.toList) (Y ++ putB T x.url.data.toList)) := by
  refine ⟨fun W => by kernel_rfl, 80, .pointer (some ⟨h, 0, Option.none⟩), leads_of (fun W => by kernel_rfl) (fun vs W => by kernel_rfl), fun W hV => ?_⟩
  obtain ⟨out, hW⟩ := hV
  exact wtext_any w1 b tb mb T0 L ks val k g h lb x A m c d Aw nw cw T Y out g 4 x.url W hW hW.ev.c4 hT hp (ptext hp hT) hY
set_option maxRecDepth 100000 in
theorem wv_text10 (hp : x.no.size ≤ 4000) (hT : T.length ≤ 300000) (hY : Y.length ≤ 2000000000) : VStep 84 (.pointer (some ⟨h, 0, Option.none⟩)) g "pursuivant/event.text" 10 (WV w1 b tb mb T0 L ks val k g h lb x A m c d Aw nw cw T Y) (WV w1 b tb mb T0 L ks val k g h lb x A m c d Aw nw cw (putL T x.no.data.toList) (Y ++ putB T x.no.data.toList)) := by
  refine ⟨fun W => by kernel_rfl, 80, .pointer (some ⟨h, 0, Option.none⟩), leads_of (fun W => by kernel_rfl) (fun vs W => by kernel_rfl), fun W hV => ?_⟩
  obtain ⟨out, hW⟩ := hV
  exact wtext_any w1 b tb mb T0 L ks val k g h lb x A m c d Aw nw cw T Y out g 10 x.no W hW hW.ev.c10 hT hp (ptext hp hT) hY
set_option maxRecDepth 100000 in
theorem wv_text6 (hp : x.body.size ≤ 4000) (hT : T.length ≤ 300000) (hY : Y.length ≤ 2000000000) : VStep 84 (.pointer (some ⟨h, 0, Option.none⟩)) g "pursuivant/event.text" 6 (WV w1 b tb mb T0 L ks val k g h lb x A m c d Aw nw cw T Y) (WV w1 b tb mb T0 L ks val k g h lb x A m c d Aw nw cw (putL T x.body.data.toList) (Y ++ putB T x.body.data.toList)) := by
  refine ⟨fun W => by kernel_rfl, 80, .pointer (some ⟨h, 0, Option.none⟩), leads_of (fun W => by kernel_rfl) (fun vs W => by kernel_rfl), fun W hV => ?_⟩
  obtain ⟨out, hW⟩ := hV
  exact wtext_any w1 b tb mb T0 L ks val k g h lb x A m c d Aw nw cw T Y out g 6 x.body W hW hW.ev.c6 hT hp (ptext hp hT) hY
set_option maxRecDepth 100000 in
theorem wv_headers5 {was : List Hd} (hx : HdO w1 A m c x.hs (inK b mb T0 L)) (hw : HdO w1 Aw nw cw was T0) (hT : T.length ≤ 300000) (hnw : nw ≤ 25) (hm : m ≤ 25) (hsh : Short 2048 x.hs) (hY : Y.length ≤ 2000000000) : VStep 84 (.pointer (some ⟨h, 0, Option.none⟩)) g "pursuivant/event.headers" 5 (WV w1 b tb mb T0 L ks val k g h lb x A m c d Aw nw cw T Y) (WV w1 b tb mb T0 L ks val k g h lb x A m c d Aw nw cw (dputL T was x.hs) (Y ++ dputB T was x.hs)) := by
  refine ⟨fun W => by kernel_rfl, 79, .pointer (some ⟨h, 0, Option.none⟩), leads_of (fun W => by kernel_rfl) (fun vs W => by kernel_rfl), fun W hV => ?_⟩
  obtain ⟨out, hW⟩ := hV
  exact wheaders_any w1 b tb mb T0 L ks val k g h lb x A m c d Aw nw cw T Y out g 5 was W hW hW.ev.c5 hx hw hT (by omega) (by omega) hsh (by have h1 := dputB_short (T := T) (was := was) (l := x.hs) (by rw [hw.rd.len]; omega) (by rw [hx.rd.len]; omega) hsh hT; omega) hY
end
theorem visitW_any {w1 : World} {b tb mb : Nat} {T0 L : Nat → Prop} {ks : List (Int × Bool)} {val : Int → Bool → Value} {k : Bk} {g h lb : Nat} {x : Ev} {A : Option Addr} {m c : Nat} {d : Int} {Aw : Option Addr} {nw cw : Nat} {Y : List Int} {W : World} (hg : GoodE x) (h64 : U64 x.n) (hx : HdO w1 A m c x.hs (inK b mb T0 L)) (hw : HdO w1 Aw nw cw (k.look x.ses (decide (x.kind = 3))) T0) (hnw : nw ≤ 25) (hT : k.tab.length ≤ 200000) (hY : Y.length ≤ 1000000000) (hV : WV w1 b tb mb T0 L ks val k g h lb x A m c d Aw nw cw k.tab Y W) :
    Calls Try.prog 35 #[.pointer (some ⟨g, 0, Option.none⟩), .iface 84 (.pointer (some ⟨h, 0, Option.none⟩))] W fun e W' => e = .returned (.tuple #[]) ∧ WV w1 b tb mb T0 L ks val k g h lb x A m c d Aw nw cw (headL k x) (Y ++ (encs (fieldsE x) ++ (putsB k.tab (textsE x) ++ headB k x))) W' := by
  have hb := hg.1
  obtain ⟨_, _, b3, _, b5, b6, b7, b8, b9, b10⟩ := hb
  obtain ⟨kn, sn, dn, cn, stn, ek, es, ed, ec, est, bk1, bk7, bs, bd, bc, bst⟩ := goodE_nums hg (tick := 0) (by omega) (by omega)
  have hm : m ≤ 25 := by rw [← hx.rd.len]; exact b9
  have hsh := shortE hg
  have l1 := putL_len k.tab
  have zc : (enc cn).length ≤ 10 := size_le10 (by unfold U64 at *; omega)
  have zs : (enc stn).length ≤ 10 := size_le10 (by unfold U64 at *; omega)
  have zn : (enc x.n).length ≤ 10 := size_le10 h64
  have zf : (enc (if x.cred = true then 1 else 0)).length ≤ 10 := size_le10 (by split <;> omega)
  have ecn : x.code.toNat = cn := by rw [ec]; simp
  have estn : x.status.toNat = stn := by rw [est]; simp
  have hbody : x.body.size ≤ 4000 := by omega
  have hurl : x.url.size ≤ 4000 := by omega
  have hme : x.me.size ≤ 4000 := by omega
  have hno : x.no.size ≤ 4000 := by omega
  rcases hg.kinds with hk | hk | hk | hk | hk | hk | hk
  · replace hY : Y.length ≤ 1000000000 := hY
    have hY0 : Y.length ≤ 2000000000 := by omega
    have hT0 : k.tab.length ≤ 300000 := by omega
    have hY1 : (Y ++ enc cn).length ≤ 2000000000 := by simp only [List.length_append] at *; omega
    have hT1 := hT0
    have q1 := ptext (T := k.tab) hme hT1
    have hY2 : ((Y ++ enc cn) ++ putB k.tab x.me.data.toList).length ≤ 2000000000 := by simp only [List.length_append] at *; omega
    have p1 := putL_len k.tab x.me.data.toList
    have hT2 : (putL k.tab x.me.data.toList).length ≤ 300000 := by omega
    have q2 := ptext (T := (putL k.tab x.me.data.toList)) hurl hT2
    have hY3 : (((Y ++ enc cn) ++ putB k.tab x.me.data.toList) ++ putB (putL k.tab x.me.data.toList) x.url.data.toList).length ≤ 2000000000 := by simp only [List.length_append] at *; omega
    have p2 := putL_len (putL k.tab x.me.data.toList) x.url.data.toList
    have hT3 : (putL (putL k.tab x.me.data.toList) x.url.data.toList).length ≤ 300000 := by omega
    have q3 := ptext (T := (putL (putL k.tab x.me.data.toList) x.url.data.toList)) hno hT3
    have hY4 : ((((Y ++ enc cn) ++ putB k.tab x.me.data.toList) ++ putB (putL k.tab x.me.data.toList) x.url.data.toList) ++ putB (putL (putL k.tab x.me.data.toList) x.url.data.toList) x.no.data.toList).length ≤ 2000000000 := by simp only [List.length_append] at *; omega
    have p3 := putL_len (putL (putL k.tab x.me.data.toList) x.url.data.toList) x.no.data.toList
    have hT4 : (putL (putL (putL k.tab x.me.data.toList) x.url.data.toList) x.no.data.toList).length ≤ 300000 := by omega
    have q4 := ptext (T := (putL (putL (putL k.tab x.me.data.toList) x.url.data.toList) x.no.data.toList)) hbody hT4
    have hY5 : (((((Y ++ enc cn) ++ putB k.tab x.me.data.toList) ++ putB (putL k.tab x.me.data.toList) x.url.data.toList) ++ putB (putL (putL k.tab x.me.data.toList) x.url.data.toList) x.no.data.toList) ++ putB (putL (putL (putL k.tab x.me.data.toList) x.url.data.toList) x.no.data.toList) x.body.data.toList).length ≤ 2000000000 := by simp only [List.length_append] at *; omega
    have p4 := putL_len (putL (putL (putL k.tab x.me.data.toList) x.url.data.toList) x.no.data.toList) x.body.data.toList
    have hT5 : (putL (putL (putL (putL k.tab x.me.data.toList) x.url.data.toList) x.no.data.toList) x.body.data.toList).length ≤ 300000 := by omega
    refine (visit_1 84 (.pointer (some ⟨h, 0, Option.none⟩)) g _ _ _ _ _ _ _ W hV (WV.st hk) (WV.st hk) (WV.st hk) (WV.st hk) (WV.st hk) (WV.st hk) (WV.st hk) (wv_amount8 (n := cn) ec (by omega) hY0) (wv_text3 hme hT1 hY1) (wv_text4 hurl hT2 hY2) (wv_text10 hno hT3 hY3) (wv_text6 hbody hT4 hY4) (wv_headers5 hx hw hT5 hnw hm hsh hY5)).mono ?_
    rintro e W' ⟨rfl, h'⟩
    have e1 : headL k x = dputL (putL (putL (putL (putL k.tab x.me.data.toList) x.url.data.toList) x.no.data.toList) x.body.data.toList) (k.look x.ses (decide (x.kind = 3))) x.hs := by unfold headL textsE; simp [hk, putsL]
    have e2 : Y ++ (encs (fieldsE x) ++ (putsB k.tab (textsE x) ++ headB k x)) = ((((((Y ++ enc cn) ++ putB k.tab x.me.data.toList) ++ putB (putL k.tab x.me.data.toList) x.url.data.toList) ++ putB (putL (putL k.tab x.me.data.toList) x.url.data.toList) x.no.data.toList) ++ putB (putL (putL (putL k.tab x.me.data.toList) x.url.data.toList) x.no.data.toList) x.body.data.toList) ++ dputB (putL (putL (putL (putL k.tab x.me.data.toList) x.url.data.toList) x.no.data.toList) x.body.data.toList) (k.look x.ses (decide (x.kind = 3))) x.hs) := by unfold headB textsE fieldsE; simp [hk, encs, putsB, putsL, ecn]
    rw [e1, e2]
    exact ⟨rfl, h'⟩
  · replace hY : Y.length ≤ 1000000000 := hY
    have hY0 : Y.length ≤ 2000000000 := by omega
    have hT0 : k.tab.length ≤ 300000 := by omega
    have hY1 : (Y ++ enc cn).length ≤ 2000000000 := by simp only [List.length_append] at *; omega
    have hT1 := hT0
    have hY2 : ((Y ++ enc cn) ++ enc (if x.cred = true then 1 else 0)).length ≤ 2000000000 := by simp only [List.length_append] at *; omega
    have hT2 := hT1
    have hY3 : (((Y ++ enc cn) ++ enc (if x.cred = true then 1 else 0)) ++ enc x.n).length ≤ 2000000000 := by simp only [List.length_append] at *; omega
    have hT3 := hT2
    have q3 := ptext (T := k.tab) hme hT3
    have hY4 : ((((Y ++ enc cn) ++ enc (if x.cred = true then 1 else 0)) ++ enc x.n) ++ putB k.tab x.me.data.toList).length ≤ 2000000000 := by simp only [List.length_append] at *; omega
    have p3 := putL_len k.tab x.me.data.toList
    have hT4 : (putL k.tab x.me.data.toList).length ≤ 300000 := by omega
    have q4 := ptext (T := (putL k.tab x.me.data.toList)) hurl hT4
    have hY5 : (((((Y ++ enc cn) ++ enc (if x.cred = true then 1 else 0)) ++ enc x.n) ++ putB k.tab x.me.data.toList) ++ putB (putL k.tab x.me.data.toList) x.url.data.toList).length ≤ 2000000000 := by simp only [List.length_append] at *; omega
    have p4 := putL_len (putL k.tab x.me.data.toList) x.url.data.toList
    have hT5 : (putL (putL k.tab x.me.data.toList) x.url.data.toList).length ≤ 300000 := by omega
    have q5 := ptext (T := (putL (putL k.tab x.me.data.toList) x.url.data.toList)) hbody hT5
    have hY6 : ((((((Y ++ enc cn) ++ enc (if x.cred = true then 1 else 0)) ++ enc x.n) ++ putB k.tab x.me.data.toList) ++ putB (putL k.tab x.me.data.toList) x.url.data.toList) ++ putB (putL (putL k.tab x.me.data.toList) x.url.data.toList) x.body.data.toList).length ≤ 2000000000 := by simp only [List.length_append] at *; omega
    have p5 := putL_len (putL (putL k.tab x.me.data.toList) x.url.data.toList) x.body.data.toList
    have hT6 : (putL (putL (putL k.tab x.me.data.toList) x.url.data.toList) x.body.data.toList).length ≤ 300000 := by omega
    refine (visit_2 84 (.pointer (some ⟨h, 0, Option.none⟩)) g _ _ _ _ _ _ _ _ W hV (WV.st hk) (WV.st hk) (WV.st hk) (WV.st hk) (WV.st hk) (WV.st hk) (WV.st hk) (WV.st hk) (wv_amount8 (n := cn) ec (by omega) hY0) (wv_flag9 hY1) (wv_number11 h64 hY2) (wv_text3 hme hT3 hY3) (wv_text4 hurl hT4 hY4) (wv_text6 hbody hT5 hY5) (wv_headers5 hx hw hT6 hnw hm hsh hY6)).mono ?_
    rintro e W' ⟨rfl, h'⟩
    have e1 : headL k x = dputL (putL (putL (putL k.tab x.me.data.toList) x.url.data.toList) x.body.data.toList) (k.look x.ses (decide (x.kind = 3))) x.hs := by unfold headL textsE; simp [hk, putsL]
    have e2 : Y ++ (encs (fieldsE x) ++ (putsB k.tab (textsE x) ++ headB k x)) = (((((((Y ++ enc cn) ++ enc (if x.cred = true then 1 else 0)) ++ enc x.n) ++ putB k.tab x.me.data.toList) ++ putB (putL k.tab x.me.data.toList) x.url.data.toList) ++ putB (putL (putL k.tab x.me.data.toList) x.url.data.toList) x.body.data.toList) ++ dputB (putL (putL (putL k.tab x.me.data.toList) x.url.data.toList) x.body.data.toList) (k.look x.ses (decide (x.kind = 3))) x.hs) := by unfold headB textsE fieldsE; simp [hk, encs, putsB, putsL, ecn]
    rw [e1, e2]
    exact ⟨rfl, h'⟩
  · replace hY : Y.length ≤ 1000000000 := hY
    have hY0 : Y.length ≤ 2000000000 := by omega
    have hT0 : k.tab.length ≤ 300000 := by omega
    have hY1 : (Y ++ enc stn).length ≤ 2000000000 := by simp only [List.length_append] at *; omega
    have hT1 := hT0
    have q1 := ptext (T := k.tab) hbody hT1
    have hY2 : ((Y ++ enc stn) ++ putB k.tab x.body.data.toList).length ≤ 2000000000 := by simp only [List.length_append] at *; omega
    have p1 := putL_len k.tab x.body.data.toList
    have hT2 : (putL k.tab x.body.data.toList).length ≤ 300000 := by omega
    refine (visit_3 84 (.pointer (some ⟨h, 0, Option.none⟩)) g _ _ _ _ W hV (WV.st hk) (WV.st hk) (WV.st hk) (WV.st hk) (wv_amount7 (n := stn) est (by omega) hY0) (wv_text6 hbody hT1 hY1) (wv_headers5 hx hw hT2 hnw hm hsh hY2)).mono ?_
    rintro e W' ⟨rfl, h'⟩
    have e1 : headL k x = dputL (putL k.tab x.body.data.toList) (k.look x.ses (decide (x.kind = 3))) x.hs := by unfold headL textsE; simp [hk, putsL]
    have e2 : Y ++ (encs (fieldsE x) ++ (putsB k.tab (textsE x) ++ headB k x)) = (((Y ++ enc stn) ++ putB k.tab x.body.data.toList) ++ dputB (putL k.tab x.body.data.toList) (k.look x.ses (decide (x.kind = 3))) x.hs) := by unfold headB textsE fieldsE; simp [hk, encs, putsB, putsL, estn]
    rw [e1, e2]
    exact ⟨rfl, h'⟩
  · refine (visit_none 84 (.pointer (some ⟨h, 0, Option.none⟩)) g x.kind W ((WV.st rfl).kind W hV) (by omega)).mono ?_
    rintro e W' ⟨rfl, rfl⟩
    have e1 : headL k x = k.tab := by unfold headL textsE; rw [if_neg (by omega), if_neg (by omega), if_neg (by omega), if_neg (by omega)]; rfl
    have e2 : encs (fieldsE x) ++ (putsB k.tab (textsE x) ++ headB k x) = [] := by unfold headB textsE fieldsE; simp [hk, encs, putsB]
    rw [e1, e2, List.append_nil]
    exact ⟨rfl, hV⟩
  · replace hY : Y.length ≤ 1000000000 := hY
    have hY0 : Y.length ≤ 2000000000 := by omega
    have hT0 : k.tab.length ≤ 300000 := by omega
    refine (visit_5 84 (.pointer (some ⟨h, 0, Option.none⟩)) g _ _ W hV (WV.st hk) (WV.st hk) (wv_number11 h64 hY0)).mono ?_
    rintro e W' ⟨rfl, h'⟩
    have e1 : headL k x = k.tab := by unfold headL textsE; simp [hk, putsL]
    have e2 : Y ++ (encs (fieldsE x) ++ (putsB k.tab (textsE x) ++ headB k x)) = (Y ++ enc x.n) := by unfold headB textsE fieldsE; simp [hk, encs, putsB]
    rw [e1, e2]
    exact ⟨rfl, h'⟩
  · replace hY : Y.length ≤ 1000000000 := hY
    have hY0 : Y.length ≤ 2000000000 := by omega
    have hT0 : k.tab.length ≤ 300000 := by omega
    refine (visit_6 84 (.pointer (some ⟨h, 0, Option.none⟩)) g _ _ W hV (WV.st hk) (WV.st hk) (wv_number11 h64 hY0)).mono ?_
    rintro e W' ⟨rfl, h'⟩
    have e1 : headL k x = k.tab := by unfold headL textsE; simp [hk, putsL]
    have e2 : Y ++ (encs (fieldsE x) ++ (putsB k.tab (textsE x) ++ headB k x)) = (Y ++ enc x.n) := by unfold headB textsE fieldsE; simp [hk, encs, putsB]
    rw [e1, e2]
    exact ⟨rfl, h'⟩
  · replace hY : Y.length ≤ 1000000000 := hY
    have hY0 : Y.length ≤ 2000000000 := by omega
    have hT0 : k.tab.length ≤ 300000 := by omega
    have hY1 : (Y ++ enc cn).length ≤ 2000000000 := by simp only [List.length_append] at *; omega
    have hT1 := hT0
    refine (visit_7 84 (.pointer (some ⟨h, 0, Option.none⟩)) g _ _ _ W hV (WV.st hk) (WV.st hk) (WV.st hk) (wv_amount8 (n := cn) ec (by omega) hY0) (wv_amount7 (n := stn) est (by omega) hY1)).mono ?_
    rintro e W' ⟨rfl, h'⟩
    have e1 : headL k x = k.tab := by unfold headL textsE; simp [hk, putsL]
    have e2 : Y ++ (encs (fieldsE x) ++ (putsB k.tab (textsE x) ++ headB k x)) = ((Y ++ enc cn) ++ enc stn) := by unfold headB textsE fieldsE; simp [hk, encs, putsB, ecn, estn]
    rw [e1, e2]
    exact ⟨rfl, h'⟩
theorem wvc_amount {w1 : World} {b tb mb : Nat} {T0 L : Nat → Prop} {ks : List (Int × Bool)} {val : Int → Bool → Value} {k : Bk} {g h lb : Nat} {x : Ev} {A : Option Addr} {m c : Nat} {d : Int} {Aw : Option Addr} {nw cw : Nat} {T : List (List UInt8)} {Y : List Int} {W : World} (q i n : Nat) (hV : WV w1 b tb mb T0 L ks val k g h lb x A m c d Aw nw cw T Y W) (hc : W.cell? ⟨q, i, Option.none⟩ = some (.int .i64 n)) (hn : n ≤ 9223372036854775807) (hY : Y.length ≤ 2000000000) :
    Calls Try.prog 34 #[.pointer (some ⟨h, 0, Option.none⟩), .pointer (some ⟨q, i, Option.none⟩)] W fun e W' => e = .returned (.tuple #[]) ∧ WV w1 b tb mb T0 L ks val k g h lb x A m c d Aw nw cw T (Y ++ enc n) W' := by
  obtain ⟨out, hW⟩ := hV
  exact wamount_any w1 b tb mb T0 L ks val k g h lb x A m c d Aw nw cw T Y out q i n W hW hc hn hY
theorem WV.ev {w1 : World} {b tb mb : Nat} {T0 L : Nat → Prop} {ks : List (Int × Bool)} {val : Int → Bool → Value} {k : Bk} {g h lb : Nat} {x : Ev} {A : Option Addr} {m c : Nat} {d : Int} {Aw : Option Addr} {nw cw : Nat} {T : List (List UInt8)} {Y : List Int} {W : World} (hV : WV w1 b tb mb T0 L ks val k g h lb x A m c d Aw nw cw T Y W) : EvAt W g x A m c := by
  obtain ⟨out, hW⟩ := hV
  exact hW.ev
theorem WV.dif {w1 : World} {b tb mb : Nat} {T0 L : Nat → Prop} {ks : List (Int × Bool)} {val : Int → Bool → Value} {k : Bk} {g h lb : Nat} {x : Ev} {A : Option Addr} {m c : Nat} {d : Int} {Aw : Option Addr} {nw cw : Nat} {T : List (List UInt8)} {Y : List Int} {W : World} (hV : WV w1 b tb mb T0 L ks val k g h lb x A m c d Aw nw cw T Y W) : W.cell? ⟨lb, 0, Option.none⟩ = some (.int .i64 d) := by
  obtain ⟨out, hW⟩ := hV
  rw [cell_of_row W lb 0 _ _ _ hW.bl]
  rfl
end Go.Proofs.Ytodncamohimmmaa
