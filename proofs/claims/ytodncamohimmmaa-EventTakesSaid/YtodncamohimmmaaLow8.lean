/-
  Texts of one sort, one behind the other: numbers, memory, regions, strings, headers. Conditions: those that each theorem states.
-/
import Derived.Test.YtodncamohimmmaaLow1
import Derived.Test.YtodncamohimmmaaLow2
import Derived.Maps.OwnSet
import Derived.Lib.LazyBuf
import Derived.Test.YtodncamohimmmaaEvRound

namespace Go.Proofs.Ytodncamohimmmaa
open Go.RowKit Go.Lib Leb

theorem OwnsT.low {w : World} {base base' : Nat} {v : Value} {l : List (List UInt8)} (h : OwnsT w base v l) (hB : base' ≤ base) : OwnsT w base' v l := by
  refine ⟨h.1, ?_⟩
  rcases h.2 with hn | ⟨g, cap, cur, e1, hb, rest⟩
  · exact .inl hn
  · exact .inr ⟨g, cap, cur, e1, Nat.le_trans hB hb, rest⟩

section
variable {P : Program} {w : World}
theorem run_append_texts (base : Nat) (t ty : TypeId) (i : TypeInfo) (ht : P.underlying t = some (.slice 9)) (hi : P.info? 9 = some i) (hz : i.zero = some (.string ByteArray.empty)) (hs : i.size = 1) (hb : i.bytes = 16)
    {v : Value} {xs : List (List UInt8)} (hown : OwnsT w base v xs) {u : Value} {l : List (List UInt8)} {b0 : Nat} (h : OwnsT w b0 u l) (hlim : xs.length + l.length ≤ 1000000000) (hbase : base ≤ w.heap.size) :
    ∃ v' w', (Builtin.append_ #[t, t] ty #[v, u]).run P w = .ok v' w' ∧ OwnsT w' base v' (xs ++ l) ∧ w.grownBy w' v.ownBlock ∧ (v'.ownBlock = v.ownBlock ∨ v'.ownBlock = some w.heap.size) := by
  have hr := h.2
  rcases hr with ⟨rfl, h0⟩ | ⟨g, cap, cur, rfl, hg, hgg, hn, hm, _, _⟩
  · have hl : l = [] := List.eq_nil_of_length_eq_zero h0
    subst hl
    exact ⟨v, w, run_append_owned_none (P := P) w base t ty _ i 1 ht hi v _ _ hown, by simpa using hown, World.grownBy.refl w _, .inl rfl⟩
  · have hcs : ∀ j x, (l.map fun p => Value.string (mk p))[j]? = some x → w.cell? ((⟨g, 0, Option.none⟩ : Addr).add j) = some x := World.ownsRow.cells h (g := g) rfl
    have h63 : xs.length + l.length ≤ maxLen := by simp only [maxLen]; omega
    obtain ⟨v', w', hrun, h2, h3, _, h5⟩ := run_append_own_at (P := P) w base t ty _ i _ 1 16 ht hi hz hs hb rfl (by omega) v _ _ hown ⟨g, 0, Option.none⟩ l.length cap (l.map fun p => Value.string (mk p)) (by simp) hcs (fun x hx => by obtain ⟨y, _, rfl⟩ := List.mem_map.1 hx; rfl) h63 (by omega) hbase
    refine ⟨v', w', hrun, ?_, h3, h5⟩
    unfold OwnsT
    rw [List.length_append, List.map_append]
    exact h2
theorem wpList_append_texts {ops : Array Oper} {rest : List Oper} {o : Oper} {a : Act} {Q : Exit → Act → World → Prop} (hgd : o.guard = Option.none) (s x : Operand) (t : TypeId)
    (ho : o.op = .call { callee := .builtin .append, args := #[s, x], argTypes := #[t, t] })
    (base : Nat) (i : TypeInfo) (ht : P.underlying t = some (.slice 9)) (hi : P.info? 9 = some i) (hz : i.zero = some (.string ByteArray.empty)) (hz1 : i.size = 1) (hz2 : i.bytes = 16)
    (v : Value) (xs : List (List UInt8)) (hs : a.eval s = v) (hown : OwnsT w base v xs) (u : Value) (l : List (List UInt8)) (b0 : Nat) (hx : a.eval x = u) (h : OwnsT w b0 u l)
    (hlim : xs.length + l.length ≤ 1000000000) (hbase : base ≤ w.heap.size)
    (hK : ∀ v' w', OwnsT w' base v' (xs ++ l) → w.grownBy w' v.ownBlock → (v'.ownBlock = v.ownBlock ∨ v'.ownBlock = some w.heap.size) → wpList P ops Q rest (a.put o.dst v') w') : wpList P ops Q (o :: rest) a w :=
  wpList_plain hgd fun _ hK' => by
    obtain ⟨v', w', hrun, h2, h3, h4⟩ := run_append_texts (P := P) base t o.type i ht hi hz hz1 hz2 hown h hlim hbase
    unfold Oper.wp execOp
    simp only [ho, resolve, invoke, builtin, Sem.run_bind, Sem.run_pure, Result.andThen_ok, List.map_toArray, List.map_cons, List.map_nil, hs, hx, hrun]
    exact hK' _ _ (hK v' w' h2 h3 h4)
end

theorem owns_texts (w : World) (l : List (List UInt8)) (hm : l.length ≤ maxLen) (cs : Array Value) (hcs : cs = (l.map fun p => Value.string (mk p)).toArray) : OwnsT (w.alloc (.cells cs 9)) w.heap.size (.slice (some ⟨w.heap.size, 0, Option.none⟩) l.length l.length) l := by
  subst hcs
  have := World.ownsRow_lit (base := w.heap.size) (size := 1) (e := 9) w (l.map fun p => Value.string (mk p)).toArray l.length (Nat.le_refl _) hm (by simp)
  simpa [OwnsT] using this
theorem OwnsT.off {w : World} {S : Nat → Prop} {base : Nat} {v : Value} {l : List (List UInt8)} (h : OwnsT w base v l) (hS : ∀ j, S j → j < base) : OffV S v := fun g hg hs => by
  have := (World.ownsRow.lt h g hg).1
  have := hS g hs
  omega
theorem OwnsT.lt {w : World} {base : Nat} {v : Value} {l : List (List UInt8)} (h : OwnsT w base v l) {g : Nat} (hg : v.ownBlock = some g) : base ≤ g ∧ g < w.heap.size := World.ownsRow.lt h g hg

structure Apar (B : Nat) (T : Nat → Prop) (W0 W : World) (r : Value) (Y : List Int) : Prop where
  own : Owns W B 5 r Y
  off : OffV T r
  alt : Alt W0 W (fun k => B ≤ k ∧ ¬ T k)
section
variable {B : Nat} {T : Nat → Prop} {W0 W W1 W2 : World} {r r' : Value} {Y Y' : List Int}
theorem Apar.app (h : Apar B T W0 W r Y) (hT : ∀ k, T k → k < W0.heap.size) (hb : Below W.heap.size W W1) (hown : Owns W2 B 5 r' Y') (hg : W1.grownBy W2 r.ownBlock)
    (hat : r'.ownBlock = r.ownBlock ∨ r'.ownBlock = some W1.heap.size) : Apar B T W0 W2 r' Y' := by
  refine ⟨hown, fun g hg' ht => ?_, (h.alt.behind hb).trans (alt_grown hg (S := fun k => B ≤ k ∧ ¬ T k) fun k hk => ⟨(h.own.2.lt k hk).1, h.off k hk⟩) fun _ _ h => h⟩
  rcases hat with hat | hat
  · exact h.off g (by rw [← hat, hg']) ht
  · rw [hat] at hg'
    injection hg' with hg'
    have h1 := hT g ht
    have h2 := h.alt.size
    have h3 := hb.size
    omega
theorem Apar.own1 (h : Apar B T W0 W r Y) (hb : Below W.heap.size W W1) : Owns W1 B 5 r Y := h.own.kept hb (Nat.le_refl _)
theorem Apar.size (h : Apar B T W0 W r Y) : W0.heap.size ≤ W.heap.size := h.alt.size
end
end Go.Proofs.Ytodncamohimmmaa

namespace Go.Proofs.Ytodncamohimmmaa
open Go.RowKit Go.Maps

structure TabOf {H : Type} (q : IntKind) (D : DataW H) (l : List (List UInt8)) : Prop where
  map : IsMap D
  has : ∀ s, Maps.has D (.string s) = decide (numT l s ≠ 0)
  num : ∀ s, numT l s ≠ 0 → D.atKey (.string s) (.lit (.int q 0)) = .lit (.int q (numT l s))

theorem tab_nil {H : Type} (q : IntKind) : TabOf q (.map [] : DataW H) [] := ⟨isMap_empty, fun s => by simp [Maps.has, numT], fun s h => absurd rfl h⟩

theorem isKey_string (s : List UInt8) : WideAt.IsKeyLit (.string s) := by simp [WideAt.IsKeyLit]

theorem TabOf.put {H : Type} {q : IntKind} {D : DataW H} {l : List (List UInt8)} (h : TabOf q D l) {s : List UInt8} (hs : numT l s = 0) : TabOf q (D.put (.string s) (.lit (.int q ((l.length + 1 : Nat) : Int)))) (l ++ [s]) := by
  refine ⟨h.map.put _ _, fun x => ?_, fun x hx => ?_⟩
  · by_cases e : x = s
    · subst e
      rw [has_put_same h.map (isKey_string x), numT_snoc_new hs]
      simp
    · rw [has_put_other (fun e' => e (by injection e')), h.has, numT_snoc_other l e]
  · by_cases e : x = s
    · subst e
      rw [atKey_put_same h.map (isKey_string x), numT_snoc_new hs]
    · rw [numT_snoc_other l e] at hx ⊢
      rw [atKey_put_other (fun e' => e (by injection e')), h.num x hx]
end Go.Proofs.Ytodncamohimmmaa

namespace Go.Proofs.Ytodncamohimmmaa
open Go.RowKit Go.Lib Leb

def convW (W : World) (s : ByteArray) : World := W.drew.alloc (.cells (bytesRow s (grownCap W s.size 0 5)) 5 ((bytesRow s (grownCap W s.size 0 5)).size, (bytesRow s (grownCap W s.size 0 5)).size + 1))
def convC (W : World) (s : ByteArray) : Nat := grownCap W s.size 0 5

theorem run_conv (W : World) (s : ByteArray) : (convert 9 43 (.string s)).run Try.prog W = .ok (.slice (some ⟨W.heap.size, 0, Option.none⟩) s.size (convC W s)) (convW W s) :=
  run_bytes_of_string (P := Try.prog) W 9 43 5 s Try.underlying9 Try.underlying43 Try.underlying5
theorem convW_below (W : World) (s : ByteArray) : Below W.heap.size W (convW W s) := by
  have h : Below W.heap.size W W.drew := (Below.refl _ W).drew
  exact h.alloc (Nat.le_refl _) _
theorem holds_conv (W : World) (s : ByteArray) (hs : s.size ≤ maxLen) : Holds (convW W s) (some ⟨W.heap.size, 0, Option.none⟩) s.size (convC W s) (nums s.data.toList) := by
  have hd : W.drew.heap.size = W.heap.size := rfl
  refine ⟨by rw [nums_len, size_len], nums_bytes _, grownCap_ge W s.size 0 5, grownCap_le_maxLen W s.size 0 5 hs, (fun e => by cases e), fun _ => ⟨W.heap.size, 0, rfl, fun j hj => ?_⟩⟩
  have h1 : (convW W s).cell? ⟨W.drew.heap.size, 0 + j, Option.none⟩ = _ := World.cell?_alloc_mark ..
  rw [hd] at h1
  rw [h1, Nat.zero_add, bytesRow_at s _ j hj]
  have hj' : j < s.data.toList.length := by rw [← size_len]; exact hj
  simp [nums, List.getElem?_eq_getElem hj']

theorem text_of (q : List Int) : strOfNums q = mk (ltrs q) := by
  have h : (strOfNums q).toList = (mk (ltrs q)).toList := by
    rw [strOfNums_toList, ByteArray.toList_eq, mk_list]
    rfl
  rw [ByteArray.toList_eq, ByteArray.toList_eq] at h
  have h2 := congrArg mk h
  rwa [mk_of, mk_of] at h2

theorem run_mid (w : World) (A : Option Addr) (n c : Nat) (l : List Int) (h : Holds w A n c l) (i j : Nat) (x y : Int) (hx : x = i) (hy : y = j) (h1 : i ≤ j) (h2 : j ≤ n) :
    ∃ A' c', (Instr.sliceAt 43 (.slice A n c) (some (.int .i64 x)) (some (.int .i64 y)) Option.none).run Try.prog w = .ok (.slice A' (j - i) c') w ∧ Holds w A' (j - i) c' ((l.drop i).take (j - i)) := by
  subst hx
  subst hy
  have hcap := h.cap
  have hroom := h.room
  have f2 : (0 : Int) ≤ (i : Int) := by omega
  have f3 : (0 : Int) ≤ (j : Int) := by omega
  have f4 : (i : Int) ≤ (j : Int) := by omega
  have f5 : (j : Int) ≤ (c : Int) := by omega
  refine ⟨if c = i then A else A.map (·.add (i * 1)), c - i, by go_simp, ?_⟩
  by_cases hci : c = i
  · rw [if_pos hci]
    have e : j - i = 0 := by omega
    rw [e]
    exact holds_empty w A (c - i) (by omega) (fun e => by have := h.bare e; omega)
  · rw [if_neg hci]
    cases hA : A with
    | none => exact absurd (h.bare hA) (by omega)
    | some a =>
      by_cases hp : 0 < j - i
      · obtain ⟨b, off, e, hc⟩ := h.cell (by omega)
        rw [hA] at e
        injection e with e
        subst e
        have hb := (Holds.back (b := b) (off := off) (hA ▸ h) (k := i) (by omega)).front (k := j - i) (by omega)
        have e1 : ((some (⟨b, off, Option.none⟩ : Addr)).map (·.add (i * 1))) = some ⟨b, off + i, Option.none⟩ := by
          show some (Addr.add _ _) = _
          rw [addr_add, Nat.mul_one]
        rw [e1]
        exact hb
      · have e : j - i = 0 := by omega
        rw [e]
        exact holds_empty w _ (c - i) (by omega) (fun e => by cases e)
end Go.Proofs.Ytodncamohimmmaa

namespace Go.Proofs.Ytodncamohimmmaa
open Go.RowKit Go.Lib Leb

structure RT (w : World) (b : Nat) (v : Value) (l : List (List UInt8)) : Prop where
  blk : w.heap[b]? = some (.cells #[v] 70 (0, 0))
  own : OwnsT w 0 v l
  ne : v.ownBlock ≠ some b
def inR (b : Nat) (v : Value) (k : Nat) : Prop := k = b ∨ v.ownBlock = some k

section
variable {w w' : World} {b : Nat} {v : Value} {l : List (List UInt8)}
theorem RT.lt (h : RT w b v l) : b < w.heap.size := (Array.getElem?_eq_some_iff.1 h.blk).1
theorem RT.low (h : RT w b v l) : ∀ k, inR b v k → k < w.heap.size := fun k hk => by
  rcases hk with rfl | hk
  · exact h.lt
  · exact (h.own.lt hk).2
theorem RT.cell (h : RT w b v l) : w.cell? ⟨b, 0, Option.none⟩ = some v := by rw [cell_of_row w _ 0 _ _ _ h.blk]; rfl
theorem RT.free (h : RT w b v l) : w.frozen? ⟨b, 0, Option.none⟩ = false := frozen_of_row w _ 0 _ _ h.blk
theorem RT.alt {S : Nat → Prop} (h : RT w b v l) (ha : Alt w w' S) (hS : ∀ k, inR b v k → ¬ S k) : RT w' b v l :=
  ⟨(ha.block b h.lt (hS b (.inl rfl))).trans h.blk, h.own.alt ha fun g hg => hS g (.inr hg), h.ne⟩
theorem RT.later (h : RT w b v l) (hb : Below w.heap.size w w') : RT w' b v l := h.alt (alt_below hb fun _ => False) fun _ _ h => h
theorem RT.put {W : World} {u : Value} {l' : List (List UInt8)} (h : RT w b v l) (hb : Below w.heap.size w W) (ho : OwnsT W w.heap.size u l') :
    RT (W.setCell ⟨b, 0, Option.none⟩ u) b u l' ∧ Alt w (W.setCell ⟨b, 0, Option.none⟩ u) (fun k => k = b) ∧ ∀ k, inR b u k → k = b ∨ w.heap.size ≤ k := by
  have hne : u.ownBlock ≠ some b := fun e => by have := (ho.lt e).1; have := h.lt; omega
  refine ⟨⟨heap_setCell_same W b 0 _ _ u ((hb.block b h.lt).trans h.blk), ?_, hne⟩, ?_, fun k hk => ?_⟩
  · exact (ho.alt (alt_set W ⟨b, 0, Option.none⟩ u (S := fun k => k = b) rfl) fun g hg e => hne (by rw [hg, e])).low (Nat.zero_le _)
  · exact (alt_below hb _).trans (alt_set W ⟨b, 0, Option.none⟩ u (S := fun k => k = b) rfl) fun _ _ e => e
  · rcases hk with rfl | hk
    · exact .inl rfl
    · exact .inr (ho.lt hk).1
end

set_option maxHeartbeats 2000000 in
set_option maxRecDepth 100000 in
theorem refAt_any (b : Nat) (v : Value) (l : List (List UInt8)) (p : List UInt8) (w : World) (h : RT w b v l) (hl : l.length ≤ 1000000) :
    Calls Try.prog 52 #[.pointer (some ⟨b, 0, Option.none⟩), .string (mk p)] w fun e w' => e = .returned (.int .i64 (numT l p)) ∧ w = w' := by
  obtain ⟨A, c, rfl, hT⟩ := h.own.texts
  obtain ⟨n, hn⟩ : ∃ n, n = l.length := ⟨_, rfl⟩
  have hc0 := h.cell
  rw [← hn] at hc0 hT hl
  have hT' := Lib.hid hT
  have hn' := Lib.hid hn
  have hp' := Lib.hid (fun a => text_eq a p)
  obtain ⟨s, hs⟩ : ∃ s, s = mk p := ⟨_, rfl⟩
  rw [← hs] at hp' ⊢
  obtain ⟨r, hr⟩ : ∃ r, r = numT l p := ⟨_, rfl⟩
  rw [← hr]
  have hr' := Lib.hid hr
  clear hT hn h hs hr
  go_enter Try.func52, Try.ntmps52
  go_wp2
  go_loop [5] (fun i => ∃ k : Nat, k ≤ n ∧ i = .int .i64 k ∧ ∀ j, j < k → l[j]? ≠ some p) (fun i => n - (RowKit.intOf i).toNat)
  case atStart => exact ⟨0, Nat.zero_le _, rfl, fun j hj => absurd hj (by omega)⟩
  case round =>
    obtain ⟨k, hk, rfl, hno⟩ := hrel
    have hno' := Lib.hid hno
    clear hno
    by_cases hkn : k < n
    · obtain ⟨g, rfl, _, hcs⟩ := hT'.out.cell (by omega)
      have h1 := hcs k hkn
      clear hcs
      have hlk : k < l.length := by rw [← hn'.out]; exact hkn
      obtain ⟨y, hy⟩ : ∃ y, l[k]? = some y := ⟨_, List.getElem?_eq_getElem hlk⟩
      rw [hy, Option.getD_some] at h1
      have hy' := Lib.hid hy
      have hq := Lib.hid (hp'.out y)
      clear hlk hy
      by_cases he : y = p
      · have hq1 : ((mk y).toList == s.toList) = true := by rw [hq.out, decide_eq_true he]
        have he' := Lib.hid he
        clear he
        generalize mk y = x at h1 hq1 hq
        go_wp2
        go_ret
        refine ⟨ret_int ?_, rfl⟩
        rw [hr'.out, numT_first l p k hno'.out (by rw [hy'.out, he'.out])]
        simp
      · have hq1 : ((mk y).toList == s.toList) = false := by rw [hq.out, decide_eq_false he]
        have he' := Lib.hid he
        clear he
        generalize mk y = x at h1 hq1 hq
        go_wp2
        go_round
        case rel =>
          refine ⟨k + 1, by omega, by go_num, fun j hj e => ?_⟩
          by_cases ej : j = k
          · subst ej
            rw [hy'.out] at e
            exact he'.out (Option.some.inj e)
          · exact hno'.out j (by omega) e
        case measure => simp [RowKit.intOf]; omega
    · obtain rfl : k = n := by omega
      go_wp2
      go_ret
      refine ⟨ret_int ?_, rfl⟩
      rw [hr'.out, numT_none fun j hj => hno'.out j (by rw [hn'.out]; exact hj)]
      rfl
end Go.Proofs.Ytodncamohimmmaa

namespace Go.Proofs.Ytodncamohimmmaa
open Go.RowKit Go.Lib Leb

structure RPut (w w' : World) (b : Nat) (v u : Value) (l' : List (List UInt8)) : Prop where
  tab : RT w' b u l'
  alt : Alt w w' (fun k => k = b)
  new : ∀ k, inR b u k → inR b v k ∨ w.heap.size ≤ k

set_option maxHeartbeats 4000000 in
set_option maxRecDepth 100000 in
theorem refPut_old (b : Nat) (v : Value) (l : List (List UInt8)) (A : Option Addr) (n c : Nat) (X : List Int) (p : List UInt8) (w : World) (h : RT w b v l) (hl : l.length ≤ 1000000) (hX : Holds w A n c X) (hn : n + p.length ≤ 140737488000000) (hp : numT l p ≠ 0) :
    Calls Try.prog 38 #[.pointer (some ⟨b, 0, Option.none⟩), .slice A n c, .string (mk p)] w fun e w' => ∃ r, e = .returned r ∧ Owns w' w.heap.size 5 r (X ++ enc (numT l p)) ∧ Below w.heap.size w w' := by
  obtain ⟨i0, hi, hz0, hz1, hz2⟩ := info_parts Try.info8
  have h0 := Lib.hid (owns_lit w w.heap.size 5 #[] [] rfl Bytes.nil (by simp) (Nat.le_refl _))
  have hX' := Lib.hid hX
  have hXn := Lib.hid hX.len
  have hR := Lib.hid h
  have hnum := numT_le l p
  have hat := Lib.hid (fun W hW => refAt_any b v l p W (h.later hW) hl)
  obtain ⟨k, hk⟩ : ∃ k, k = numT l p := ⟨_, rfl⟩
  rw [← hk] at hp hnum ⊢
  rw [← hk] at hat
  have hk0 : 0 < k := by omega
  have hU : U64 k := by unfold U64; omega
  have hwr := wrap_of hU
  have hby := Lib.hid (fun W => bytes_any k W hU)
  obtain ⟨s, hs⟩ : ∃ s, s = mk p := ⟨_, rfl⟩
  rw [← hs]
  rw [← hs] at hat
  have hszk := Lib.hid (show (enc k).length ≤ 10 from size_le10 hU)
  clear h hX hs hU hk
  go_enter Try.func38, Try.ntmps38
  go_wp2_with (first
    | (at_builtin; refine wpList_append_bytes rfl (.tmp 9) (.tmp 10) 43 rfl w.heap.size 5 i0 Try.underlying43 hi hz0 hz1 hz2 _ [] rfl h0.out A n c X rfl (hX'.out.alloc _) (by simp; omega) (by simp) ?_; intro v1 w1 hown1 hg1 _; have hb1 := Lib.hid (below_own ((Below.refl _ w).alloc (Nat.le_refl _) _) h0.out hg1 (by simp)); rw [List.nil_append] at hown1; replace hown1 := Lib.hid hown1; clear hg1)
    | (go_at_call 52; refine (hat.out _ hb1.out).mono ?_; rintro e w' ⟨rfl, hw⟩; subst hw)
    | (go_at_call 37; refine (hby.out _).mono ?_; rintro e w2 ⟨v2, rfl, hown2, hb2⟩; have hb2' := Lib.hid hb2; obtain ⟨A2, c2, rfl, hH2⟩ := hown2.holds; have hH2' := Lib.hid hH2; clear hb2 hown2 hH2)
    | (at_builtin; refine wpList_append_bytes rfl (.tmp 17) (.tmp 20) 43 rfl w.heap.size 5 i0 Try.underlying43 hi hz0 hz1 hz2 _ X rfl (hown1.out.kept hb2'.out (Nat.le_refl _)) A2 _ c2 (enc k) rfl hH2'.out (by have := hXn.out; have := hszk.out; omega) (Nat.le_trans hb1.out.size hb2'.out.size) ?_; intro v3 w3 hown3 hg3 _; have hb3 := Lib.hid (below_own (below_then hb1.out hb2'.out) (hown1.out.kept hb2'.out (Nat.le_refl _)) hg3 (Nat.le_trans hb1.out.size hb2'.out.size)); replace hown3 := Lib.hid hown3; clear hg3))
  go_ret
  exact ⟨_, rfl, hown3.out, hb3.out⟩

theorem RPut.of_apar {w w4 W : World} {b : Nat} {v u r : Value} {l' : List (List UInt8)} {Y : List Int} (h : RPut w w4 b v u l') (ha : Apar w.heap.size (inR b u) w4 W r Y) : RPut w W b v u l' :=
  ⟨h.tab.alt ha.alt fun _ hk hs => hs.2 hk, h.alt.trans ha.alt fun j hj hs => absurd hs.1 (by omega), h.new⟩

theorem zero_new (W : World) (g : Nat) (hg : g = W.heap.size) : Holds (W.alloc (.cells #[.int .u8 0] 5)) (some ⟨g, 0, Option.none⟩) 1 1 [0] := by
  subst hg
  exact holds_new W 5 #[.int .u8 0] [0] rfl (by intro x hx; simp at hx; omega) (by simp [maxLen])
theorem apar_put {w w1 w3 : World} {b : Nat} {v1 u : Value} {X : List Int} {l' : List (List UInt8)} (h1 : Owns w1 w.heap.size 5 v1 X) (hb3 : Below w1.heap.size w1 w3) (hu : OwnsT w3 w1.heap.size u l') (hb : b < w.heap.size) :
    Apar w.heap.size (inR b u) (w3.setCell ⟨b, 0, Option.none⟩ u) (w3.setCell ⟨b, 0, Option.none⟩ u) v1 X := by
  refine ⟨(h1.kept hb3 (Nat.le_refl _)).alt (alt_set w3 ⟨b, 0, Option.none⟩ u (S := fun k => k = b) rfl) (h1.off fun j hj => by rw [hj]; exact hb), fun g hg ht => ?_, alt_refl _ _⟩
  have h2 := h1.2.lt g hg
  rcases ht with ht | ht
  · omega
  · have h3 := hu.lt ht
    omega
theorem OwnsT.slice {w : World} {base : Nat} {v : Value} {l : List (List UInt8)} (h : OwnsT w base v l) : ∃ A n c, v = .slice A n c := by
  obtain ⟨A, c, rfl, _⟩ := h.texts
  exact ⟨_, _, _, rfl⟩
theorem RPut.made {w w1 w3 : World} {b : Nat} {v u : Value} {l l' : List (List UInt8)} (h : RT w b v l) (hb1 : Below w.heap.size w w1) (hb3 : Below w1.heap.size w1 w3) (hu : OwnsT w3 w1.heap.size u l') :
    RPut w (w3.setCell ⟨b, 0, Option.none⟩ u) b v u l' := by
  obtain ⟨h1, h2, h3⟩ := h.put (below_then hb1 hb3) (hu.low hb1.size)
  exact ⟨h1, h2, fun k hk => (h3 k hk).imp (fun e => .inl e) id⟩

set_option maxHeartbeats 8000000 in
set_option maxRecDepth 100000 in
theorem refPut_new (b : Nat) (v : Value) (l : List (List UInt8)) (A : Option Addr) (n c : Nat) (X : List Int) (p : List UInt8) (w : World) (h : RT w b v l) (hl : l.length ≤ 1000000) (hX : Holds w A n c X) (hn : n + p.length ≤ 140737488000000) (hp : numT l p = 0) :
    Calls Try.prog 38 #[.pointer (some ⟨b, 0, Option.none⟩), .slice A n c, .string (mk p)] w fun e w' => ∃ r u, e = .returned r ∧ Owns w' w.heap.size 5 r (X ++ (0 :: enc p.length ++ nums p)) ∧ OffV (inR b u) r ∧ RPut w w' b v u (l ++ [p]) := by
  obtain ⟨i0, hi, hz0, hz1, hz2⟩ := info_parts Try.info8
  obtain ⟨i9, hj, hy0, hy1, hy2⟩ := info_parts Try.info9
  have h0 := Lib.hid (owns_lit w w.heap.size 5 #[] [] rfl Bytes.nil (by simp) (Nat.le_refl _))
  have hX' := Lib.hid hX
  have hXn := Lib.hid hX.len
  have hR := Lib.hid h
  have hat := Lib.hid (fun W hW => refAt_any b v l p W (h.later hW) hl)
  rw [hp] at hat
  have hl' := Lib.hid hl
  have hn' := Lib.hid hn
  have hbsz := h.lt
  obtain ⟨Av, cv, rfl, hTv⟩ := h.own.texts
  have hconv := fun W => run_conv W (mk p)
  have hsz : (mk p).size = p.length := mk_size p
  have hU : U64 p.length := by unfold U64; omega
  have hwr := wrap_of hU
  have hby := Lib.hid (fun W => bytes_any p.length W hU)
  have hszk := Lib.hid (show (enc p.length).length ≤ 10 from size_le10 hU)
  have hcv := Lib.hid (fun W => holds_conv W (mk p) (by rw [hsz]; simp only [maxLen]; omega))
  have hlit := Lib.hid (fun W => owns_texts W [p] (by simp [maxLen]) #[.string (mk p)] rfl)
  have hnil := Lib.hid (fun W => owns_texts W [] (by simp) #[] rfl)
  have hzero := Lib.hid (zero_new)
  rw [mk_list] at hcv
  obtain ⟨m, hm⟩ : ∃ m, m = p.length := ⟨_, rfl⟩
  rw [← hm] at hsz hwr hby hszk hn hU
  rw [hsz] at hcv hconv
  have hmi : (m : Int) ≤ 9223372036854775807 := by omega
  have hm' := Lib.hid hm
  obtain ⟨s, hs⟩ : ∃ s, s = mk p := ⟨_, rfl⟩
  rw [← hs]
  rw [← hs] at hat hconv hsz hcv hlit
  clear h hX hs hU hTv hl hp hm
  go_enter Try.func38, Try.ntmps38
  go_wp2_with (first
    | (at_builtin; refine wpList_append_bytes rfl (.tmp 9) (.tmp 10) 43 rfl w.heap.size 5 i0 Try.underlying43 hi hz0 hz1 hz2 _ [] rfl h0.out A n c X rfl (hX'.out.alloc _) (by simp; omega) (by simp) ?_; intro v1 w1 hown1 hg1 _; have hb1 := Lib.hid (below_own ((Below.refl _ w).alloc (Nat.le_refl _) _) h0.out hg1 (by simp)); rw [List.nil_append] at hown1; replace hown1 := Lib.hid hown1; clear hg1; have hR1 := Lib.hid (hR.out.later hb1.out); have hc1 := (hR1.out.later (below_box w1 (.cells #[] 9))).cell)
    | (go_at_call 52; refine (hat.out _ hb1.out).mono ?_; rintro e w' ⟨rfl, hw⟩; subst hw)
    | (at_builtin; refine wpList_append_texts rfl (.tmp 23) (.tmp 27) 68 rfl w1.heap.size i9 Try.underlying68 hj hy0 hy1 hy2 _ [] rfl (hnil.out w1) _ l 0 rfl (hR1.out.own.alloc _) (by have := hl'.out; simp; omega) (by simp) ?_; intro v2 w2 hown2 hg2 _; have hb2 := Lib.hid (OwnsT.below (hnil.out w1) (below_box w1 _) hg2 (by simp)); rw [List.nil_append] at hown2; replace hown2 := Lib.hid hown2; clear hg2)
    | (at_builtin; refine wpList_append_texts rfl (.tmp 28) (.tmp 30) 68 rfl w1.heap.size i9 Try.underlying68 hj hy0 hy1 hy2 _ l rfl (hown2.out.alloc _) _ [p] w2.heap.size rfl (hlit.out w2) (by have := hl'.out; simp; omega) (Nat.le_trans hb2.out.size (by simp)) ?_; intro v3 w3 hown3 hg3 _; have hb3 := Lib.hid (OwnsT.below (hown2.out.alloc _) (hb2.out.alloc hb2.out.size _) hg3 (Nat.le_trans hb2.out.size (by simp))); replace hown3 := Lib.hid hown3; clear hg3; have hR3 := Lib.hid (hR1.out.later hb3.out); have hP := Lib.hid (RPut.made hR.out hb1.out hb3.out hown3.out); have hA0 := Lib.hid (apar_put hown1.out hb3.out hown3.out hbsz); obtain ⟨A3, n3, c3, rfl⟩ := hown3.out.slice; have hc3 := hR3.out.cell; have hf3 := hR3.out.free)
    | (at_builtin; refine wpList_append_bytes rfl (.tmp 34) (.tmp 35) 43 rfl w.heap.size 5 i0 Try.underlying43 hi hz0 hz1 hz2 _ X rfl (hA0.out.own1 (below_box _ _)) _ 1 1 [0] rfl (hzero.out _ _ (by simp [World.setCell])) (by have := hXn.out; omega) (Nat.le_trans hP.out.alt.size (below_box _ _).size) ?_; intro v5 w5 hown5 hg5 hat5; have hA1 := Lib.hid (hA0.out.app hP.out.tab.low (below_box _ _) hown5 hg5 hat5); clear hown5 hg5 hat5)
    | (go_at_call 37; refine (hby.out _).mono ?_; rintro e w6 ⟨v6, rfl, hown6, hb6⟩; have hb6' := Lib.hid hb6; obtain ⟨A6, c6, rfl, hH6⟩ := hown6.holds; have hH6' := Lib.hid hH6; clear hb6 hown6 hH6)
    | (at_builtin; refine wpList_append_bytes rfl (.tmp 36) (.tmp 40) 43 rfl w.heap.size 5 i0 Try.underlying43 hi hz0 hz1 hz2 _ (X ++ [0]) rfl (hA1.out.own1 hb6'.out) A6 _ c6 (enc m) rfl hH6'.out (by have := hXn.out; have := hszk.out; simp; omega) (by have := hA1.out.size; have := hP.out.alt.size; have := hb6'.out.size; omega) ?_; intro v7 w7 hown7 hg7 hat7; have hA2 := Lib.hid (hA1.out.app hP.out.tab.low hb6'.out hown7 hg7 hat7); clear hown7 hg7 hat7)
    | (at_builtin; refine wpList_append_bytes rfl (.tmp 42) (.tmp 44) 43 rfl w.heap.size 5 i0 Try.underlying43 hi hz0 hz1 hz2 _ (X ++ [0] ++ enc m) rfl (hA2.out.own1 (convW_below _ s)) _ m _ (nums p) rfl (hcv.out _) (by have := hXn.out; have := hszk.out; simp; omega) (by have := hA2.out.size; have := hP.out.alt.size; have := (convW_below w7 s).size; omega) ?_; intro v8 w8 hown8 hg8 hat8; have hA3 := Lib.hid (hA2.out.app hP.out.tab.low (convW_below w7 s) hown8 hg8 hat8); clear hown8 hg8 hat8))
  go_ret
  refine ⟨_, _, rfl, ?_, hA3.out.off, hP.out.of_apar hA3.out⟩
  have h9 := hA3.out.own
  rw [hm'.out] at h9
  simpa using h9

theorem RPut.same {w w' : World} {b : Nat} {v : Value} {l : List (List UInt8)} (h : RT w b v l) (hb : Below w.heap.size w w') : RPut w w' b v v l := ⟨h.later hb, alt_below hb _, fun _ hk => .inl hk⟩

theorem refPut19_any (b : Nat) (v : Value) (l : List (List UInt8)) (A : Option Addr) (n c : Nat) (X : List Int) (p : List UInt8) (w : World) (h : RT w b v l) (hl : l.length ≤ 1000000) (hX : Holds w A n c X) (hn : n + p.length ≤ 140737488000000) :
    Calls Try.prog 38 #[.pointer (some ⟨b, 0, Option.none⟩), .slice A n c, .string (mk p)] w fun e w' => ∃ r u, e = .returned r ∧ Owns w' w.heap.size 5 r (X ++ putB l p) ∧ OffV (inR b u) r ∧ RPut w w' b v u (putL l p) := by
  by_cases hp : numT l p = 0
  · rw [putB_new hp, putL_new hp]
    exact refPut_new b v l A n c X p w h hl hX hn hp
  · rw [putB_old hp, putL_old hp]
    refine (refPut_old b v l A n c X p w h hl hX hn hp).mono ?_
    rintro e w' ⟨r, rfl, hr, hb⟩
    exact ⟨r, v, rfl, hr, hr.off h.low, RPut.same h hb⟩
end Go.Proofs.Ytodncamohimmmaa

namespace Go.Proofs.Ytodncamohimmmaa
open Go.Lib Leb

def tv9 : Ev := { zev with kind := 5, tick := 5, n := 5 }
def fv9 : Ev := { zev with kind := 4, ses := 3, tick := 6 }
def gv9 : Ev := { zev with kind := 4, ses := 3, tick := 5 }
theorem good_tv : GoodE tv9 := by decide
theorem good_fv : GoodE fv9 := by decide
theorem good_gv : GoodE gv9 := by decide
def k1_9 : Bk := tellE newB tv9
def k2_9 : Bk := tellE k1_9 fv9
theorem enc_tv : encB newB tv9 = [5, 0, 5, 5] := by
  simp [encB, numsE, fieldsE, textsE, headB, tv9, zev, newB, encs, putsB, enc_small]
theorem enc_fv : encB k1_9 fv9 = [4, 3, 1] := by
  simp [encB, numsE, fieldsE, textsE, headB, fv9, tv9, zev, k1_9, tellE, encs, putsB, enc_small]
theorem ok_k1 : k1_9.Ok := Bk.Ok.new.tell good_tv
theorem tab_k1 : k1_9.tab = [] := rfl
theorem take_tv : takeE newB [5, 0, 5, 5, 4, 3, 1] 0 = ((tv9, 4, 0), k1_9) := by
  have h := takeE_put Bk.Ok.new (by simp [newB]) good_tv (by decide) (by decide) [] [4, 3, 1]
  rw [enc_tv] at h
  exact h
theorem take_fv : takeE k1_9 [5, 0, 5, 5, 4, 3, 1] 4 = ((fv9, 7, 0), k2_9) := by
  have h := takeE_put ok_k1 (by rw [tab_k1]; simp) good_fv (by decide) (by decide) [5, 0, 5, 5] []
  rw [enc_fv] at h
  exact h
theorem late_gv : gv9.tick < k2_9.tick := by decide
end Go.Proofs.Ytodncamohimmmaa
