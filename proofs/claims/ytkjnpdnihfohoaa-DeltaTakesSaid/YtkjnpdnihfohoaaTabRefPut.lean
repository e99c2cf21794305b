/-
  The reference's Put of layer 19. Conditions: those that each theorem states.
-/
import Derived.Test.YtkjnpdnihfohoaaTabRef
import Derived.Test.YtkjnpdnihfohoaaTabConv
import Derived.Test.YtkjnpdnihfohoaaPut
namespace Go.Proofs.Ytkjnpdnihfohoaa
open Go.RowKit Go.Lib Leb

/-- What the reference's Put and Take leave behind, the table at block b. -/
structure RPut (w w' : World) (b : Nat) (v u : Value) (l' : List (List UInt8)) : Prop where
  tab : RT w' b u l'
  alt : Alt w w' (fun k => k = b)
  new : ∀ k, inR b u k → inR b v k ∨ w.heap.size ≤ k

set_option maxHeartbeats 4000000 in
set_option maxRecDepth 100000 in
theorem refPut_old (b : Nat) (v : Value) (l : List (List UInt8)) (A : Option Addr) (n c : Nat) (X : List Int) (p : List UInt8) (w : World) (h : RT w b v l) (hl : l.length ≤ 1000000) (hX : Holds w A n c X) (hn : n + p.length ≤ 140737488000000) (hp : numT l p ≠ 0) :
    Calls Try.prog 21 #[.pointer (some ⟨b, 0, Option.none⟩), .slice A n c, .string (mk p)] w fun e w' => ∃ r, e = .returned r ∧ Owns w' w.heap.size 5 r (X ++ enc (numT l p)) ∧ Below w.heap.size w w' := by
  obtain ⟨i0, hi, hz0, hz1, hz2⟩ := info_parts Try.info8
  have h0 := Lib.hid (owns_lit w w.heap.size 5 #[] [] rfl Bytes.nil (by simp) (Nat.le_refl _))
  have hX' := Lib.hid hX
  have hXn := Lib.hid hX.len
  have hR := Lib.hid h
  have hnum := numT_le l p
  have hat := Lib.hid (fun W hW => refAt_any b v l p W (h.later hW) hl)
  obtain ⟨k, hk⟩ : ∃ k, k = numT l p := ⟨_, rfl⟩
  rw [← hk] at hp hnum ⊢
  rw [← hk] at hat
  have hk0 : 0 < k := by omega
  have hU : U64 k := by unfold U64; omega
  have hwr := wrap_of hU
  have hby := Lib.hid (fun W => bytes_any k W hU)
  obtain ⟨s, hs⟩ : ∃ s, s = mk p := ⟨_, rfl⟩
  rw [← hs]
  rw [← hs] at hat
  have hszk := Lib.hid (show (enc k).length ≤ 10 from size_le10 hU)
  clear h hX hs hU hk
  go_enter Try.func21, Try.ntmps21
  go_wp2_with (first
    | (at_builtin; refine wpList_append_bytes rfl (.tmp 9) (.tmp 10) 22 rfl w.heap.size 5 i0 Try.underlying22 hi hz0 hz1 hz2 _ [] rfl h0.out A n c X rfl (hX'.out.alloc _) (by simp; omega) (by simp) ?_; intro v1 w1 hown1 hg1 _; have hb1 := Lib.hid (below_own ((Below.refl _ w).alloc (Nat.le_refl _) _) h0.out hg1 (by simp)); rw [List.nil_append] at hown1; replace hown1 := Lib.hid hown1; clear hg1)
    | (go_at_call 30; refine (hat.out _ hb1.out).mono ?_; rintro e w' ⟨rfl, hw⟩; subst hw)
    | (go_at_call 20; refine (hby.out _).mono ?_; rintro e w2 ⟨v2, rfl, hown2, hb2⟩; have hb2' := Lib.hid hb2; obtain ⟨A2, c2, rfl, hH2⟩ := hown2.holds; have hH2' := Lib.hid hH2; clear hb2 hown2 hH2)
    | (at_builtin; refine wpList_append_bytes rfl (.tmp 17) (.tmp 20) 22 rfl w.heap.size 5 i0 Try.underlying22 hi hz0 hz1 hz2 _ X rfl (hown1.out.kept hb2'.out (Nat.le_refl _)) A2 _ c2 (enc k) rfl hH2'.out (by have := hXn.out; have := hszk.out; omega) (Nat.le_trans hb1.out.size hb2'.out.size) ?_; intro v3 w3 hown3 hg3 _; have hb3 := Lib.hid (below_own (below_then hb1.out hb2'.out) (hown1.out.kept hb2'.out (Nat.le_refl _)) hg3 (Nat.le_trans hb1.out.size hb2'.out.size)); replace hown3 := Lib.hid hown3; clear hg3))
  go_ret
  exact ⟨_, rfl, hown3.out, hb3.out⟩

theorem RPut.of_apar {w w4 W : World} {b : Nat} {v u r : Value} {l' : List (List UInt8)} {Y : List Int} (h : RPut w w4 b v u l') (ha : Apar w.heap.size (inR b u) w4 W r Y) : RPut w W b v u l' :=
  ⟨h.tab.alt ha.alt fun _ hk hs => hs.2 hk, h.alt.trans ha.alt fun j hj hs => absurd hs.1 (by omega), h.new⟩

theorem zero_new (W : World) (g : Nat) (hg : g = W.heap.size) : Holds (W.alloc (.cells #[.int .u8 0] 5)) (some ⟨g, 0, Option.none⟩) 1 1 [0] := by
  subst hg
  exact holds_new W 5 #[.int .u8 0] [0] rfl (by intro x hx; simp at hx; omega) (by simp [maxLen])
theorem apar_put {w w1 w3 : World} {b : Nat} {v1 u : Value} {X : List Int} {l' : List (List UInt8)} (h1 : Owns w1 w.heap.size 5 v1 X) (hb3 : Below w1.heap.size w1 w3) (hu : OwnsT w3 w1.heap.size u l') (hb : b < w.heap.size) :
    Apar w.heap.size (inR b u) (w3.setCell ⟨b, 0, Option.none⟩ u) (w3.setCell ⟨b, 0, Option.none⟩ u) v1 X := by
  refine ⟨(h1.kept hb3 (Nat.le_refl _)).alt (alt_set w3 ⟨b, 0, Option.none⟩ u (S := fun k => k = b) rfl) (h1.off fun j hj => by rw [hj]; exact hb), fun g hg ht => ?_, alt_refl _ _⟩
  have h2 := h1.2.lt g hg
  rcases ht with ht | ht
  · omega
  · have h3 := hu.lt ht
    omega
theorem OwnsT.slice {w : World} {base : Nat} {v : Value} {l : List (List UInt8)} (h : OwnsT w base v l) : ∃ A n c, v = .slice A n c := by
  obtain ⟨A, c, rfl, _⟩ := h.texts
  exact ⟨_, _, _, rfl⟩
theorem RPut.made {w w1 w3 : World} {b : Nat} {v u : Value} {l l' : List (List UInt8)} (h : RT w b v l) (hb1 : Below w.heap.size w w1) (hb3 : Below w1.heap.size w1 w3) (hu : OwnsT w3 w1.heap.size u l') :
    RPut w (w3.setCell ⟨b, 0, Option.none⟩ u) b v u l' := by
  obtain ⟨h1, h2, h3⟩ := h.put (below_then hb1 hb3) (hu.low hb1.size)
  exact ⟨h1, h2, fun k hk => (h3 k hk).imp (fun e => .inl e) id⟩

set_option maxHeartbeats 8000000 in
set_option maxRecDepth 100000 in
theorem refPut_new (b : Nat) (v : Value) (l : List (List UInt8)) (A : Option Addr) (n c : Nat) (X : List Int) (p : List UInt8) (w : World) (h : RT w b v l) (hl : l.length ≤ 1000000) (hX : Holds w A n c X) (hn : n + p.length ≤ 140737488000000) (hp : numT l p = 0) :
    Calls Try.prog 21 #[.pointer (some ⟨b, 0, Option.none⟩), .slice A n c, .string (mk p)] w fun e w' => ∃ r u, e = .returned r ∧ Owns w' w.heap.size 5 r (X ++ (0 :: enc p.length ++ nums p)) ∧ OffV (inR b u) r ∧ RPut w w' b v u (l ++ [p]) := by
  obtain ⟨i0, hi, hz0, hz1, hz2⟩ := info_parts Try.info8
  obtain ⟨i9, hj, hy0, hy1, hy2⟩ := info_parts Try.info9
  have h0 := Lib.hid (owns_lit w w.heap.size 5 #[] [] rfl Bytes.nil (by simp) (Nat.le_refl _))
  have hX' := Lib.hid hX
  have hXn := Lib.hid hX.len
  have hR := Lib.hid h
  have hat := Lib.hid (fun W hW => refAt_any b v l p W (h.later hW) hl)
  rw [hp] at hat
  have hl' := Lib.hid hl
  have hn' := Lib.hid hn
  have hbsz := h.lt
  obtain ⟨Av, cv, rfl, hTv⟩ := h.own.texts
  have hconv := fun W => run_conv W (mk p)
  have hsz : (mk p).size = p.length := mk_size p
  have hU : U64 p.length := by unfold U64; omega
  have hwr := wrap_of hU
  have hby := Lib.hid (fun W => bytes_any p.length W hU)
  have hszk := Lib.hid (show (enc p.length).length ≤ 10 from size_le10 hU)
  have hcv := Lib.hid (fun W => holds_conv W (mk p) (by rw [hsz]; simp only [maxLen]; omega))
  have hlit := Lib.hid (fun W => owns_texts W [p] (by simp [maxLen]) #[.string (mk p)] rfl)
  have hnil := Lib.hid (fun W => owns_texts W [] (by simp) #[] rfl)
  have hzero := Lib.hid (zero_new)
  rw [mk_list] at hcv
  obtain ⟨m, hm⟩ : ∃ m, m = p.length := ⟨_, rfl⟩
  rw [← hm] at hsz hwr hby hszk hn hU
  rw [hsz] at hcv hconv
  have hmi : (m : Int) ≤ 9223372036854775807 := by omega
  have hm' := Lib.hid hm
  obtain ⟨s, hs⟩ : ∃ s, s = mk p := ⟨_, rfl⟩
  rw [← hs]
  rw [← hs] at hat hconv hsz hcv hlit
  clear h hX hs hU hTv hl hp hm
  go_enter Try.func21, Try.ntmps21
  go_wp2_with (first
    | (at_builtin; refine wpList_append_bytes rfl (.tmp 9) (.tmp 10) 22 rfl w.heap.size 5 i0 Try.underlying22 hi hz0 hz1 hz2 _ [] rfl h0.out A n c X rfl (hX'.out.alloc _) (by simp; omega) (by simp) ?_; intro v1 w1 hown1 hg1 _; have hb1 := Lib.hid (below_own ((Below.refl _ w).alloc (Nat.le_refl _) _) h0.out hg1 (by simp)); rw [List.nil_append] at hown1; replace hown1 := Lib.hid hown1; clear hg1; have hR1 := Lib.hid (hR.out.later hb1.out); have hc1 := (hR1.out.later (below_box w1 (.cells #[] 9))).cell)
    | (go_at_call 30; refine (hat.out _ hb1.out).mono ?_; rintro e w' ⟨rfl, hw⟩; subst hw)
    | (at_builtin; refine wpList_append_texts rfl (.tmp 23) (.tmp 27) 31 rfl w1.heap.size i9 Try.underlying31 hj hy0 hy1 hy2 _ [] rfl (hnil.out w1) _ l 0 rfl (hR1.out.own.alloc _) (by have := hl'.out; simp; omega) (by simp) ?_; intro v2 w2 hown2 hg2 _; have hb2 := Lib.hid (OwnsT.below (hnil.out w1) (below_box w1 _) hg2 (by simp)); rw [List.nil_append] at hown2; replace hown2 := Lib.hid hown2; clear hg2)
    | (at_builtin; refine wpList_append_texts rfl (.tmp 28) (.tmp 30) 31 rfl w1.heap.size i9 Try.underlying31 hj hy0 hy1 hy2 _ l rfl (hown2.out.alloc _) _ [p] w2.heap.size rfl (hlit.out w2) (by have := hl'.out; simp; omega) (Nat.le_trans hb2.out.size (by simp)) ?_; intro v3 w3 hown3 hg3 _; have hb3 := Lib.hid (OwnsT.below (hown2.out.alloc _) (hb2.out.alloc hb2.out.size _) hg3 (Nat.le_trans hb2.out.size (by simp))); replace hown3 := Lib.hid hown3; clear hg3; have hR3 := Lib.hid (hR1.out.later hb3.out); have hP := Lib.hid (RPut.made hR.out hb1.out hb3.out hown3.out); have hA0 := Lib.hid (apar_put hown1.out hb3.out hown3.out hbsz); obtain ⟨A3, n3, c3, rfl⟩ := hown3.out.slice; have hc3 := hR3.out.cell; have hf3 := hR3.out.free)
    | (at_builtin; refine wpList_append_bytes rfl (.tmp 34) (.tmp 35) 22 rfl w.heap.size 5 i0 Try.underlying22 hi hz0 hz1 hz2 _ X rfl (hA0.out.own1 (below_box _ _)) _ 1 1 [0] rfl (hzero.out _ _ (by simp [World.setCell])) (by have := hXn.out; omega) (Nat.le_trans hP.out.alt.size (below_box _ _).size) ?_; intro v5 w5 hown5 hg5 hat5; have hA1 := Lib.hid (hA0.out.app hP.out.tab.low (below_box _ _) hown5 hg5 hat5); clear hown5 hg5 hat5)
    | (go_at_call 20; refine (hby.out _).mono ?_; rintro e w6 ⟨v6, rfl, hown6, hb6⟩; have hb6' := Lib.hid hb6; obtain ⟨A6, c6, rfl, hH6⟩ := hown6.holds; have hH6' := Lib.hid hH6; clear hb6 hown6 hH6)
    | (at_builtin; refine wpList_append_bytes rfl (.tmp 36) (.tmp 40) 22 rfl w.heap.size 5 i0 Try.underlying22 hi hz0 hz1 hz2 _ (X ++ [0]) rfl (hA1.out.own1 hb6'.out) A6 _ c6 (enc m) rfl hH6'.out (by have := hXn.out; have := hszk.out; simp; omega) (by have := hA1.out.size; have := hP.out.alt.size; have := hb6'.out.size; omega) ?_; intro v7 w7 hown7 hg7 hat7; have hA2 := Lib.hid (hA1.out.app hP.out.tab.low hb6'.out hown7 hg7 hat7); clear hown7 hg7 hat7)
    | (at_builtin; refine wpList_append_bytes rfl (.tmp 42) (.tmp 44) 22 rfl w.heap.size 5 i0 Try.underlying22 hi hz0 hz1 hz2 _ (X ++ [0] ++ enc m) rfl (hA2.out.own1 (convW_below _ s)) _ m _ (nums p) rfl (hcv.out _) (by have := hXn.out; have := hszk.out; simp; omega) (by have := hA2.out.size; have := hP.out.alt.size; have := (convW_below w7 s).size; omega) ?_; intro v8 w8 hown8 hg8 hat8; have hA3 := Lib.hid (hA2.out.app hP.out.tab.low (convW_below w7 s) hown8 hg8 hat8); clear hown8 hg8 hat8))
  go_ret
  refine ⟨_, _, rfl, ?_, hA3.out.off, hP.out.of_apar hA3.out⟩
  have h9 := hA3.out.own
  rw [hm'.out] at h9
  simpa using h9

theorem RPut.same {w w' : World} {b : Nat} {v : Value} {l : List (List UInt8)} (h : RT w b v l) (hb : Below w.heap.size w w') : RPut w w' b v v l := ⟨h.later hb, alt_below hb _, fun _ hk => .inl hk⟩

theorem refPut19_any (b : Nat) (v : Value) (l : List (List UInt8)) (A : Option Addr) (n c : Nat) (X : List Int) (p : List UInt8) (w : World) (h : RT w b v l) (hl : l.length ≤ 1000000) (hX : Holds w A n c X) (hn : n + p.length ≤ 140737488000000) :
    Calls Try.prog 21 #[.pointer (some ⟨b, 0, Option.none⟩), .slice A n c, .string (mk p)] w fun e w' => ∃ r u, e = .returned r ∧ Owns w' w.heap.size 5 r (X ++ putB l p) ∧ OffV (inR b u) r ∧ RPut w w' b v u (putL l p) := by
  by_cases hp : numT l p = 0
  · rw [putB_new hp, putL_new hp]
    exact refPut_new b v l A n c X p w h hl hX hn hp
  · rw [putB_old hp, putL_old hp]
    refine (refPut_old b v l A n c X p w h hl hX hn hp).mono ?_
    rintro e w' ⟨r, rfl, hr, hb⟩
    exact ⟨r, v, rfl, hr, hr.off h.low, RPut.same h hb⟩
end Go.Proofs.Ytkjnpdnihfohoaa
