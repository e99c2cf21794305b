/-
  What the reference's Pack returns: the bytes in pieces, in memory of the call's own; nothing that was there is changed. Conditions: the slice reads as bytes, at most 1,000,000 of them; a table of numbers of 32 bits.
-/
import Derived.Test.YtaabhnjikggomaaChunkPack
import Derived.Test.YtaabhnjikggomaaRefHit
namespace Go.Proofs.Ytaabhnjikggomaa
open Go.RowKit Leb

/-- What is written when m parts are done. -/
def outsR (S : List Int → List Int) (s : List Int) (m : Nat) : List Int := (((List.range (min m (Chunk.many s))).map (Chunk.part s)).map (Chunk.piece S)).flatten
theorem outsR_step {S : List Int → List Int} {s : List Int} {m : Nat} (h : m < Chunk.many s) : outsR S s (m + 1) = outsR S s m ++ Chunk.piece S (Chunk.part s m) := by
  unfold outsR
  rw [show min (m + 1) (Chunk.many s) = m + 1 by omega, show min m (Chunk.many s) = m by omega]
  simp [List.range_succ]
theorem outsR_over {S : List Int → List Int} {s : List Int} {m m' : Nat} (h : Chunk.many s ≤ m) (h' : Chunk.many s ≤ m') : outsR S s m = outsR S s m' := by
  unfold outsR
  rw [show min m (Chunk.many s) = Chunk.many s by omega, show min m' (Chunk.many s) = Chunk.many s by omega]
theorem outsR_done {S : List Int → List Int} {s : List Int} {m : Nat} (h : Chunk.many s ≤ m) : outsR S s m ++ Chunk.piece S [] = Chunk.pack S s := by
  unfold outsR Chunk.pack Chunk.parts
  rw [show min m (Chunk.many s) = Chunk.many s by omega]
  simp
theorem outsR_length {S : List Int → List Int} (hS : Chunk.Sums S) (s : List Int) : ∀ (m : Nat), (outsR S s m).length ≤ 262 * m
  | 0 => by simp [outsR]
  | m + 1 => by
    have ih := outsR_length hS s m
    by_cases h : m < Chunk.many s
    · rw [outsR_step h, List.length_append, Chunk.piece_length hS]
      have h1 := Chunk.part_length s m
      have h2 := Chunk.enc_len256 (n := (Chunk.part s m).length) (by omega)
      omega
    · rw [outsR_over (m' := m) (by omega) (by omega)]
      omega

theorem run_conv64 (w : World) (x : Int) (n : Nat) (hx : x = n) (h : n ≤ 256) : (convert 3 45 (.int .i64 x)).run Try.prog w = .ok (.int .u64 n) w := by
  subst hx
  have f1 : IntKind.u64.wrap (n : Int) = n := IntWalk.u64_in _ ⟨by omega, by omega⟩
  go_simp
theorem run_add64 (x y : Operand) (a b : Int) (w : World) (h1 : 0 ≤ a) (h2 : a ≤ 2000000) (h3 : 0 ≤ b) (h4 : b ≤ 2000000) : (do eqGuard .add 3 x y (.int .i64 a) (.int .i64 b); binOp .add 3 (.int .i64 a) (.int .i64 b) : Sem Value).run Try.prog w = .ok (.int .i64 (a + b)) w := by
  have f1 : IntKind.i64.wrap (a + b) = a + b := IntWalk.i64_in _ ⟨by omega, by omega⟩
  go_simp

/-- What the slots of 'p := append(..)' hold. -/
def rp9F (base b off k c j nn : Nat) (x7 : Int) (i : Nat) (v : Value) (w : World) : Prop :=
  match i with
  | 0 => v = .int .i64 x7
  | 1 => v = .int .u64 nn
  | 2 => Owns w base 5 v (enc nn)
  | 3 => v = .slice (some ⟨b, off, Option.none⟩) k c
  | 4 => v = .int .i64 j
  | 5 => v = .int .i64 j
  | 6 => v = .int .i64 x7
  | 7 => v = .int .i64 ((j : Int) + x7)
  | 8 => v = .slice (some ⟨b, off + j, Option.none⟩) (j + nn - j) (c - j)
  | _ => True

/-- The facts outlive new memory. -/
def OutlivesB (F : Nat → Value → World → Prop) : Prop := ∀ j v w w', F j v w → Below w.heap.size w w' → F j v w'
theorem rp9F_later {base b off k c j nn : Nat} {x7 : Int} : OutlivesB (rp9F base b off k c j nn x7) := by
  intro i v w w' h hb
  unfold rp9F at h ⊢
  split at h
  all_goals first | exact h.kept hb (Nat.le_refl _) | exact h

theorem RInv.addB {N : Nat} {ds : List Nat} {a0 : Act} {F : Nat → Value → World → Prop} {w0 : World} {D : Nat → Prop} {a : Act} {w w' : World} {i : Nat} {v : Value} (hI : RInv N ds a0 F w0 NoMore D a w) (hg : slotsGood N ds = true) (hl : OutlivesB F) (hi : i < ds.length) (hb : Below w.heap.size w w') (hv : F i v w') :
    RInv N ds a0 F w0 NoMore (fun j => D j ∨ j = i) (a.put (some (slotAt ds i)) v) w' :=
  hI.put hg hi (fun j _ _ h => hl j _ _ _ h hb) hv trivial (hI.below.trans (hb.mono hI.below.size))

theorem enters_by (vs : Array Value) (w : World) : (callFunc 21 vs).run Try.prog w = .ok (.enter 21 vs) w := by kernel_rfl
theorem enters_four (vs : Array Value) (w : World) : (callFunc 20 vs).run Try.prog w = .ok (.enter 20 vs) w := by kernel_rfl

/-- What the first slots of 'out = append(append(out, p...), ..)' hold. -/
def rp10F (t : Nat → Nat) (base : Nat) (vo vp : Value) (ls : List Int) (i : Nat) (v : Value) (w : World) : Prop :=
  match i with
  | 0 => v = vo
  | 1 => v = vp
  | 2 => Owns w base 5 v ls
  | 3 => v = .agg (cells32 t).toArray
  | 4 => v = vp
  | _ => True
/-- What is known of memory there. -/
def rp10Y (T : Array Value) (base : Nat) (vo : Value) (L : List Int) (pA : Option Addr) (pn pc : Nat) (pl : List Int) (D : Nat → Prop) (w : World) : Prop :=
  (¬ D 2 → Owns w base 5 vo L) ∧ Holds w pA pn pc pl ∧ w.heap[base]? = some (.cells T 25 (0, 0))

/-- What the first slots of the last statement hold. -/
def rp11F (t : Nat → Nat) (base B : Nat) (vo : Value) (ls : List Int) (i : Nat) (v : Value) (w : World) : Prop :=
  match i with
  | 0 => v = vo
  | 1 => LB B [0] v w
  | 2 => Owns w base 5 v ls
  | 3 => v = .agg (cells32 t).toArray
  | 4 => LB B [0] v w
  | _ => True
theorem rp11F_later {t : Nat → Nat} {base B : Nat} {vo : Value} {ls : List Int} : OutlivesB (rp11F t base B vo ls) := by
  intro i v w w' h hb
  unfold rp11F at h ⊢
  split at h
  all_goals first | exact h.keeps (below_keeps hb) | exact h.kept hb (Nat.le_refl _) | exact h
theorem LB.grown {B : Nat} {l : List Int} {v : Value} {w w' : World} {row : Option Nat} (h : LB B l v w) (hg : w.grownBy w' row) (hr : ∀ g, row = some g → g < B) : LB B l v w' := by
  obtain ⟨b, h1, h2, h3⟩ := h
  exact ⟨b, h1, h2, holds_grown h3 hg (fun b' off e1 e2 => by
    injection e1 with e1
    injection e1 with e1
    have := hr b' e2
    omega)⟩
/-- What is known of memory there. -/
def rp11Y (T : Array Value) (base : Nat) (vo : Value) (L : List Int) (D : Nat → Prop) (w : World) : Prop :=
  (¬ D 2 → Owns w base 5 vo L) ∧ w.heap[base]? = some (.cells T 25 (0, 0))
theorem rp11Y_later {T : Array Value} {base : Nat} {vo : Value} {L : List Int} {D : Nat → Prop} {w w' : World} (h : rp11Y T base vo L D w) (hb : Below w.heap.size w w') (i : Nat) : rp11Y T base vo L (fun j => D j ∨ j = i) w' :=
  ⟨fun hd => (h.1 (fun h' => hd (.inl h'))).kept hb (Nat.le_refl _), (hb.block _ (Array.getElem?_eq_some_iff.1 h.2).1).trans h.2⟩
theorem enc_zero : enc 0 = [0] := by rw [enc_small (by omega)]; rfl

set_option maxRecDepth 100000 in
set_option maxHeartbeats 4000000 in
theorem refPack_any (t : Nat → Nat) (ht : ∀ c, t c < 4294967296) (A : Option Addr) (k c : Nat) (s : List Int) (w : World) (hA : Holds w A k c s) (hk : k ≤ 1000000) :
    Calls Try.prog 11 #[.agg (cells32 t).toArray, .slice A k c] w (Gives w 5 (Chunk.pack (sum4 t) s)) := by
  have HT : Hid (∀ W : World, W.heap[w.heap.size]? = some (.cells (cells32 t).toArray 25 (0, 0)) → ∀ x, x < 256 → W.cell? ⟨w.heap.size, x, Option.none⟩ = some (.int .u32 (t x))) := fun W hW x hx => by
    rw [cell_of_row _ w.heap.size x _ _ (0, 0) hW]
    simpa using cells32_at t hx
  have h1 := hA.cap
  have h2 := hA.room
  unfold maxLen at h2
  have Hl := Lib.hid hA.len
  have Hm : Hid (Chunk.many s = (k + 255) / 256) := by rw [Chunk.many, hA.len]; exact rfl
  generalize (cells32 t).toArray = T at *
  obtain ⟨i0, hi, hz0, hz1, hz2⟩ := info_parts Try.info8
  have h0 := Lib.hid (owns_lit (w.alloc (.cells T 25)) w.heap.size 5 #[] [] rfl Bytes.nil (by simp) (by simp))
  have hB0 : Below w.heap.size w ((w.alloc (.cells T 25)).alloc (.cells #[] 5)) := ((Below.refl _ w).alloc (Nat.le_refl _) _).alloc (by simp) _
  have bT0 := heap_alloc2_old w (.cells T 25) (.cells #[] 5)
  have HB0 := Lib.hid hB0
  have HbT0 := Lib.hid bT0
  clear hB0 bT0
  go_enter Try.func11, Try.ntmps11
  go_wp2
  go_loopw [5, 6] (fun v i wr => ∃ (j m : Nat), i = .int .i64 j ∧ j = 256 * m ∧ j ≤ k + 256 ∧ Owns wr w.heap.size 5 v (outsR (sum4 t) s m) ∧ wr.heap[w.heap.size]? = some (.cells T 25 (0, 0)) ∧ Below w.heap.size w wr) (fun _ i _ => k + 256 - (intOf i).toNat)
  case atStart => exact ⟨0, 0, rfl, rfl, by omega, by simpa [outsR] using h0.out, HbT0.out, HB0.out⟩
  case round =>
    obtain ⟨j, m, rfl, hjm, hjk, hown, bT, hB⟩ := hrel
    have hol := outsR_length (sum4_sums t) s m
    have Hjm := Lib.hid hjm
    have HbT := Lib.hid bT
    have hws := hB.size
    clear hjm bT
    obtain ⟨vA, vc, rfl, _⟩ := hown.holds
    have hlm : (outsR (sum4 t) s m).length ≤ 1100000000 := by have := Hjm.out; omega
    generalize hL : outsR (sum4 t) s m = L at *
    have HL := Lib.hid hL
    clear hL hol
    by_cases hlt : j < k
    · obtain ⟨b, off, rfl, _⟩ := hA.cell (by omega)
      have hme : m < Chunk.many s := by rw [Hm.out]; have := Hjm.out; omega
      have Hst := Lib.hid (outsR_step (S := sum4 t) hme)
      by_cases h256 : 256 < k - j
      · go_wp2
        have hN : 0 < 256 ∧ 256 ≤ 256 ∧ j + 256 ≤ k := by omega
        have hx7 : (256 : Int) = ((256 : Nat) : Int) := by omega
        have hpt : Holds w (some ⟨b, off + j, Option.none⟩) (j + 256 - j) (c - j) (Chunk.part s m) := by
          have := (hA.back (k := j) (by omega)).front (k := 256) (by omega)
          have e : (s.drop j).take 256 = Chunk.part s m := by
            rw [Chunk.part, ← Hjm.out]
          rw [e] at this
          rw [show j + 256 - j = 256 by omega]
          exact this
        have hptl : (Chunk.part s m).length = 256 := by rw [hpt.len]; omega
        have HX7 := Lib.hid hx7
        clear hx7
        have HN := Lib.hid hN
        have Hptl := Lib.hid hptl
        obtain ⟨hN1, hN2, hN3⟩ := hN
        clear hptl
        have hm2 := (Chunk.enc_len256 hN2).2
        refine wp_region_tail 9 8 (by decide) (by kernel_rfl) (RInv 50 [24, 25, 26, 27, 28, 29, 30, 31, 32] _ (rp9F wr.heap.size b off k c j 256 (256 : Int)) wr NoMore) (by kernel_rfl) (by kernel_rfl) (RInv.start rfl trivial (Below.refl _ _).drew) ?_ ?_
        · intro i hi' D a w1 hI hcl hnd hpre
          have hcase : i = 0 ∨ i = 1 ∨ i = 2 ∨ i = 3 ∨ i = 4 ∨ i = 5 ∨ i = 6 ∨ i = 7 ∨ i = 8 := by omega
          have hF := hI.fact
          rcases hcase with rfl | rfl | rfl | rfl | rfl | rfl | rfl | rfl | rfl
          · exact wpOp_move rfl (wanted_free rfl) _ rfl _ (hI.same 7 (by decide)) (hI.addB (by decide) rp9F_later (by decide) (Below.refl _ _) rfl)
          · exact wpOp_convert rfl (wanted_free rfl) _ _ _ rfl _ _ (hF 0 (hpre 0 (by kernel_rfl))) (run_conv64 w1 (256 : Int) 256 HX7.out hN2) (hI.addB (by decide) rp9F_later (by decide) (Below.refl _ _) rfl)
          · refine wpOp_call1 rfl (wanted_free rfl) 19 _ _ rfl _ (hF 1 (hpre 1 (by kernel_rfl))) (enters_bytes _ _) (bytes_any _ w1 (by unfold U64; omega)) (fun e w' h => ?_)
            obtain ⟨v, rfl, ho, hb⟩ := h
            exact ⟨_, rfl, hI.addB (by decide) rp9F_later (by decide) hb (ho.low hI.below.size)⟩
          · exact wpOp_move rfl (wanted_free rfl) _ rfl _ (hI.same 1 (by decide)) (hI.addB (by decide) rp9F_later (by decide) (Below.refl _ _) rfl)
          · exact wpOp_move rfl (wanted_free rfl) _ rfl _ (hI.same 6 (by decide)) (hI.addB (by decide) rp9F_later (by decide) (Below.refl _ _) rfl)
          · exact wpOp_move rfl (wanted_free rfl) _ rfl _ (hI.same 6 (by decide)) (hI.addB (by decide) rp9F_later (by decide) (Below.refl _ _) rfl)
          · exact wpOp_move rfl (wanted_free rfl) _ rfl _ (hI.same 7 (by decide)) (hI.addB (by decide) rp9F_later (by decide) (Below.refl _ _) rfl)
          · exact wpOp_bin rfl (wanted_free rfl) _ _ _ _ _ rfl _ _ _ (hF 5 (hpre 5 (by kernel_rfl))) (hF 6 (hpre 6 (by kernel_rfl))) (run_add64 _ _ _ _ w1 (by omega) (by omega) (by have := HX7.out; omega) (by have := HX7.out; omega)) (hI.addB (by decide) rp9F_later (by decide) (Below.refl _ _) rfl)
          · exact wpOp_slice rfl (wanted_free rfl) _ _ _ _ _ rfl _ _ _ _ _ (hF 3 (hpre 3 (by kernel_rfl))) (congrArg some (hF 4 (hpre 4 (by kernel_rfl)))) (congrArg some (hF 7 (hpre 7 (by kernel_rfl)))) rfl (run_cut2 w1 b off k c _ _ j (j + 256) rfl (by have := HX7.out; omega) (by omega) (by omega) (by omega)) (hI.addB (by decide) rp9F_later (by decide) (Below.refl _ _) rfl)
        · intro D a w1 hI hall
          have hB1 := hI.below
          have hdone := hI.done (by decide) rfl hall
          have hF2 : Owns w1 wr.heap.size 5 (a.eval (.tmp 26)) (enc 256) := hI.fact 2 (hall 2 (by decide))
          have hF8 : a.eval (.tmp 32) = .slice (some ⟨b, off + j, Option.none⟩) (j + 256 - j) (c - j) := hI.fact 8 (hall 8 (by decide))
          have hsize := hI.size
          have hs1 := hB1.size
          clear hI hall
          show wpOps _ _ _ [9, 10] a w1
          rw [wpOps_cons]
          refine wpOp_append rfl (wanted_free rfl) (.tmp 26) (.tmp 32) 24 rfl wr.heap.size 5 i0 Try.underlying24 hi hz0 hz1 hz2 _ (enc 256) rfl hF2 _ _ _ _ hF8 (hpt.later (hB.trans (hB1.mono hws))) (by omega) (by omega) ?_
          intro vp w2 hownP hg2 _
          show wpOps _ _ _ _ (a.put (some 33) vp) w2
          rw [wpOps_cons]
          refine wpOp_assign rfl (wanted_free rfl) _ rfl _ (eval_put_same _ _ _ (by rw [hsize]; decide)) ?_
          have hB2 : Below wr.heap.size wr w2 := below_own hB1 hF2 hg2 hs1
          clear hF2 hg2 hB1 hs1
          show wpOps _ _ _ _ ((a.put (some 33) vp).put (some 8) vp) w2
          rw [wpOps]
          obtain ⟨fs, rfl, _⟩ := hdone
          clear hF8 hsize
          have hown2 := hown.kept hB2 (Nat.le_refl _)
          have hBw2 : Below w.heap.size w w2 := hB.trans (hB2.mono hws)
          have HbT2 := Lib.hid ((hB2.block _ (Array.getElem?_eq_some_iff.1 HbT.out).1).trans HbT.out)
          obtain ⟨pl, hpl⟩ : ∃ pl, pl = enc 256 ++ Chunk.part s m := ⟨_, rfl⟩
          have hpll : pl.length ≤ 258 := by rw [hpl, List.length_append, Hptl.out]; omega
          rw [← hpl] at hownP
          have Hpl := Lib.hid hpl
          clear hpl
          obtain ⟨pA, pc, rfl, hP⟩ := hownP.holds
          have hPat := owns_at hownP
          have hOwnLt : ∀ g, (Value.slice vA L.length vc).ownBlock = some g → g < wr.heap.size := fun g hg => (hown.2.lt g hg).2
          simp only [putAll, List.map_cons, List.map_nil, Act.put, List.setIfInBounds_toArray, List.set_cons_zero, List.set_cons_succ]
          generalize fs 24 = y24
          generalize fs 25 = y25
          generalize fs 26 = y26
          generalize fs 27 = y27
          generalize fs 28 = y28
          generalize fs 29 = y29
          generalize fs 30 = y30
          generalize fs 31 = y31
          generalize fs 32 = y32
          have hs2 := hB2.size
          clear hownP hown
          go_wp2
          refine wp_region_tail 5 8 (by decide) (by kernel_rfl) (RInv 50 [34, 35, 36, 37, 38] _ (rp10F t w.heap.size (.slice vA L.length vc) (.slice pA pl.length pc) (L ++ pl)) w (fun D _ W => rp10Y T w.heap.size (.slice vA L.length vc) L pA pl.length pc pl D W)) (by kernel_rfl) (by kernel_rfl) (RInv.start rfl ⟨fun _ => hown2, hP.drew, HbT2.out⟩ hBw2.drew) ?_ ?_
          · intro i hi' D a w1 hI hcl hnd hpre
            have hcase : i = 0 ∨ i = 1 ∨ i = 2 ∨ i = 3 ∨ i = 4 := by omega
            have hF := hI.fact
            obtain ⟨hY1, hY2, hY3⟩ := hI.more
            rcases hcase with rfl | rfl | rfl | rfl | rfl
            · exact wpOp_move rfl (wanted_free rfl) _ rfl _ (hI.same 5 (by decide)) (hI.put (by decide) (by decide) (fun _ _ _ h => h) rfl ⟨fun h => hY1 (fun h' => h (.inl h')), hY2, hY3⟩ hI.below)
            · exact wpOp_move rfl (wanted_free rfl) _ rfl _ (hI.same 8 (by decide)) (hI.put (by decide) (by decide) (fun _ _ _ h => h) rfl ⟨fun h => hY1 (fun h' => h (.inl h')), hY2, hY3⟩ hI.below)
            · have hsz := hI.below.size
              refine wpOp_append rfl (wanted_free rfl) (.tmp 34) (.tmp 35) 24 rfl w.heap.size 5 i0 Try.underlying24 hi hz0 hz1 hz2 _ L (hF 0 (hpre 0 (by kernel_rfl))) (hY1 hnd) _ _ _ _ (hF 1 (hpre 1 (by kernel_rfl))) hY2 (by omega) hsz ?_
              intro v' w' hown' hg' _
              refine hI.put (by decide) (by decide) (fun j _ hne h => ?_) hown' ⟨fun h => absurd (.inr rfl) h, holds_grown hY2 hg' (fun b' off' e1 e2 => ?_), ?_⟩ (below_own hI.below (hY1 hnd) hg' hsz)
              · unfold rp10F at h ⊢
                split at h
                all_goals first | exact absurd rfl hne | exact h
              · have h1 := (hPat b' off' e1).1
                have h3 := hOwnLt b' e2
                omega
              · exact (kept_grown (Bs := []) (hY1 hnd) hsz hg').other _ _ _ _ (by simp) (by decide) hY3
            · exact wpOp_load rfl (wanted_free rfl) _ _ rfl _ _ (hI.same 2 (by decide)) (run_loadTab w1 w.heap.size t (HT.out w1 hY3)) (hI.put (by decide) (by decide) (fun _ _ _ h => h) rfl ⟨fun h => hY1 (fun h' => h (.inl h')), hY2, hY3⟩ hI.below)
            · exact wpOp_move rfl (wanted_free rfl) _ rfl _ (hI.same 8 (by decide)) (hI.put (by decide) (by decide) (fun _ _ _ h => h) rfl ⟨fun h => hY1 (fun h' => h (.inl h')), hY2, hY3⟩ hI.below)
          · intro D a w1 hI hall
            have hB1 := hI.below
            obtain ⟨_, hY2, hY3⟩ := hI.more
            have hF2 : Owns w1 w.heap.size 5 (a.eval (.tmp 36)) (L ++ pl) := hI.fact 2 (hall 2 (by decide))
            have hF3 : a.eval (.tmp 37) = .agg (cells32 t).toArray := hI.fact 3 (hall 3 (by decide))
            have hF4 : a.eval (.tmp 38) = .slice pA pl.length pc := hI.fact 4 (hall 4 (by decide))
            have hdone := hI.done (by decide) rfl hall
            have hsize := hI.size
            have hs1 := hB1.size
            clear hI hall
            show wpOps _ _ _ [5, 6, 7, 8] a w1
            rw [wpOps_cons]
            refine wpOp_call2 rfl (wanted_free rfl) 21 _ _ _ rfl _ _ hF3 hF4 (enters_by _ _) (refBy_any t ht _ _ _ _ w1 hY2) (fun e w3 h3 => ⟨_, h3.1, ?_⟩)
            show wpOps _ _ _ _ (a.put (some 39) (.int .u32 ((4294967295 - Cyc.byTab t 4294967295 pl : Nat) : Int))) w3
            rw [wpOps_cons]
            refine wpOp_call1 rfl (wanted_free rfl) 20 _ _ rfl _ (eval_put_same _ _ _ (by rw [hsize]; decide)) (enters_four _ _) (four_any _ w3 (by omega)) (fun e w4 h4 => ?_)
            obtain ⟨v4, rfl, ho4, hb4⟩ := h4
            refine ⟨_, rfl, ?_⟩
            obtain ⟨A4, c4, rfl, hH4⟩ := ho4.holds
            have hb14 : Below w1.heap.size w1 w4 := h3.2.trans (hb4.mono h3.2.size)
            have hF2' := hF2.kept hb14 (Nat.le_refl _)
            have hs4 := hb14.size
            show wpOps _ _ _ _ ((a.put (some 39) (.int .u32 ((4294967295 - Cyc.byTab t 4294967295 pl : Nat) : Int))).put (some 40) (.slice A4 (four (4294967295 - Cyc.byTab t 4294967295 pl)).length c4)) w4
            rw [wpOps_cons]
            refine wpOp_append rfl (wanted_free rfl) (.tmp 36) (.tmp 40) 24 rfl w.heap.size 5 i0 Try.underlying24 hi hz0 hz1 hz2 (a.eval (.tmp 36)) (L ++ pl) ((eval_put_other _ _ (by decide)).trans (eval_put_other _ _ (by decide))) hF2' _ _ _ _ (eval_put_same _ _ _ (by rw [size_put, hsize]; decide)) hH4 (by rw [List.length_append]; simp [four]; omega) (by omega) ?_
            intro v5 w5 hown5 hg5 _
            show wpOps _ _ _ _ (((a.put (some 39) (.int .u32 ((4294967295 - Cyc.byTab t 4294967295 pl : Nat) : Int))).put (some 40) (.slice A4 (four (4294967295 - Cyc.byTab t 4294967295 pl)).length c4)).put (some 41) v5) w5
            rw [wpOps_cons]
            refine wpOp_assign rfl (wanted_free rfl) _ rfl _ (eval_put_same _ _ _ (by rw [size_put, size_put, hsize]; decide)) ?_
            show wpOps _ _ _ _ ((((a.put (some 39) (.int .u32 ((4294967295 - Cyc.byTab t 4294967295 pl : Nat) : Int))).put (some 40) (.slice A4 (four (4294967295 - Cyc.byTab t 4294967295 pl)).length c4)).put (some 41) v5).put (some 5) v5) w5
            rw [wpOps]
            have hB5 : Below w.heap.size w w5 := below_own (hB1.trans (hb14.mono hs1)) hF2' hg5 (by omega)
            have hT5 : w5.heap[w.heap.size]? = some (.cells T 25 (0, 0)) := (kept_grown (Bs := []) hF2' (by omega) hg5).other _ _ _ _ (by simp) (by decide) ((hb14.block _ (Array.getElem?_eq_some_iff.1 hY3).1).trans hY3)
            have HT5 := Lib.hid hT5
            have hout : L ++ pl ++ four (4294967295 - Cyc.byTab t 4294967295 pl) = outsR (sum4 t) s (m + 1) := by
              rw [Hst.out, HL.out, Chunk.piece, Hptl.out, Hpl.out]
              simp [sum4]
            rw [hout] at hown5
            clear hF2 hF2' hg5 hB1 hs1 hT5 hY2 hY3 h3 hb4 hb14 hs4 ho4 hH4 hF3 hF4 hout
            obtain ⟨fs, rfl, _⟩ := hdone
            clear hsize
            simp only [putAll, List.map_cons, List.map_nil, Act.put, List.setIfInBounds_toArray, List.set_cons_zero, List.set_cons_succ]
            generalize fs 34 = y34
            generalize fs 35 = y35
            generalize fs 36 = y36
            generalize fs 37 = y37
            generalize fs 38 = y38
            go_wp2
            go_roundw
            case rel => exact ⟨j + 256, m + 1, by go_num, by have := Hjm.out; omega, by omega, hown5, HT5.out, hB5⟩
            case measure => simp [intOf]; omega
      · go_wp2
        have hN : 0 < (k - j) ∧ (k - j) ≤ 256 ∧ j + (k - j) ≤ k := by omega
        have hx7 : ((k : Int) - j) = (((k - j) : Nat) : Int) := by omega
        have hpt : Holds w (some ⟨b, off + j, Option.none⟩) (j + (k - j) - j) (c - j) (Chunk.part s m) := by
          have := (hA.back (k := j) (by omega)).front (k := (k - j)) (by omega)
          have e : (s.drop j).take (k - j) = Chunk.part s m := by
            rw [Chunk.part, ← Hjm.out, List.take_of_length_le (by rw [List.length_drop, Hl.out]; omega), List.take_of_length_le (by rw [List.length_drop, Hl.out]; omega)]
          rw [e] at this
          rw [show j + (k - j) - j = (k - j) by omega]
          exact this
        have hptl : (Chunk.part s m).length = (k - j) := by rw [hpt.len]; omega
        have HX7 := Lib.hid hx7
        clear hx7
        have HN := Lib.hid hN
        have Hptl := Lib.hid hptl
        obtain ⟨hN1, hN2, hN3⟩ := hN
        clear hptl
        have hm2 := (Chunk.enc_len256 hN2).2
        refine wp_region_tail 9 8 (by decide) (by kernel_rfl) (RInv 50 [24, 25, 26, 27, 28, 29, 30, 31, 32] _ (rp9F wr.heap.size b off k c j (k - j) ((k : Int) - j)) wr NoMore) (by kernel_rfl) (by kernel_rfl) (RInv.start rfl trivial (Below.refl _ _).drew) ?_ ?_
        · intro i hi' D a w1 hI hcl hnd hpre
          have hcase : i = 0 ∨ i = 1 ∨ i = 2 ∨ i = 3 ∨ i = 4 ∨ i = 5 ∨ i = 6 ∨ i = 7 ∨ i = 8 := by omega
          have hF := hI.fact
          rcases hcase with rfl | rfl | rfl | rfl | rfl | rfl | rfl | rfl | rfl
          · exact wpOp_move rfl (wanted_free rfl) _ rfl _ (hI.same 7 (by decide)) (hI.addB (by decide) rp9F_later (by decide) (Below.refl _ _) rfl)
          · exact wpOp_convert rfl (wanted_free rfl) _ _ _ rfl _ _ (hF 0 (hpre 0 (by kernel_rfl))) (run_conv64 w1 ((k : Int) - j) (k - j) HX7.out hN2) (hI.addB (by decide) rp9F_later (by decide) (Below.refl _ _) rfl)
          · refine wpOp_call1 rfl (wanted_free rfl) 19 _ _ rfl _ (hF 1 (hpre 1 (by kernel_rfl))) (enters_bytes _ _) (bytes_any _ w1 (by unfold U64; omega)) (fun e w' h => ?_)
            obtain ⟨v, rfl, ho, hb⟩ := h
            exact ⟨_, rfl, hI.addB (by decide) rp9F_later (by decide) hb (ho.low hI.below.size)⟩
          · exact wpOp_move rfl (wanted_free rfl) _ rfl _ (hI.same 1 (by decide)) (hI.addB (by decide) rp9F_later (by decide) (Below.refl _ _) rfl)
          · exact wpOp_move rfl (wanted_free rfl) _ rfl _ (hI.same 6 (by decide)) (hI.addB (by decide) rp9F_later (by decide) (Below.refl _ _) rfl)
          · exact wpOp_move rfl (wanted_free rfl) _ rfl _ (hI.same 6 (by decide)) (hI.addB (by decide) rp9F_later (by decide) (Below.refl _ _) rfl)
          · exact wpOp_move rfl (wanted_free rfl) _ rfl _ (hI.same 7 (by decide)) (hI.addB (by decide) rp9F_later (by decide) (Below.refl _ _) rfl)
          · exact wpOp_bin rfl (wanted_free rfl) _ _ _ _ _ rfl _ _ _ (hF 5 (hpre 5 (by kernel_rfl))) (hF 6 (hpre 6 (by kernel_rfl))) (run_add64 _ _ _ _ w1 (by omega) (by omega) (by have := HX7.out; omega) (by have := HX7.out; omega)) (hI.addB (by decide) rp9F_later (by decide) (Below.refl _ _) rfl)
          · exact wpOp_slice rfl (wanted_free rfl) _ _ _ _ _ rfl _ _ _ _ _ (hF 3 (hpre 3 (by kernel_rfl))) (congrArg some (hF 4 (hpre 4 (by kernel_rfl)))) (congrArg some (hF 7 (hpre 7 (by kernel_rfl)))) rfl (run_cut2 w1 b off k c _ _ j (j + (k - j)) rfl (by have := HX7.out; omega) (by omega) (by omega) (by omega)) (hI.addB (by decide) rp9F_later (by decide) (Below.refl _ _) rfl)
        · intro D a w1 hI hall
          have hB1 := hI.below
          have hdone := hI.done (by decide) rfl hall
          have hF2 : Owns w1 wr.heap.size 5 (a.eval (.tmp 26)) (enc (k - j)) := hI.fact 2 (hall 2 (by decide))
          have hF8 : a.eval (.tmp 32) = .slice (some ⟨b, off + j, Option.none⟩) (j + (k - j) - j) (c - j) := hI.fact 8 (hall 8 (by decide))
          have hsize := hI.size
          have hs1 := hB1.size
          clear hI hall
          show wpOps _ _ _ [9, 10] a w1
          rw [wpOps_cons]
          refine wpOp_append rfl (wanted_free rfl) (.tmp 26) (.tmp 32) 24 rfl wr.heap.size 5 i0 Try.underlying24 hi hz0 hz1 hz2 _ (enc (k - j)) rfl hF2 _ _ _ _ hF8 (hpt.later (hB.trans (hB1.mono hws))) (by omega) (by omega) ?_
          intro vp w2 hownP hg2 _
          show wpOps _ _ _ _ (a.put (some 33) vp) w2
          rw [wpOps_cons]
          refine wpOp_assign rfl (wanted_free rfl) _ rfl _ (eval_put_same _ _ _ (by rw [hsize]; decide)) ?_
          have hB2 : Below wr.heap.size wr w2 := below_own hB1 hF2 hg2 hs1
          clear hF2 hg2 hB1 hs1
          show wpOps _ _ _ _ ((a.put (some 33) vp).put (some 8) vp) w2
          rw [wpOps]
          obtain ⟨fs, rfl, _⟩ := hdone
          clear hF8 hsize
          have hown2 := hown.kept hB2 (Nat.le_refl _)
          have hBw2 : Below w.heap.size w w2 := hB.trans (hB2.mono hws)
          have HbT2 := Lib.hid ((hB2.block _ (Array.getElem?_eq_some_iff.1 HbT.out).1).trans HbT.out)
          obtain ⟨pl, hpl⟩ : ∃ pl, pl = enc (k - j) ++ Chunk.part s m := ⟨_, rfl⟩
          have hpll : pl.length ≤ 258 := by rw [hpl, List.length_append, Hptl.out]; omega
          rw [← hpl] at hownP
          have Hpl := Lib.hid hpl
          clear hpl
          obtain ⟨pA, pc, rfl, hP⟩ := hownP.holds
          have hPat := owns_at hownP
          have hOwnLt : ∀ g, (Value.slice vA L.length vc).ownBlock = some g → g < wr.heap.size := fun g hg => (hown.2.lt g hg).2
          simp only [putAll, List.map_cons, List.map_nil, Act.put, List.setIfInBounds_toArray, List.set_cons_zero, List.set_cons_succ]
          generalize fs 24 = y24
          generalize fs 25 = y25
          generalize fs 26 = y26
          generalize fs 27 = y27
          generalize fs 28 = y28
          generalize fs 29 = y29
          generalize fs 30 = y30
          generalize fs 31 = y31
          generalize fs 32 = y32
          have hs2 := hB2.size
          clear hownP hown
          go_wp2
          refine wp_region_tail 5 8 (by decide) (by kernel_rfl) (RInv 50 [34, 35, 36, 37, 38] _ (rp10F t w.heap.size (.slice vA L.length vc) (.slice pA pl.length pc) (L ++ pl)) w (fun D _ W => rp10Y T w.heap.size (.slice vA L.length vc) L pA pl.length pc pl D W)) (by kernel_rfl) (by kernel_rfl) (RInv.start rfl ⟨fun _ => hown2, hP.drew, HbT2.out⟩ hBw2.drew) ?_ ?_
          · intro i hi' D a w1 hI hcl hnd hpre
            have hcase : i = 0 ∨ i = 1 ∨ i = 2 ∨ i = 3 ∨ i = 4 := by omega
            have hF := hI.fact
            obtain ⟨hY1, hY2, hY3⟩ := hI.more
            rcases hcase with rfl | rfl | rfl | rfl | rfl
            · exact wpOp_move rfl (wanted_free rfl) _ rfl _ (hI.same 5 (by decide)) (hI.put (by decide) (by decide) (fun _ _ _ h => h) rfl ⟨fun h => hY1 (fun h' => h (.inl h')), hY2, hY3⟩ hI.below)
            · exact wpOp_move rfl (wanted_free rfl) _ rfl _ (hI.same 8 (by decide)) (hI.put (by decide) (by decide) (fun _ _ _ h => h) rfl ⟨fun h => hY1 (fun h' => h (.inl h')), hY2, hY3⟩ hI.below)
            · have hsz := hI.below.size
              refine wpOp_append rfl (wanted_free rfl) (.tmp 34) (.tmp 35) 24 rfl w.heap.size 5 i0 Try.underlying24 hi hz0 hz1 hz2 _ L (hF 0 (hpre 0 (by kernel_rfl))) (hY1 hnd) _ _ _ _ (hF 1 (hpre 1 (by kernel_rfl))) hY2 (by omega) hsz ?_
              intro v' w' hown' hg' _
              refine hI.put (by decide) (by decide) (fun j _ hne h => ?_) hown' ⟨fun h => absurd (.inr rfl) h, holds_grown hY2 hg' (fun b' off' e1 e2 => ?_), ?_⟩ (below_own hI.below (hY1 hnd) hg' hsz)
              · unfold rp10F at h ⊢
                split at h
                all_goals first | exact absurd rfl hne | exact h
              · have h1 := (hPat b' off' e1).1
                have h3 := hOwnLt b' e2
                omega
              · exact (kept_grown (Bs := []) (hY1 hnd) hsz hg').other _ _ _ _ (by simp) (by decide) hY3
            · exact wpOp_load rfl (wanted_free rfl) _ _ rfl _ _ (hI.same 2 (by decide)) (run_loadTab w1 w.heap.size t (HT.out w1 hY3)) (hI.put (by decide) (by decide) (fun _ _ _ h => h) rfl ⟨fun h => hY1 (fun h' => h (.inl h')), hY2, hY3⟩ hI.below)
            · exact wpOp_move rfl (wanted_free rfl) _ rfl _ (hI.same 8 (by decide)) (hI.put (by decide) (by decide) (fun _ _ _ h => h) rfl ⟨fun h => hY1 (fun h' => h (.inl h')), hY2, hY3⟩ hI.below)
          · intro D a w1 hI hall
            have hB1 := hI.below
            obtain ⟨_, hY2, hY3⟩ := hI.more
            have hF2 : Owns w1 w.heap.size 5 (a.eval (.tmp 36)) (L ++ pl) := hI.fact 2 (hall 2 (by decide))
            have hF3 : a.eval (.tmp 37) = .agg (cells32 t).toArray := hI.fact 3 (hall 3 (by decide))
            have hF4 : a.eval (.tmp 38) = .slice pA pl.length pc := hI.fact 4 (hall 4 (by decide))
            have hdone := hI.done (by decide) rfl hall
            have hsize := hI.size
            have hs1 := hB1.size
            clear hI hall
            show wpOps _ _ _ [5, 6, 7, 8] a w1
            rw [wpOps_cons]
            refine wpOp_call2 rfl (wanted_free rfl) 21 _ _ _ rfl _ _ hF3 hF4 (enters_by _ _) (refBy_any t ht _ _ _ _ w1 hY2) (fun e w3 h3 => ⟨_, h3.1, ?_⟩)
            show wpOps _ _ _ _ (a.put (some 39) (.int .u32 ((4294967295 - Cyc.byTab t 4294967295 pl : Nat) : Int))) w3
            rw [wpOps_cons]
            refine wpOp_call1 rfl (wanted_free rfl) 20 _ _ rfl _ (eval_put_same _ _ _ (by rw [hsize]; decide)) (enters_four _ _) (four_any _ w3 (by omega)) (fun e w4 h4 => ?_)
            obtain ⟨v4, rfl, ho4, hb4⟩ := h4
            refine ⟨_, rfl, ?_⟩
            obtain ⟨A4, c4, rfl, hH4⟩ := ho4.holds
            have hb14 : Below w1.heap.size w1 w4 := h3.2.trans (hb4.mono h3.2.size)
            have hF2' := hF2.kept hb14 (Nat.le_refl _)
            have hs4 := hb14.size
            show wpOps _ _ _ _ ((a.put (some 39) (.int .u32 ((4294967295 - Cyc.byTab t 4294967295 pl : Nat) : Int))).put (some 40) (.slice A4 (four (4294967295 - Cyc.byTab t 4294967295 pl)).length c4)) w4
            rw [wpOps_cons]
            refine wpOp_append rfl (wanted_free rfl) (.tmp 36) (.tmp 40) 24 rfl w.heap.size 5 i0 Try.underlying24 hi hz0 hz1 hz2 (a.eval (.tmp 36)) (L ++ pl) ((eval_put_other _ _ (by decide)).trans (eval_put_other _ _ (by decide))) hF2' _ _ _ _ (eval_put_same _ _ _ (by rw [size_put, hsize]; decide)) hH4 (by rw [List.length_append]; simp [four]; omega) (by omega) ?_
            intro v5 w5 hown5 hg5 _
            show wpOps _ _ _ _ (((a.put (some 39) (.int .u32 ((4294967295 - Cyc.byTab t 4294967295 pl : Nat) : Int))).put (some 40) (.slice A4 (four (4294967295 - Cyc.byTab t 4294967295 pl)).length c4)).put (some 41) v5) w5
            rw [wpOps_cons]
            refine wpOp_assign rfl (wanted_free rfl) _ rfl _ (eval_put_same _ _ _ (by rw [size_put, size_put, hsize]; decide)) ?_
            show wpOps _ _ _ _ ((((a.put (some 39) (.int .u32 ((4294967295 - Cyc.byTab t 4294967295 pl : Nat) : Int))).put (some 40) (.slice A4 (four (4294967295 - Cyc.byTab t 4294967295 pl)).length c4)).put (some 41) v5).put (some 5) v5) w5
            rw [wpOps]
            have hB5 : Below w.heap.size w w5 := below_own (hB1.trans (hb14.mono hs1)) hF2' hg5 (by omega)
            have hT5 : w5.heap[w.heap.size]? = some (.cells T 25 (0, 0)) := (kept_grown (Bs := []) hF2' (by omega) hg5).other _ _ _ _ (by simp) (by decide) ((hb14.block _ (Array.getElem?_eq_some_iff.1 hY3).1).trans hY3)
            have HT5 := Lib.hid hT5
            have hout : L ++ pl ++ four (4294967295 - Cyc.byTab t 4294967295 pl) = outsR (sum4 t) s (m + 1) := by
              rw [Hst.out, HL.out, Chunk.piece, Hptl.out, Hpl.out]
              simp [sum4]
            rw [hout] at hown5
            clear hF2 hF2' hg5 hB1 hs1 hT5 hY2 hY3 h3 hb4 hb14 hs4 ho4 hH4 hF3 hF4 hout
            obtain ⟨fs, rfl, _⟩ := hdone
            clear hsize
            simp only [putAll, List.map_cons, List.map_nil, Act.put, List.setIfInBounds_toArray, List.set_cons_zero, List.set_cons_succ]
            generalize fs 34 = y34
            generalize fs 35 = y35
            generalize fs 36 = y36
            generalize fs 37 = y37
            generalize fs 38 = y38
            go_wp2
            go_roundw
            case rel => exact ⟨j + 256, m + 1, by go_num, by have := Hjm.out; omega, by omega, hown5, HT5.out, hB5⟩
            case measure => simp [intOf]; omega
    · by_cases hjeq : j = k
      · subst hjeq
        have hme : Chunk.many s ≤ m := by rw [Hm.out]; have := Hjm.out; omega
        have Hov := Lib.hid (outsR_over (S := sum4 t) (m' := m + 1) hme (by omega))
        go_wp2
        go_roundw
        case rel => exact ⟨j + 256, m + 1, by go_num, by have := Hjm.out; omega, by omega, by rw [← Hov.out, HL.out]; exact hown, HbT.out, hB⟩
        case measure => simp [intOf]; omega
      · have hme : Chunk.many s ≤ m := by rw [Hm.out]; have := Hjm.out; omega
        have Hov := Lib.hid (outsR_done (S := sum4 t) hme)
        have hOwnLt : ∀ g, (Value.slice vA L.length vc).ownBlock = some g → g < wr.heap.size := fun g hg => (hown.2.lt g hg).2
        have HOwnLt := Lib.hid hOwnLt
        clear hOwnLt
        go_wp2
        refine wp_region_tail 5 8 (by decide) (by kernel_rfl) (RInv 50 [42, 43, 44, 45, 46] _ (rp11F t w.heap.size wr.heap.size (.slice vA L.length vc) (L ++ [0])) w (fun D _ W => rp11Y T w.heap.size (.slice vA L.length vc) L D W ∧ wr.heap.size ≤ W.heap.size)) (by kernel_rfl) (by kernel_rfl) (RInv.start rfl ⟨⟨fun _ => hown, HbT.out⟩, Nat.le_refl _⟩ hB.drew) ?_ ?_
        · intro i hi' D a w1 hI hcl hnd hpre
          have hcase : i = 0 ∨ i = 1 ∨ i = 2 ∨ i = 3 ∨ i = 4 := by omega
          have hF := hI.fact
          obtain ⟨hY, hsw⟩ := hI.more
          have hsz := hI.below.size
          rcases hcase with rfl | rfl | rfl | rfl | rfl
          · exact wpOp_move rfl (wanted_free rfl) _ rfl _ (hI.same 5 (by decide)) (hI.put (by decide) (by decide) (fun _ _ _ h => h) rfl ⟨rp11Y_later hY (Below.refl _ _) _, hsw⟩ hI.below)
          · have hb : Below w1.heap.size w1 (w1.alloc (.cells #[.int .u8 0] 5)) := (Below.refl _ _).alloc (Nat.le_refl _) _
            exact wpOp_build rfl (wanted_free rfl) _ _ _ rfl #[(0, .int .u8 0)] (by simp [Act.eval]) _ (run_build1 w1 _) (hI.put (by decide) (by decide) (fun _ _ _ h => rp11F_later _ _ _ _ h hb) (lb_new w1 _ [0] rfl (bytes_all (by decide)) (by simp [maxLen]) hsw) ⟨rp11Y_later hY hb _, Nat.le_trans hsw hb.size⟩ (hI.below.trans (hb.mono hsz)))
          · obtain ⟨b1, hb1, hv1, hH1⟩ := hF 1 (hpre 1 (by kernel_rfl))
            refine wpOp_append rfl (wanted_free rfl) (.tmp 42) (.tmp 43) 24 rfl w.heap.size 5 i0 Try.underlying24 hi hz0 hz1 hz2 _ L (hF 0 (hpre 0 (by kernel_rfl))) (hY.1 hnd) _ _ _ _ hv1 hH1 (by simp; omega) hsz ?_
            intro v' w' hown' hg' _
            refine hI.put (by decide) (by decide) (fun j _ hne h => ?_) hown' ⟨⟨fun h => absurd (.inr rfl) h, (kept_grown (Bs := []) (hY.1 hnd) hsz hg').other _ _ _ _ (by simp) (by decide) hY.2⟩, Nat.le_trans hsw hg'.size⟩ (below_own hI.below (hY.1 hnd) hg' hsz)
            unfold rp11F at h ⊢
            split at h
            all_goals first | exact absurd rfl hne | exact h.grown hg' HOwnLt.out | exact h
          · exact wpOp_load rfl (wanted_free rfl) _ _ rfl _ _ (hI.same 2 (by decide)) (run_loadTab w1 w.heap.size t (HT.out w1 hY.2)) (hI.put (by decide) (by decide) (fun _ _ _ h => h) rfl ⟨rp11Y_later hY (Below.refl _ _) _, hsw⟩ hI.below)
          · have hb : Below w1.heap.size w1 (w1.alloc (.cells #[.int .u8 0] 5)) := (Below.refl _ _).alloc (Nat.le_refl _) _
            exact wpOp_build rfl (wanted_free rfl) _ _ _ rfl #[(0, .int .u8 0)] (by simp [Act.eval]) _ (run_build1 w1 _) (hI.put (by decide) (by decide) (fun _ _ _ h => rp11F_later _ _ _ _ h hb) (lb_new w1 _ [0] rfl (bytes_all (by decide)) (by simp [maxLen]) hsw) ⟨rp11Y_later hY hb _, Nat.le_trans hsw hb.size⟩ (hI.below.trans (hb.mono hsz)))
        · intro D a w1 hI hall
          have hB1 := hI.below
          have hF2 : Owns w1 w.heap.size 5 (a.eval (.tmp 44)) (L ++ [0]) := hI.fact 2 (hall 2 (by decide))
          have hF3 : a.eval (.tmp 45) = .agg (cells32 t).toArray := hI.fact 3 (hall 3 (by decide))
          obtain ⟨b4, _, hv4, hH4⟩ := hI.fact 4 (hall 4 (by decide))
          have hF4 : a.eval (.tmp 46) = .slice (some ⟨b4, 0, Option.none⟩) 1 1 := hv4
          have hsize := hI.size
          have hdefs := hI.defs
          have hs1 := hB1.size
          clear hI hall hv4
          show wpOps _ _ _ [5, 6, 7, 8] a w1
          rw [wpOps_cons]
          refine wpOp_call2 rfl (wanted_free rfl) 21 _ _ _ rfl _ _ hF3 hF4 (enters_by _ _) (refBy_any t ht _ _ _ _ w1 hH4) (fun e w3 h3 => ⟨_, h3.1, ?_⟩)
          rw [wpOps_cons]
          refine wpOp_call1 rfl (wanted_free rfl) 20 _ _ rfl _ (eval_put_same _ _ _ (by rw [hsize]; decide)) (enters_four _ _) (four_any _ w3 (by omega)) (fun e w4 h4 => ?_)
          obtain ⟨v4, rfl, ho4, hb4⟩ := h4
          refine ⟨_, rfl, ?_⟩
          obtain ⟨A4, c4, rfl, hH5⟩ := ho4.holds
          have hb14 : Below w1.heap.size w1 w4 := h3.2.trans (hb4.mono h3.2.size)
          have hF2' := hF2.kept hb14 (Nat.le_refl _)
          have hs4 := hb14.size
          rw [wpOps_cons]
          refine wpOp_append rfl (wanted_free rfl) (.tmp 44) (.tmp 48) 24 rfl w.heap.size 5 i0 Try.underlying24 hi hz0 hz1 hz2 (a.eval (.tmp 44)) (L ++ [0]) ((eval_put_other _ _ (by decide)).trans (eval_put_other _ _ (by decide))) hF2' _ _ _ _ (eval_put_same _ _ _ (by rw [size_put, hsize]; decide)) hH5 (by rw [List.length_append]; simp [four]; omega) (by omega) ?_
          intro v5 w5 hown5 hg5 _
          rw [wpOps_cons]
          refine wpOp_assign rfl (wanted_free rfl) _ rfl v5 (eval_put_same _ _ _ (by rw [size_put, size_put, hsize]; decide)) ?_
          have hB5 : Below w.heap.size w w5 := below_own (hB1.trans (hb14.mono hs1)) hF2' hg5 (by omega)
          have hout : L ++ [0] ++ four (4294967295 - Cyc.byTab t 4294967295 [0]) = Chunk.pack (sum4 t) s := by
            rw [← Hov.out, HL.out, Chunk.piece]
            simp [sum4, enc_zero]
          rw [hout] at hown5
          rw [wpOps]
          show Exit.then _ _ Exit.normal ((((a.put (some 47) (.int .u32 ((4294967295 - Cyc.byTab t 4294967295 [0] : Nat) : Int))).put (some 48) (.slice A4 (four (4294967295 - Cyc.byTab t 4294967295 [0])).length c4)).put (some 49) v5).put (some 4) v5) w5
          have f4 := eval_put_same (((a.put (some 47) (.int .u32 ((4294967295 - Cyc.byTab t 4294967295 [0] : Nat) : Int))).put (some 48) (.slice A4 (four (4294967295 - Cyc.byTab t 4294967295 [0])).length c4)).put (some 49) v5) 4 v5 (by rw [size_put, size_put, size_put, hsize]; decide)
          have hd : ((((a.put (some 47) (.int .u32 ((4294967295 - Cyc.byTab t 4294967295 [0] : Nat) : Int))).put (some 48) (.slice A4 (four (4294967295 - Cyc.byTab t 4294967295 [0])).length c4)).put (some 49) v5).put (some 4) v5).defers = [] := by rw [defers_put, defers_put, defers_put, defers_put, hdefs]
          generalize (((a.put (some 47) (.int .u32 ((4294967295 - Cyc.byTab t 4294967295 [0] : Nat) : Int))).put (some 48) (.slice A4 (four (4294967295 - Cyc.byTab t 4294967295 [0])).length c4)).put (some 49) v5).put (some 4) v5 = af at f4 hd ⊢
          clear hF2 hF3 hF4 hF2' hg5 h3 hb4 hb14 hs4 ho4 hH4 hH5 hout hdefs hsize
          go_wp2
          refine bodyPost_ret (results_tmp rfl af.tmps _ _) hd ⟨v5, ?_, hown5, hB5⟩
          show Ending.returned (af.eval (.tmp 4)) = _
          rw [f4]
end Go.Proofs.Ytaabhnjikggomaa
