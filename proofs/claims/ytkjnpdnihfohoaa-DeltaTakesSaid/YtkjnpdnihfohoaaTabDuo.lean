/-
  intern's Table and the reference's, side by side, each by its blocks. Conditions: those that each theorem states.
-/
import Derived.Test.YtkjnpdnihfohoaaTabTake
import Derived.Test.YtkjnpdnihfohoaaTabRefTake
namespace Go.Proofs.Ytkjnpdnihfohoaa
open Go.RowKit Go.Lib Go.Maps Go.WideMaps Leb

/-- Block b begins the Table that holds the texts l and consists of the blocks of which S holds. -/
def PTab (w : World) (b : Nat) (l : List (List UInt8)) (S : Nat → Prop) : Prop := ∃ o v, PT w b o v l ∧ ∀ k, S k ↔ inP b o v k
/-- So for the reference's. -/
def RTab (w : World) (b : Nat) (l : List (List UInt8)) (S : Nat → Prop) : Prop := ∃ v, RT w b v l ∧ ∀ k, S k ↔ inR b v k

section
variable {w w' : World} {b : Nat} {l : List (List UInt8)} {S S' : Nat → Prop}
theorem PTab.low (h : PTab w b l S) : ∀ k, S k → k < w.heap.size := by
  obtain ⟨o, v, h, hS⟩ := h
  exact fun k hk => h.low k ((hS k).1 hk)
theorem RTab.low (h : RTab w b l S) : ∀ k, S k → k < w.heap.size := by
  obtain ⟨v, h, hS⟩ := h
  exact fun k hk => h.low k ((hS k).1 hk)
theorem PTab.alt (h : PTab w b l S) (ha : Alt w w' S') (hS' : ∀ k, S k → ¬ S' k) : PTab w' b l S := by
  obtain ⟨o, v, h, hS⟩ := h
  exact ⟨o, v, h.alt ha fun k hk => hS' k ((hS k).2 hk), hS⟩
theorem RTab.alt (h : RTab w b l S) (ha : Alt w w' S') (hS' : ∀ k, S k → ¬ S' k) : RTab w' b l S := by
  obtain ⟨v, h, hS⟩ := h
  exact ⟨v, h.alt ha fun k hk => hS' k ((hS k).2 hk), hS⟩
theorem PTab.later (h : PTab w b l S) (hb : Below w.heap.size w w') : PTab w' b l S := h.alt (alt_below hb fun _ => False) fun _ _ h => h
theorem RTab.later (h : RTab w b l S) (hb : Below w.heap.size w w') : RTab w' b l S := h.alt (alt_below hb fun _ => False) fun _ _ h => h
end

/-- What a call of a Table's leaves behind. -/
structure PStep (w w' : World) (b : Nat) (S S' : Nat → Prop) (l' : List (List UInt8)) : Prop where
  tab : PTab w' b l' S'
  alt : Alt w w' S
  new : ∀ k, S' k → S k ∨ w.heap.size ≤ k
structure RStep (w w' : World) (b : Nat) (S S' : Nat → Prop) (l' : List (List UInt8)) : Prop where
  tab : RTab w' b l' S'
  alt : Alt w w' S
  new : ∀ k, S' k → S k ∨ w.heap.size ≤ k

section
variable (b : Nat) (l : List (List UInt8)) (S : Nat → Prop) (A : Option Addr) (n c : Nat) (X : List Int) (p : List UInt8) (q : Int) (w : World)

theorem step_of {w w' : World} {b : Nat} {o o' : Option Nat} {v u : Value} {S : Nat → Prop} {l' : List (List UInt8)} (h : PAdd w w' b o o' v u l') (hS : ∀ k, S k ↔ inP b o v k) : PStep w w' b S (inP b o' u) l' :=
  ⟨⟨o', u, h.tab, fun _ => Iff.rfl⟩, h.alt.mono fun j _ hj => (hS j).2 hj, fun k hk => (h.inNew k hk).imp (hS k).2 id⟩
theorem step_ofR {w w' : World} {b : Nat} {v u : Value} {S : Nat → Prop} {l' : List (List UInt8)} (h : RPut w w' b v u l') (hS : ∀ k, S k ↔ inR b v k) : RStep w w' b S (inR b u) l' :=
  ⟨⟨u, h.tab, fun _ => Iff.rfl⟩, h.alt.mono fun j _ hj => (hS j).2 (.inl hj), fun k hk => (h.new k hk).imp (hS k).2 id⟩

/-- The end of Put. -/
def PutEnd (w : World) (b : Nat) (S : Nat → Prop) (Y : List Int) (l' : List (List UInt8)) (e : Ending) (w' : World) : Prop :=
  ∃ r S', e = .returned r ∧ Owns w' w.heap.size 5 r Y ∧ OffV S' r ∧ PStep w w' b S S' l'
def PutEndR (w : World) (b : Nat) (S : Nat → Prop) (Y : List Int) (l' : List (List UInt8)) (e : Ending) (w' : World) : Prop :=
  ∃ r S', e = .returned r ∧ Owns w' w.heap.size 5 r Y ∧ OffV S' r ∧ RStep w w' b S S' l'
/-- The end of Take. -/
def TakeEnd (w : World) (b : Nat) (S : Nat → Prop) (r : List UInt8 × Int × Int) (l' : List (List UInt8)) (e : Ending) (w' : World) : Prop :=
  ∃ S', e = .returned (.tuple #[.string (mk r.1), .int .i64 r.2.1, .int .i64 r.2.2]) ∧ PStep w w' b S S' l'
def TakeEndR (w : World) (b : Nat) (S : Nat → Prop) (r : List UInt8 × Int × Int) (l' : List (List UInt8)) (e : Ending) (w' : World) : Prop :=
  ∃ S', e = .returned (.tuple #[.string (mk r.1), .int .i64 r.2.1, .int .i64 r.2.2]) ∧ RStep w w' b S S' l'

theorem putP_any (h : PTab w b l S) (hl : l.length ≤ 1000000) (hX : Holds w A n c X) (ho : Off S A n) (hn : n + p.length ≤ 140737488000000) :
    Calls Try.prog 17 #[.pointer (some ⟨b, 0, Option.none⟩), .slice A n c, .string (mk p)] w (PutEnd w b S (X ++ putB l p) (putL l p)) := by
  obtain ⟨o, v, h, hS⟩ := h
  refine (put19_any b o v l A n c X p w h hl hX (ho.mono fun j hj => (hS j).2 hj) hn).mono ?_
  rintro e w' ⟨r, o1, u, rfl, hr, hof, hA⟩
  exact ⟨r, _, rfl, hr, hof, step_of hA hS⟩
theorem putR_any (h : RTab w b l S) (hl : l.length ≤ 1000000) (hX : Holds w A n c X) (hn : n + p.length ≤ 140737488000000) :
    Calls Try.prog 21 #[.pointer (some ⟨b, 0, Option.none⟩), .slice A n c, .string (mk p)] w (PutEndR w b S (X ++ putB l p) (putL l p)) := by
  obtain ⟨v, h, hS⟩ := h
  refine (refPut19_any b v l A n c X p w h hl hX hn).mono ?_
  rintro e w' ⟨r, u, rfl, hr, hof, hA⟩
  exact ⟨r, _, rfl, hr, hof, step_ofR hA hS⟩
theorem takeP_any (h : PTab w b l S) (hl : l.length ≤ 1000000) (hX : Holds w A n c X) (hn : n ≤ 140737488355328) :
    Calls Try.prog 32 #[.pointer (some ⟨b, 0, Option.none⟩), .slice A n c, .int .i64 q] w (TakeEnd w b S (takeB l X q) (takeL l X q)) := by
  obtain ⟨o, v, h, hS⟩ := h
  refine (take19_any b o v l A n c X q w h hl hX hn).mono ?_
  rintro e w' ⟨o1, u, rfl, hA⟩
  exact ⟨_, rfl, step_of hA hS⟩
theorem takeR_any (h : RTab w b l S) (hl : l.length ≤ 1000000) (hX : Holds w A n c X) (hn : n ≤ 140737488355328) :
    Calls Try.prog 27 #[.pointer (some ⟨b, 0, Option.none⟩), .slice A n c, .int .i64 q] w (TakeEndR w b S (takeB l X q) (takeL l X q)) := by
  obtain ⟨v, h, hS⟩ := h
  refine (refTake19_any b v l A n c X q w h hl hX hn).mono ?_
  rintro e w' ⟨u, rfl, hA⟩
  exact ⟨_, rfl, step_ofR hA hS⟩
theorem newP_any : Calls Try.prog 7 #[] w fun e w' => ∃ b S, e = .returned (.pointer (some ⟨b, 0, Option.none⟩)) ∧ PTab w' b [] S ∧ (∀ k, S k → w.heap.size ≤ k) ∧ Below w.heap.size w w' := by
  refine (new19_any w).mono ?_
  rintro e w' ⟨b, rfl, hP, h1, hb⟩
  exact ⟨b, _, rfl, ⟨_, _, hP, fun _ => Iff.rfl⟩, fun k hk => by
    rcases hk with rfl | hk | hk
    · exact h1
    · cases hk
    · simp [Value.ownBlock] at hk, hb⟩
end

/-- The list of the reference's table, as a walk loads it. -/
theorem RTab.list {w : World} {b : Nat} {l : List (List UInt8)} {S : Nat → Prop} (h : RTab w b l S) : ∃ A c, w.cell? ⟨b, 0, Option.none⟩ = some (.slice A l.length c) := by
  obtain ⟨v, h, _⟩ := h
  have hc := h.cell
  obtain ⟨A, c, rfl, _⟩ := h.own.texts
  exact ⟨A, c, hc⟩
/-- '&ref.Table{}' -/
theorem newR (w : World) (g : Nat) (hg : g = w.heap.size) : RTab (w.alloc (.cells #[.slice Option.none 0 0] 33)) g [] (fun k => k = g) := by
  subst hg
  exact ⟨.slice Option.none 0 0, ⟨heap_alloc_new w _, World.ownsRow_nil _ _ _ _, by simp [Value.ownBlock]⟩, fun k => ⟨.inl, fun hk => by
    rcases hk with hk | hk
    · exact hk
    · simp [Value.ownBlock] at hk⟩⟩

/-- Both tables, apart, in memory from block B on. -/
structure Duo (B : Nat) (w : World) (b1 : Nat) (l1 : List (List UInt8)) (S1 : Nat → Prop) (b2 : Nat) (l2 : List (List UInt8)) (S2 : Nat → Prop) : Prop where
  p : PTab w b1 l1 S1
  r : RTab w b2 l2 S2
  ap : ∀ k, S1 k → ¬ S2 k
  lo1 : ∀ k, S1 k → B ≤ k
  lo2 : ∀ k, S2 k → B ≤ k
section
variable {B : Nat} {w w' : World} {b1 b2 : Nat} {l1 l2 l' : List (List UInt8)} {S1 S2 S' : Nat → Prop}
theorem Duo.later (h : Duo B w b1 l1 S1 b2 l2 S2) (hb : Below w.heap.size w w') : Duo B w' b1 l1 S1 b2 l2 S2 := ⟨h.p.later hb, h.r.later hb, h.ap, h.lo1, h.lo2⟩
theorem Duo.stepP (h : Duo B w b1 l1 S1 b2 l2 S2) (hs : PStep w w' b1 S1 S' l') (hB : B ≤ w.heap.size) : Duo B w' b1 l' S' b2 l2 S2 :=
  ⟨hs.tab, h.r.alt hs.alt fun k h2 h1 => h.ap k h1 h2, fun k hk h2 => by
    rcases hs.new k hk with h1 | h1
    · exact h.ap k h1 h2
    · have := h.r.low k h2; omega, fun k hk => by
    rcases hs.new k hk with h1 | h1
    · exact h.lo1 k h1
    · omega, h.lo2⟩
theorem Duo.stepR (h : Duo B w b1 l1 S1 b2 l2 S2) (hs : RStep w w' b2 S2 S' l') (hB : B ≤ w.heap.size) : Duo B w' b1 l1 S1 b2 l' S' :=
  ⟨h.p.alt hs.alt h.ap, hs.tab, fun k h1 hk => by
    rcases hs.new k hk with h2 | h2
    · exact h.ap k h1 h2
    · have := h.p.low k h1; omega, h.lo1, fun k hk => by
    rcases hs.new k hk with h1 | h1
    · exact h.lo2 k h1
    · omega⟩
end
/-- A slice that lies in none of a table's blocks lies in none of its blocks behind a step. -/
theorem Off.next {w : World} {S S' : Nat → Prop} {A : Option Addr} {n c : Nat} {X : List Int} (h : Off S A n) (hX : Holds w A n c X) (hn : ∀ k, S' k → S k ∨ w.heap.size ≤ k) : Off S' A n := fun g off e h0 hs => by
  subst e
  have hg := hX.block h0
  rcases hn g hs with h1 | h1
  · exact h g off rfl h0 h1
  · omega
/-- Bytes that read as X and lie in no block of either table. -/
structure Bts (w : World) (v : Value) (X : List Int) (S1 S2 : Nat → Prop) : Prop where
  rd : ∃ A c, v = .slice A X.length c ∧ Holds w A X.length c X ∧ Off S1 A X.length ∧ Off S2 A X.length
section
variable {w w' : World} {v : Value} {X : List Int} {S1 S2 S' : Nat → Prop} {b : Nat} {l' : List (List UInt8)}
theorem Bts.stepP (h : Bts w v X S1 S2) (hs : PStep w w' b S1 S' l') : Bts w' v X S' S2 := by
  obtain ⟨A, c, rfl, hX, h1, h2⟩ := h.rd
  exact ⟨A, c, rfl, hX.alt hs.alt h1, h1.next hX hs.new, h2⟩
theorem Bts.stepR (h : Bts w v X S1 S2) (hs : RStep w w' b S2 S' l') : Bts w' v X S1 S' := by
  obtain ⟨A, c, rfl, hX, h1, h2⟩ := h.rd
  exact ⟨A, c, rfl, hX.alt hs.alt h2, h1, h2.next hX hs.new⟩
theorem Bts.later (h : Bts w v X S1 S2) (hb : Below w.heap.size w w') : Bts w' v X S1 S2 := by
  obtain ⟨A, c, rfl, hX, h1, h2⟩ := h.rd
  exact ⟨A, c, rfl, hX.later hb, h1, h2⟩
theorem bts_own {base : Nat} (h : Owns w base 5 v X) (h1 : OffV S1 v) (h2 : OffV S2 v) : Bts w v X S1 S2 := by
  obtain ⟨A, c, rfl, hX⟩ := h.holds
  exact ⟨A, c, rfl, hX, h1.off, h2.off⟩
end
end Go.Proofs.Ytkjnpdnihfohoaa
