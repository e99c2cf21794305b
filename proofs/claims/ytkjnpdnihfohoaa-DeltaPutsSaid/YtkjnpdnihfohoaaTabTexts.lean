/-
  'append' of texts of the call's own onto texts of the call's own. Conditions: those that each theorem states.
-/
import Derived.Test.YtkjnpdnihfohoaaTabTurn
import Derived.Test.YtkjnpdnihfohoaaLow
namespace Go.Proofs.Ytkjnpdnihfohoaa
open Go.RowKit Go.Lib Leb

theorem OwnsT.low {w : World} {base base' : Nat} {v : Value} {l : List (List UInt8)} (h : OwnsT w base v l) (hB : base' ≤ base) : OwnsT w base' v l := by
  refine ⟨h.1, ?_⟩
  rcases h.2 with hn | ⟨g, cap, cur, e1, hb, rest⟩
  · exact .inl hn
  · exact .inr ⟨g, cap, cur, e1, Nat.le_trans hB hb, rest⟩

section
variable {P : Program} {w : World}
theorem run_append_texts (base : Nat) (t ty : TypeId) (i : TypeInfo) (ht : P.underlying t = some (.slice 9)) (hi : P.info? 9 = some i) (hz : i.zero = some (.string ByteArray.empty)) (hs : i.size = 1) (hb : i.bytes = 16)
    {v : Value} {xs : List (List UInt8)} (hown : OwnsT w base v xs) {u : Value} {l : List (List UInt8)} {b0 : Nat} (h : OwnsT w b0 u l) (hlim : xs.length + l.length ≤ 1000000000) (hbase : base ≤ w.heap.size) :
    ∃ v' w', (Builtin.append_ #[t, t] ty #[v, u]).run P w = .ok v' w' ∧ OwnsT w' base v' (xs ++ l) ∧ w.grownBy w' v.ownBlock ∧ (v'.ownBlock = v.ownBlock ∨ v'.ownBlock = some w.heap.size) := by
  have hr := h.2
  rcases hr with ⟨rfl, h0⟩ | ⟨g, cap, cur, rfl, hg, hgg, hn, hm, _, _⟩
  · have hl : l = [] := List.eq_nil_of_length_eq_zero h0
    subst hl
    exact ⟨v, w, run_append_owned_none (P := P) w base t ty _ i 1 ht hi v _ _ hown, by simpa using hown, World.grownBy.refl w _, .inl rfl⟩
  · have hcs : ∀ j x, (l.map fun p => Value.string (mk p))[j]? = some x → w.cell? ((⟨g, 0, Option.none⟩ : Addr).add j) = some x := World.ownsRow.cells h (g := g) rfl
    have h63 : xs.length + l.length ≤ maxLen := by simp only [maxLen]; omega
    obtain ⟨v', w', hrun, h2, h3, _, h5⟩ := run_append_own_at (P := P) w base t ty _ i _ 1 16 ht hi hz hs hb rfl (by omega) v _ _ hown ⟨g, 0, Option.none⟩ l.length cap (l.map fun p => Value.string (mk p)) (by simp) hcs (fun x hx => by obtain ⟨y, _, rfl⟩ := List.mem_map.1 hx; rfl) h63 (by omega) hbase
    refine ⟨v', w', hrun, ?_, h3, h5⟩
    unfold OwnsT
    rw [List.length_append, List.map_append]
    exact h2
theorem wpList_append_texts {ops : Array Oper} {rest : List Oper} {o : Oper} {a : Act} {Q : Exit → Act → World → Prop} (hgd : o.guard = Option.none) (s x : Operand) (t : TypeId)
    (ho : o.op = .call { callee := .builtin .append, args := #[s, x], argTypes := #[t, t] })
    (base : Nat) (i : TypeInfo) (ht : P.underlying t = some (.slice 9)) (hi : P.info? 9 = some i) (hz : i.zero = some (.string ByteArray.empty)) (hz1 : i.size = 1) (hz2 : i.bytes = 16)
    (v : Value) (xs : List (List UInt8)) (hs : a.eval s = v) (hown : OwnsT w base v xs) (u : Value) (l : List (List UInt8)) (b0 : Nat) (hx : a.eval x = u) (h : OwnsT w b0 u l)
    (hlim : xs.length + l.length ≤ 1000000000) (hbase : base ≤ w.heap.size)
    (hK : ∀ v' w', OwnsT w' base v' (xs ++ l) → w.grownBy w' v.ownBlock → (v'.ownBlock = v.ownBlock ∨ v'.ownBlock = some w.heap.size) → wpList P ops Q rest (a.put o.dst v') w') : wpList P ops Q (o :: rest) a w :=
  wpList_plain hgd fun _ hK' => by
    obtain ⟨v', w', hrun, h2, h3, h4⟩ := run_append_texts (P := P) base t o.type i ht hi hz hz1 hz2 hown h hlim hbase
    unfold Oper.wp execOp
    simp only [ho, resolve, invoke, builtin, Sem.run_bind, Sem.run_pure, Result.andThen_ok, List.map_toArray, List.map_cons, List.map_nil, hs, hx, hrun]
    exact hK' _ _ (hK v' w' h2 h3 h4)
end

/-- A new block of texts is the call's own. -/
theorem owns_texts (w : World) (l : List (List UInt8)) (hm : l.length ≤ maxLen) (cs : Array Value) (hcs : cs = (l.map fun p => Value.string (mk p)).toArray) : OwnsT (w.alloc (.cells cs 9)) w.heap.size (.slice (some ⟨w.heap.size, 0, Option.none⟩) l.length l.length) l := by
  subst hcs
  have := World.ownsRow_lit (base := w.heap.size) (size := 1) (e := 9) w (l.map fun p => Value.string (mk p)).toArray l.length (Nat.le_refl _) hm (by simp)
  simpa [OwnsT] using this
/-- An own slice of texts lies where S does not hold, if S holds of older blocks alone. -/
theorem OwnsT.off {w : World} {S : Nat → Prop} {base : Nat} {v : Value} {l : List (List UInt8)} (h : OwnsT w base v l) (hS : ∀ j, S j → j < base) : OffV S v := fun g hg hs => by
  have := (World.ownsRow.lt h g hg).1
  have := hS g hs
  omega
theorem OwnsT.lt {w : World} {base : Nat} {v : Value} {l : List (List UInt8)} (h : OwnsT w base v l) {g : Nat} (hg : v.ownBlock = some g) : base ≤ g ∧ g < w.heap.size := World.ownsRow.lt h g hg

/-- The call's own bytes r grow beside a table whose blocks T names: nothing of the table is written. -/
structure Apar (B : Nat) (T : Nat → Prop) (W0 W : World) (r : Value) (Y : List Int) : Prop where
  own : Owns W B 5 r Y
  off : OffV T r
  alt : Alt W0 W (fun k => B ≤ k ∧ ¬ T k)
section
variable {B : Nat} {T : Nat → Prop} {W0 W W1 W2 : World} {r r' : Value} {Y Y' : List Int}
theorem Apar.app (h : Apar B T W0 W r Y) (hT : ∀ k, T k → k < W0.heap.size) (hb : Below W.heap.size W W1) (hown : Owns W2 B 5 r' Y') (hg : W1.grownBy W2 r.ownBlock)
    (hat : r'.ownBlock = r.ownBlock ∨ r'.ownBlock = some W1.heap.size) : Apar B T W0 W2 r' Y' := by
  refine ⟨hown, fun g hg' ht => ?_, (h.alt.behind hb).trans (alt_grown hg (S := fun k => B ≤ k ∧ ¬ T k) fun k hk => ⟨(h.own.2.lt k hk).1, h.off k hk⟩) fun _ _ h => h⟩
  rcases hat with hat | hat
  · exact h.off g (by rw [← hat, hg']) ht
  · rw [hat] at hg'
    injection hg' with hg'
    have h1 := hT g ht
    have h2 := h.alt.size
    have h3 := hb.size
    omega
theorem Apar.own1 (h : Apar B T W0 W r Y) (hb : Below W.heap.size W W1) : Owns W1 B 5 r Y := h.own.kept hb (Nat.le_refl _)
theorem Apar.size (h : Apar B T W0 W r Y) : W0.heap.size ≤ W.heap.size := h.alt.size
end
end Go.Proofs.Ytkjnpdnihfohoaa
