/-
  intern's Put. Conditions: those that each theorem states.
-/
import Derived.Test.YtkjnpdnihfohoaaTabPT
import Derived.Test.YtkjnpdnihfohoaaPut
import Derived.Lib.AppendStr
namespace Go.Proofs.Ytkjnpdnihfohoaa
open Go.RowKit Go.Lib Go.Maps Go.WideMaps Leb

theorem PAdd.same {w w' : World} {b : Nat} {o : Option Nat} {v : Value} {l : List (List UInt8)} (h : PT w b o v l) (hb : Below w.heap.size w w') : PAdd w w' b o o v v l := ⟨h.later hb, alt_below hb _, .inl rfl, .inl rfl⟩
/-- The new blocks of a table are its old ones, or blocks made since. -/
theorem PAdd.inNew {w w' : World} {b : Nat} {o o' : Option Nat} {v u : Value} {l' : List (List UInt8)} (h : PAdd w w' b o o' v u l') : ∀ k, inP b o' u k → inP b o v k ∨ w.heap.size ≤ k := fun k hk => by
  rcases hk with hk | hk | hk
  · exact .inl (.inl hk)
  · rcases h.newm with e | e
    · exact .inl (.inr (.inl (by rw [← e]; exact hk)))
    · exact .inr (e k hk)
  · rcases h.new with e | e
    · exact .inl (.inr (.inr (by rw [← e]; exact hk)))
    · exact .inr (e k hk)
theorem PAdd.on {w w1 w' : World} {b : Nat} {o o' : Option Nat} {v u : Value} {l' : List (List UInt8)} (h : PAdd w w1 b o o' v u l') (ha : Alt w1 w' (fun k => w1.heap.size ≤ k)) : PAdd w w' b o o' v u l' :=
  ⟨h.tab.alt ha fun k hk hs => by have := h.tab.low k hk; omega, h.alt.trans ha fun j hj hs => by have := h.alt.size; omega, h.newm, h.new⟩
theorem bytes_congr {a b : List Int} (h : Bytes a) (e : a = b) : Bytes b := e ▸ h
theorem strCells_mk (p : List UInt8) : strCells (mk p) = (nums p).map (Value.int .u8) := by simp [strCells, mk, nums]

section
variable (b : Nat) (o : Option Nat) (v : Value) (l : List (List UInt8)) (A : Option Addr) (n c : Nat) (X : List Int) (p : List UInt8) (w : World)
set_option maxRecDepth 100000 in
theorem put19_nil : Calls Try.prog 17 #[.pointer Option.none, .slice A n c, .string (mk p)] w fun e w' => e = .returned (.slice Option.none 0 0) ∧ w = w' := by
  go_enter Try.func17, Try.ntmps17
  go_wp2
  go_ret
  exact ⟨rfl, rfl⟩

set_option maxHeartbeats 4000000 in
set_option maxRecDepth 100000 in
theorem put19_old (h : PT w b o v l) (hl : l.length ≤ 1000000) (hX : Holds w A n c X) (hn : n + p.length ≤ 140737488000000) (hp : numT l p ≠ 0) :
    Calls Try.prog 17 #[.pointer (some ⟨b, 0, Option.none⟩), .slice A n c, .string (mk p)] w (Gives w 5 (X ++ enc (numT l p))) := by
  have hkey := key_mk (p := p) (by simp only [maxLen]; omega)
  have hmap := Lib.hid h.map
  have hc1 := h.cell1
  have hle := numT_le l p
  obtain ⟨k, hk⟩ : ∃ k, k = numT l p := ⟨_, rfl⟩
  rw [← hk] at hle ⊢
  have hU : U64 k := by unfold U64; omega
  have hwr := wrap_of hU
  have hput := Lib.hid (put_any A n c X k w hU hX (by omega))
  obtain ⟨s, hs⟩ : ∃ s, s = mk p := ⟨_, rfl⟩
  rw [← hs] at hkey ⊢
  have hkey' := Lib.hid hkey
  have hp' := Lib.hid hp
  have hk' := Lib.hid hk
  clear h hX hs hU hk hkey hp hle
  go_enter Try.func17, Try.ntmps17
  go_wp2_with (first
    | (at_lookup; refine wpList_lookup_tab rfl _ _ rfl _ l rfl hmap.out _ p rfl hkey'.out ?_; intro z hz; have hz2 : z = (k : Int) := (hz hp'.out).trans (by rw [hk'.out]); subst hz2; clear hz; rw [decide_eq_true hp'.out])
    | (go_at_call 16; refine hput.out.mono ?_; rintro e w2 ⟨v2, rfl, hown2, hb2⟩))
  go_ret
  exact ⟨_, rfl, hown2, hb2⟩

set_option maxHeartbeats 8000000 in
set_option maxRecDepth 100000 in
theorem put19_new (h : PT w b o v l) (hl : l.length ≤ 1000000) (hX : Holds w A n c X) (ho : Off (inP b o v) A n) (hn : n + p.length ≤ 140737488000000) (hp : numT l p = 0) :
    Calls Try.prog 17 #[.pointer (some ⟨b, 0, Option.none⟩), .slice A n c, .string (mk p)] w fun e w' => ∃ r o' u, e = .returned r ∧ Owns w' w.heap.size 5 r (X ++ (0 :: enc p.length ++ nums p)) ∧ OffV (inP b o' u) r ∧ PAdd w w' b o o' v u (l ++ [p]) := by
  obtain ⟨i0, hi, hz0, hz1, hz2⟩ := info_parts Try.info8
  have hmap := Lib.hid h.map
  have hml : p.length ≤ maxLen := by simp only [maxLen]; omega
  have hkey := key_mk hml
  have hc1 := h.cell1
  have hadd := Lib.hid (add_any b o v l p w h hl hp hml)
  obtain ⟨Y, hY⟩ : ∃ Y, Y = X ++ enc 0 := ⟨_, rfl⟩
  have hX' := Lib.hid (fun W (hA : Alt w W (inP b o v)) => put_any A n c X 0 W (show U64 0 by unfold U64; omega) (hX.alt hA ho) (by omega))
  rw [← hY] at hX'
  have hYl : Y.length = n + 1 := by rw [hY, enc_small (by omega), List.length_append, hX.len]; rfl
  have hU : U64 p.length := by unfold U64; omega
  have hwr := wrap_of hU
  have hU' := Lib.hid hU
  have hY0 := Lib.hid (show Y = X ++ [0] by rw [hY, enc_small (by omega)]; rfl)
  have hYl' := Lib.hid hYl
  have hszk := Lib.hid (show (enc p.length).length ≤ 10 from size_le10 hU)
  have hsz : (mk p).size = p.length := mk_size p
  have hcs := Lib.hid (strCells_mk p)
  obtain ⟨m, hm⟩ : ∃ m, m = p.length := ⟨_, rfl⟩
  rw [← hm] at hsz hwr hn hszk
  have hmi : (m : Int) ≤ 9223372036854775807 := by omega
  have hn' := Lib.hid hn
  have hm' := Lib.hid hm
  have hp' := Lib.hid hp
  obtain ⟨s, hs⟩ : ∃ s, s = mk p := ⟨_, rfl⟩
  rw [← hs] at hkey hadd hcs hsz ⊢
  have hkey' := Lib.hid hkey
  have tok1 : True := trivial
  have tok2 : True := trivial
  rw [← hm] at hU'
  clear h hX hs hU hkey hm hp hl hml ho hn hY hYl
  go_enter Try.func17, Try.ntmps17
  go_wp2_with (first
    | (at_lookup; refine wpList_lookup_tab rfl _ _ rfl _ l rfl hmap.out _ p rfl hkey'.out ?_; intro z hz; clear hz; rw [decide_eq_false (fun e => e hp'.out)])
    | (go_at_call 29; refine hadd.out.mono ?_; rintro e w1 ⟨rfl, o1, u, hA⟩; have hA' := Lib.hid hA; clear hA)
    | (go_at_call 16; have _t := tok1; refine (hX'.out w1 hA'.out.alt).mono ?_; rintro e w2 ⟨v2, rfl, hown2, hb2⟩; have hb2' := Lib.hid hb2; obtain ⟨A2, c2, rfl, hH2⟩ := hown2.holds; have hH2' := Lib.hid hH2; clear hb2 hown2 hH2 tok1)
    | (go_at_call 16; have _t := tok2; refine (put_any A2 _ c2 Y m w2 hU'.out hH2'.out (by have := hn'.out; have := hYl'.out; omega)).mono ?_; rintro e w3 ⟨v3, rfl, hown3, hb3⟩; have hb3' := Lib.hid hb3; have hown3' := Lib.hid hown3; clear hb3 hown3 tok2)
    | (at_builtin; refine wpList_append_own_string _ rfl (.tmp 35) (.tmp 36) 22 9 rfl w2.heap.size 5 i0 Try.underlying22 Try.underlying9 hi hz0 hz1 hz2 _ _ _ rfl hown3'.out.2 s rfl (by have := hn'.out; have := hYl'.out; have := hszk.out; rw [hsz]; simp only [maxLen, List.length_append]; omega) (by have := hn'.out; have := hYl'.out; have := hszk.out; rw [hsz]; simp only [List.length_append]; omega) hb3'.out.size ?_; intro v4 w4 hown4 hg4 _; have hown4' := Lib.hid hown4; have hg4' := Lib.hid hg4; clear hown4 hg4))
  go_ret
  have hown4 := hown4'.out
  rw [hcs.out, hsz, hm'.out] at hown4
  have hown : Owns w4 w2.heap.size 5 v4 (X ++ (0 :: enc p.length ++ nums p)) := by
    refine ⟨bytes_congr (hown3'.out.1.append (nums_bytes p)) (by rw [hY0.out, hm'.out]; simp), ?_⟩
    have e : X ++ (0 :: enc p.length ++ nums p) = Y ++ enc m ++ nums p := by rw [hY0.out, hm'.out]; simp
    rw [e, List.map_append, List.length_append, nums_len, hm'.out]
    exact hown4
  have hs1 := hA'.out.alt.size
  have hs2 := hb2'.out.size
  have hin := hA'.out.tab.low
  refine ⟨_, _, _, rfl, hown.low (Nat.le_trans hs1 hs2), fun g hg ht => ?_, hA'.out.on (((alt_below hb2'.out _).trans (alt_below hb3'.out _) fun _ _ h => h).trans (alt_grown hg4'.out (S := fun k => w1.heap.size ≤ k) fun k hk => ?_) fun _ _ h => h)⟩
  · have h1 := (hown.2.lt g hg).1
    have h2 := hin g ht
    omega
  · have h1 := (hown3'.out.2.lt k hk).1
    omega

theorem put19_any (h : PT w b o v l) (hl : l.length ≤ 1000000) (hX : Holds w A n c X) (ho : Off (inP b o v) A n) (hn : n + p.length ≤ 140737488000000) :
    Calls Try.prog 17 #[.pointer (some ⟨b, 0, Option.none⟩), .slice A n c, .string (mk p)] w fun e w' => ∃ r o' u, e = .returned r ∧ Owns w' w.heap.size 5 r (X ++ putB l p) ∧ OffV (inP b o' u) r ∧ PAdd w w' b o o' v u (putL l p) := by
  by_cases hp : numT l p = 0
  · rw [putB_new hp, putL_new hp]
    exact put19_new b o v l A n c X p w h hl hX ho hn hp
  · rw [putB_old hp, putL_old hp]
    refine (put19_old b o v l A n c X p w h hl hX hn hp).mono ?_
    rintro e w' ⟨r, rfl, hr, hb⟩
    exact ⟨r, _, v, rfl, hr, hr.off h.low, PAdd.same h hb⟩
end
end Go.Proofs.Ytkjnpdnihfohoaa
