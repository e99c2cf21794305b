/-
  Plain facts on pieces of which bits within 32 in a row are turned: where a piece stands, that a turned one is refused, that one left as it was is not. No program is spoken of here.
-/
import Derived.Test.YtaabhnjikggomaaChunkAwake
namespace Go.Proofs.Ytaabhnjikggomaa
open Go.RowKit Leb

theorem whole_append : ∀ (a b : List Int), Cyc.whole (a ++ b) = 2 ^ (8 * a.length) * Cyc.whole b + Cyc.whole a
  | [], b => by simp [Cyc.whole]
  | x :: a, b => by
    rw [List.cons_append, Cyc.whole, whole_append a b, Cyc.whole, List.length_cons, show 8 * (a.length + 1) = 8 + 8 * a.length by omega, Nat.pow_add, Nat.mul_add, Nat.mul_assoc, Nat.add_assoc]
theorem whole_inj : ∀ {a b : List Int}, Bytes a → Bytes b → a.length = b.length → Cyc.whole a = Cyc.whole b → a = b
  | [], [], _, _, _, _ => rfl
  | [], _ :: _, _, _, h, _ => by simp at h
  | _ :: _, [], _, _, h, _ => by simp at h
  | x :: a, y :: b, ha, hb, hl, hw => by
    have hx := ha x (by simp)
    have hy := hb y (by simp)
    simp only [Cyc.whole] at hw
    have e1 : Cyc.whole a = Cyc.whole b := by omega
    rw [whole_inj (fun z hz => ha z (by simp [hz])) (fun z hz => hb z (by simp [hz])) (by simpa using hl) e1, show x = y by omega]
theorem whole_four {v : Nat} (hv : v < 4294967296) : Cyc.whole (four v) = v := by
  simp only [four, Cyc.whole, Int.toNat_natCast]
  omega

/-- What is left of a text and its checksum, taken together, is one number. -/
theorem reg_whole_sum {x : List Int} (hx : Bytes x) : Cyc.reg 4294967295 (x ++ sum4 tab0 x) = Cyc.stps 32 4294967295 := by
  have h1 : Cyc.byTab tab0 4294967295 x = Cyc.reg 4294967295 x := by rw [byTab_tab0 x _ hx, Cyc.byTab_tab x _ hx]
  have h2 : Cyc.reg 4294967295 x < 4294967296 := Cyc.reg_lt x hx (by omega)
  rw [Cyc.reg_append, sum4, h1]
  generalize Cyc.reg 4294967295 x = r at *
  rw [Cyc.reg_whole _ _ (four_bytes (by omega)), whole_four (by omega)]
  have e : r ^^^ (4294967295 - r) = 4294967295 := by
    rw [← Cyc.not32 h2, Nat.xor_comm 4294967295 r, ← Nat.xor_assoc, Nat.xor_self, Nat.zero_xor]
  rw [e]
  rfl

/-- A turned text does not bear its checksum. -/
theorem turned_bad {h c : List Int} (hh : Bytes h) (hc : Bytes c) {p : Nat} {z' : List Int} {same : Bool} (ht : Turned (c ++ sum4 tab0 (h ++ c)) p 32 z' same) (hp : p ≤ 8 * (c.length + 4)) :
    (same = true → z' = c ++ sum4 tab0 (h ++ c)) ∧ (same = false → sum4 tab0 (h ++ z'.take c.length) ≠ z'.drop c.length) := by
  have hz : Bytes (c ++ sum4 tab0 (h ++ c)) := hc.append ((sum4_sums tab0).byt _)
  obtain ⟨e, h1, h2, h3, h4, h5⟩ := ht
  constructor
  · intro hs
    rw [hs] at h5
    have e0 : e = 0 := by simpa using h5.symm
    rw [e0] at h4
    exact whole_inj h3 hz h2 (by simpa using h4)
  · intro hs heq
    rw [hs] at h5
    have e0 : e ≠ 0 := by simpa using h5.symm
    have hzl : z' = z'.take c.length ++ z'.drop c.length := (List.take_append_drop _ _).symm
    have hr1 : Cyc.reg 4294967295 (h ++ z') = Cyc.stps 32 4294967295 := by
      rw [hzl, ← heq, ← List.append_assoc]
      exact reg_whole_sum (hh.append (h3.take _))
    have hr2 : Cyc.reg 4294967295 (h ++ (c ++ sum4 tab0 (h ++ c))) = Cyc.stps 32 4294967295 := by
      rw [← List.append_assoc]
      exact reg_whole_sum (hh.append hc)
    have hl : (c ++ sum4 tab0 (h ++ c)).length = c.length + 4 := by rw [List.length_append, (sum4_sums tab0).len]
    have hw : Cyc.whole (h ++ z') = Cyc.whole (h ++ (c ++ sum4 tab0 (h ++ c))) ^^^ 2 ^ (8 * h.length + p) * e := by
      have hwl := Cyc.whole_lt h hh
      rw [whole_append, whole_append, h4, Cyc.add_xor _ hwl, Cyc.add_xor _ hwl, pow_mul_xor, Nat.pow_add, Nat.mul_assoc, Nat.xor_assoc, Nat.xor_comm (2 ^ (8 * h.length) * (2 ^ p * e)), ← Nat.xor_assoc]
    have := (Cyc.reg_apart (x := h ++ (c ++ sum4 tab0 (h ++ c))) (y := h ++ z') (hh.append hz) (hh.append h3) (by simp [h2]) (e := e) (p := 8 * h.length + p) (by simpa using h1) (by rw [List.length_append, hl]; omega) hw 4294967295).1 (hr1.trans hr2.symm)
    exact e0 this

/-- Full pieces ahead are read. -/
theorem unp_skip {S : List Int → List Int} (hS : Chunk.Sums S) (r : List Int) : ∀ (cs : List (List Int)) (f : Nat) (a acc : List Int), (∀ c ∈ cs, c.length = 256) →
    Chunk.unp S (a ++ (cs.map (Chunk.piece S)).flatten ++ r) (f + cs.length) a.length true acc = Chunk.unp S (a ++ (cs.map (Chunk.piece S)).flatten ++ r) f (a ++ (cs.map (Chunk.piece S)).flatten).length true (acc ++ cs.flatten)
  | [], f, a, acc, _ => by simp
  | c :: cs, f, a, acc, h => by
    have hc := h c (by simp)
    have e0 : a ++ ((c :: cs).map (Chunk.piece S)).flatten ++ r = a ++ Chunk.piece S c ++ ((cs.map (Chunk.piece S)).flatten ++ r) := by simp
    have e1 : a ++ ((c :: cs).map (Chunk.piece S)).flatten ++ r = (a ++ Chunk.piece S c) ++ (cs.map (Chunk.piece S)).flatten ++ r := by simp
    have hr := Chunk.rd_piece hS a ((cs.map (Chunk.piece S)).flatten ++ r) (c := c) (full := true) (by omega) (fun h => by cases h)
    have hcn : c ≠ [] := fun h => by rw [h] at hc; simp at hc
    rw [← e0] at hr
    rw [List.length_cons, ← Nat.add_assoc, Chunk.unp, hr]
    simp only [ne_eq, not_true_eq_false, if_false, hcn, Int.toNat_natCast, hc, decide_true]
    have ih := unp_skip hS r cs f (a ++ Chunk.piece S c) (acc ++ c) (fun x hx => h x (by simp [hx]))
    rw [← e1] at ih
    rw [ih]
    congr 1
    · simp
    · simp

/-- A piece whose checksum does not fit. -/
theorem rd_bad {S : List Int → List Int} (a r : List Int) {c q : List Int} (hc : c.length ≤ 256) (hq : q.length = 4) (hs : S (enc c.length ++ c) ≠ q) :
    Chunk.rd S (a ++ (enc c.length ++ c ++ q) ++ r) a.length true = ([], 0, 6) := by
  have ht : take (a ++ (enc c.length ++ c ++ q) ++ r) a.length = (c.length, (((a ++ enc c.length).length : Nat) : Int), 0) := by
    have := take_enc a (c ++ q ++ r) (n := c.length) (by omega)
    rw [← this]
    congr 1
    simp
  rw [rd_rest ht hc (fun _ => rfl)]
  have hl : (a ++ (enc c.length ++ c ++ q) ++ r).length = (a ++ enc c.length).length + c.length + 4 + r.length := by simp [hq]; omega
  have e1 : ((a ++ (enc c.length ++ c ++ q) ++ r).drop a.length).take ((a ++ enc c.length).length + c.length - a.length) = enc c.length ++ c := by
    rw [List.append_assoc, List.drop_left, show (a ++ enc c.length).length + c.length - a.length = (enc c.length ++ c).length by simp; omega, List.append_assoc (enc c.length ++ c), List.take_left]
  have e2 : (a ++ (enc c.length ++ c ++ q) ++ r).drop ((a ++ enc c.length).length + c.length) = q ++ r := by
    rw [show (a ++ enc c.length).length + c.length = (a ++ (enc c.length ++ c)).length by simp; omega, show a ++ (enc c.length ++ c ++ q) ++ r = (a ++ (enc c.length ++ c)) ++ (q ++ r) by simp, List.drop_left]
  rw [if_neg (by omega), e1, e2, show (q ++ r).take 4 = q by rw [← hq, List.take_left], if_pos hs]

/-- The pieces of l: those before number k, that one, and those behind. -/
theorem pack_split (S : List Int → List Int) {l : List Int} {k : Nat} (hk : k < Chunk.many l) : ∃ post, Chunk.pack S l = outsR S l k ++ Chunk.piece S (Chunk.part l k) ++ post := by
  refine ⟨((((List.range (Chunk.many l)).drop (k + 1)).map (Chunk.part l) ++ [[]]).map (Chunk.piece S)).flatten, ?_⟩
  have e : List.range (Chunk.many l) = List.range k ++ [k] ++ (List.range (Chunk.many l)).drop (k + 1) := by
    have h1 : List.range (k + 1) = (List.range (Chunk.many l)).take (k + 1) := by
      rw [List.take_range]
      congr 1
      omega
    rw [← List.range_succ, h1, List.take_append_drop]
  unfold Chunk.pack Chunk.parts outsR
  rw [show min k (Chunk.many l) = k by omega]
  conv => lhs; rw [e]
  simp

theorem part_full {l : List Int} {k i : Nat} (hk : k < Chunk.many l) (hi : i < k) : (Chunk.part l i).length = 256 := by
  rw [Chunk.part_length]
  unfold Chunk.many at hk
  omega

/-- Turned pieces are refused, and those that are left as they were are not. -/
theorem spoilt {l : List Int} (hl : Bytes l) {k : Nat} (hk : k < Chunk.many l) {post : List Int} (hp : Chunk.pack (sum4 tab0) l = outsR (sum4 tab0) l k ++ Chunk.piece (sum4 tab0) (Chunk.part l k) ++ post)
    {p : Nat} {z' : List Int} {same : Bool} (ht : Turned (Chunk.part l k ++ sum4 tab0 (enc (Chunk.part l k).length ++ Chunk.part l k)) p 32 z' same) (hpp : p ≤ 8 * ((Chunk.part l k).length + 4)) :
    Chunk.unpack (sum4 tab0) (outsR (sum4 tab0) l k ++ enc (Chunk.part l k).length ++ z' ++ post) 0 = if same = true then (l, ((Chunk.pack (sum4 tab0) l).length : Int), 0) else ([], 0, 6) := by
  have hc : (Chunk.part l k).length ≤ 256 := by rw [Chunk.part_length]; omega
  have hbc : Bytes (Chunk.part l k) := (hl.drop _).take _
  have hb := turned_bad (enc_bytes _) hbc ht hpp
  have hz : z'.length = (Chunk.part l k).length + 4 := by
    obtain ⟨_, _, h2, _⟩ := ht
    rw [h2, List.length_append, (sum4_sums tab0).len]
  cases same with
  | true =>
    rw [if_pos rfl, hb.1 rfl]
    have e : outsR (sum4 tab0) l k ++ enc (Chunk.part l k).length ++ (Chunk.part l k ++ sum4 tab0 (enc (Chunk.part l k).length ++ Chunk.part l k)) ++ post = [] ++ Chunk.pack (sum4 tab0) l ++ [] := by
      rw [hp, Chunk.piece]
      simp
    have := Chunk.unpack_pack (sum4_sums tab0) [] l []
    rw [e]
    simpa using this
  | false =>
    rw [if_neg (by simp)]
    have hcl : (z'.take (Chunk.part l k).length).length = (Chunk.part l k).length := by rw [List.length_take]; omega
    have hbad := rd_bad (S := sum4 tab0) (outsR (sum4 tab0) l k) post (c := z'.take (Chunk.part l k).length) (q := z'.drop (Chunk.part l k).length) (by omega) (by rw [List.length_drop]; omega) (by rw [hcl]; exact hb.2 rfl)
    rw [hcl, List.append_assoc (enc _), List.take_append_drop] at hbad
    have hcs : outsR (sum4 tab0) l k = (((List.range k).map (Chunk.part l)).map (Chunk.piece (sum4 tab0))).flatten := by
      unfold outsR
      rw [show min k (Chunk.many l) = k by omega]
    have hsk := unp_skip (sum4_sums tab0) (enc (Chunk.part l k).length ++ z' ++ post) ((List.range k).map (Chunk.part l)) ((outsR (sum4 tab0) l k ++ enc (Chunk.part l k).length ++ z' ++ post).length + 1 - k) [] [] (fun c hc => by
      rw [List.mem_map] at hc
      obtain ⟨i, hi, rfl⟩ := hc
      exact part_full hk (List.mem_range.1 hi))
    rw [← hcs] at hsk
    have hkl : k ≤ (outsR (sum4 tab0) l k).length := by
      have : ∀ m, m ≤ k → m ≤ (outsR (sum4 tab0) l m).length := by
        intro m
        induction m with
        | zero => intro _; omega
        | succ m ih =>
          intro hm
          rw [outsR_step (by omega), List.length_append, Chunk.piece_length (sum4_sums tab0)]
          have := ih (by omega)
          omega
      exact this k (Nat.le_refl _)
    have e1 : outsR (sum4 tab0) l k ++ enc (Chunk.part l k).length ++ z' ++ post = [] ++ outsR (sum4 tab0) l k ++ (enc (Chunk.part l k).length ++ z' ++ post) := by simp
    have e2 : outsR (sum4 tab0) l k ++ enc (Chunk.part l k).length ++ z' ++ post = outsR (sum4 tab0) l k ++ (enc (Chunk.part l k).length ++ z') ++ post := by simp
    have e3 : (outsR (sum4 tab0) l k ++ enc (Chunk.part l k).length ++ z' ++ post).length + 1 - k + ((List.range k).map (Chunk.part l)).length = (outsR (sum4 tab0) l k ++ enc (Chunk.part l k).length ++ z' ++ post).length + 1 := by
      simp only [List.length_append, List.length_map, List.length_range]
      omega
    have e4 : (outsR (sum4 tab0) l k ++ enc (Chunk.part l k).length ++ z' ++ post).length + 1 - k = ((outsR (sum4 tab0) l k ++ enc (Chunk.part l k).length ++ z' ++ post).length - k) + 1 := by
      simp only [List.length_append]
      omega
    unfold Chunk.unpack
    rw [if_neg (by omega), Int.toNat_zero]
    rw [e3, ← e1] at hsk
    rw [show ([] : List Int).length = 0 by rfl] at hsk
    rw [hsk, e4, List.nil_append]
    refine unp_stop ?_ (by decide)
    rw [e2]
    exact hbad
end Go.Proofs.Ytaabhnjikggomaa
