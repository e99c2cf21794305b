/-
  Ask of layer 14, as the program and as the reference have it. Conditions: those that each theorem states.
-/
import Derived.Test.YtalnjlodldhfbaaGreatDoorPreNeeds
import Derived.Test.YtalnjlodldhfbaaGreatDoorLow
import Derived.Test.YtalnjlodldhfbaaGreatDoorHeadLib
namespace Go.Proofs.YtalnjlodldhfbaaGreatDoor
open Go.RowKit Go.Lib Go.Shelf

/-- Texts joined with commas. -/
def joinC (ts : List (List UInt8)) : List UInt8 := Lib.join ts [44]
theorem joinC_one (t : List UInt8) : joinC [t] = t := Lib.join_one _ _
theorem joinC_snoc {ts : List (List UInt8)} (t : List UInt8) (h : ts ≠ []) : joinC (ts ++ [t]) = joinC ts ++ [44] ++ t := by
  cases ts with
  | nil => exact absurd rfl h
  | cons y r =>
    unfold joinC
    rw [List.cons_append, Lib.join_cons, Lib.join_cons]
    simp [Lib.joinTail, List.append_assoc]
theorem lens_le {ts : List (List UInt8)} {B : Nat} (h : ∀ t ∈ ts, t.length ≤ B) : Lib.lens ts ≤ ts.length * B := by
  induction ts with
  | nil => simp [Lib.lens]
  | cons x r ih =>
    have h1 := h x (by simp)
    have h2 := ih fun t ht => h t (by simp [ht])
    simp only [Lib.lens, List.map_cons, List.sum_cons, List.length_cons, Nat.succ_mul] at h2 ⊢
    omega
theorem joinC_len (ts : List (List UInt8)) : (joinC ts).length ≤ Lib.lens ts + ts.length := by
  cases ts with
  | nil => simp [joinC, Lib.join_nil]
  | cons x r =>
    unfold joinC
    rw [Lib.join_length]
    simp only [List.length_cons, List.length_nil]
    omega
/-- The names of few headers, not too long, joined. -/
theorem joinC_le {l : List Hd} (hn : l.length ≤ 1000) (hB : bytesIn l ≤ 10000000) (k : Nat) : (joinC ((uns l).take k)).length ≤ 20000000000 := by
  have h1 := joinC_len ((uns l).take k)
  have h2 := lens_le (ts := (uns l).take k) (B := 10000000) fun t ht => by
    have := uns_mem_len (l := l) (B := 10000000) (fun x hx => by have := bytesIn_mem hx; omega) t (List.mem_of_mem_take ht)
    exact this
  have h3 := uns_len l
  have h4 : ((uns l).take k).length ≤ 1000 := by rw [List.length_take]; omega
  have h5 : ((uns l).take k).length * 10000000 ≤ 1000 * 10000000 := Nat.mul_le_mul_right _ h4
  omega

abbrev askA : Hd := (⟨#[65, 99, 99, 101, 112, 116]⟩, ⟨#[42, 47, 42]⟩)
abbrev askM : ByteArray := ⟨#[65, 99, 99, 101, 115, 115, 45, 67, 111, 110, 116, 114, 111, 108, 45, 82, 101, 113, 117, 101, 115, 116, 45, 77, 101, 116, 104, 111, 100]⟩
abbrev askH : ByteArray := ⟨#[65, 99, 99, 101, 115, 115, 45, 67, 111, 110, 116, 114, 111, 108, 45, 82, 101, 113, 117, 101, 115, 116, 45, 72, 101, 97, 100, 101, 114, 115]⟩
abbrev askO : ByteArray := ⟨#[79, 114, 105, 103, 105, 110]⟩
/-- What is asked: s is the origin, x the method, ns the names. -/
def asked (s x : ByteArray) (ns : List (List UInt8)) : List Hd := ([askA, (askM, x)] ++ (if ns.isEmpty then [] else [(askH, mk (joinC ns))])) ++ [(askO, s)]

theorem comma_any (A : Option Addr) (n c : Nat) (ts : List (List UInt8)) (w : World) (h : Strs w A n c (ts.map mk)) (hN : n ≤ 140737488355328) (hlen : (joinC ts).length ≤ 140737488355328) :
    Calls Tryz.prog 23 #[.slice A n c, .string ⟨#[44]⟩] w fun e w' => e = .returned (.string (mk (joinC ts))) ∧ Below w.heap.size w w' := by
  have hj : (Lib.join ((ts.map mk).map (·.data.toList)) (⟨#[44]⟩ : ByteArray).data.toList) = joinC ts := by
    rw [List.map_map]
    unfold joinC
    congr 1
    conv => rhs; rw [← List.map_id ts]
    apply List.map_congr_left
    intro t _
    exact mk_list t
  by_cases hn : 0 < n
  · obtain ⟨b, off, rfl, hlt, hc⟩ := h.cell hn
    have e := h.len
    subst e
    have h1 := Any.strings_Join Tryz.lays156 Tryz.extra156 b off c (ts.map mk) ⟨#[44]⟩ w (fun j x hx => by
      obtain ⟨hj, e⟩ := List.getElem?_eq_some_iff.1 hx
      rw [← e]
      exact hc j hj) hlt hN h.cap (by rw [hj]; exact hlen)
    rw [hj] at h1
    exact h1
  · have h0 : n = 0 := by omega
    subst h0
    have hz : ts = [] := by
      have := h.len
      simpa using this
    subst hz
    exact (Any.strings_Join_none Tryz.lays156 Tryz.extra156 A c ⟨#[44]⟩ w).mono fun e w' ⟨he, hw⟩ => ⟨he, hw ▸ Below.refl _ _⟩

theorem owns_hds (w : World) (l : List Hd) (hm : l.length ≤ maxLen) (cs : Array Value) (hcs : cs = (hcells l).toArray) : OwnsH (w.alloc (.cells cs 45)) w.heap.size (.slice (some ⟨w.heap.size, 0, Option.none⟩) l.length l.length) l := by
  subst hcs
  have := World.ownsRow_lit (base := w.heap.size) (size := 2) (e := 45) w (hcells l).toArray l.length (Nat.le_refl _) hm (by simp [hcells_len])
  simpa [OwnsH] using this
theorem hds_one (w : World) (x y : ByteArray) : Hds (w.alloc (.cells #[.string x, .string y] 45)) (some ⟨w.heap.size, 0, Option.none⟩) 1 1 [(x, y)] := hds_new w _ [(x, y)] rfl (tiny (by simp))

set_option maxHeartbeats 8000000 in
set_option maxRecDepth 100000 in
theorem ask_any (A : Option Addr) (n c : Nat) (l : List Hd) (s x : ByteArray) (w : World) (h : Hds w A n c l) (hn : n ≤ 1000) (hB : Short maxLen l) (hby : bytesIn l ≤ 10000000) :
    Calls Tryz.prog 11 #[.string s, .string x, .slice A n c] w (GivesH w (asked s x (uns l))) := by
  obtain ⟨i0, hi, hz0, hz1, hz2⟩ := info_parts Tryz.infoHd
  have hU := Lib.hid (fun W (hb : Below w.heap.size w W) => unsafe_any A n c l W (h.later hb) hn hB)
  have hjl := joinC_le (by rw [h.len]; exact hn) hby (uns l).length
  rw [List.take_length] at hjl
  have hul := uns_len l
  rw [h.len] at hul
  clear h hB hby
  generalize uns l = ts at hU hjl hul ⊢
  have hJ := Lib.hid (fun A1 n1 c1 W (hS : Strs W A1 n1 c1 (ts.map mk)) => comma_any A1 n1 c1 ts W hS (by have h1 : (ts.map mk).length = n1 := hS.len; rw [List.length_map] at h1; omega) (by omega))
  have hO0 := Lib.hid (owns_hds w [askA, (askM, x)] (tiny (by simp)) _ rfl)
  have hb0 := Lib.hid (below_box w (.cells #[.string askA.1, .string askA.2, .string askM, .string x] 45))
  have hone := Lib.hid hds_one
  have hd : asked s x ts = ([askA, (askM, x)] ++ (if ts.isEmpty then [] else [(askH, mk (joinC ts))])) ++ [(askO, s)] := rfl
  cases he : ts.isEmpty with
  | true =>
    rw [he, if_pos rfl, List.append_nil] at hd
    rw [hd]
    have hz : Hid (ts.length = 0) := Lib.hid (by rw [List.isEmpty_iff] at he; rw [he]; rfl)
    clear hd he hJ hjl hul
    go_enter Tryz.func11, Tryz.ntmps11
    go_wp2_with (first
      | (go_at_call 20; (with_reducible refine (hU.out _ hb0.out).mono ?_); rintro e w2 ⟨v, rfl, ho, hb2⟩; obtain ⟨A1, n1, c1, rfl, hT, hS⟩ := ho.both; have hn1 : n1 = 0 := by rw [← hT.len]; exact hz.out
         subst hn1; have hO2 := Lib.hid (hO0.out.kept hb2 (Nat.le_refl _)); have hB2 := Lib.hid (below_then hb0.out hb2); clear ho hT hS hb2)
      | (at_builtin; refine wpList_append_hds rfl (.tmp 24) (.tmp 27) 22 rfl w.heap.size i0 Tryz.underlying22 hi hz0 hz1 hz2 _ _ rfl (hO2.out.alloc _) _ _ _ _ rfl (hone.out w2 _ _) (by simp) (by have := hB2.out.size; simp; omega) ?_; intro v3 w3 hown3 hg3; have hb3 := Lib.hid ((hO2.out.alloc _).below (hB2.out.alloc hB2.out.size _) hg3 (by have := hB2.out.size; simp; omega)))
      | fail)
    go_ret
    exact ⟨_, rfl, hown3, hb3.out⟩
  | false =>
    rw [he] at hd
    rw [hd]
    have hz : Hid (0 < ts.length) := Lib.hid (by rw [List.isEmpty_eq_false_iff] at he; exact List.length_pos_iff.2 he)
    clear hd he
    generalize mk (joinC ts) = jn at hJ ⊢
    go_enter Tryz.func11, Tryz.ntmps11
    go_wp2_with (first
      | (go_at_call 20; (with_reducible refine (hU.out _ hb0.out).mono ?_); rintro e w2 ⟨v, rfl, ho, hb2⟩; obtain ⟨A1, n1, c1, rfl, hT, hS⟩ := ho.both; have hn1 : 0 < n1 := by rw [← hT.len]; exact hz.out
         have hS2 := Lib.hid hS; have hO2 := Lib.hid (hO0.out.kept hb2 (Nat.le_refl _)); have hB2 := Lib.hid (below_then hb0.out hb2); clear ho hT hS hb2)
      | (go_at_call 23; (with_reducible refine (hJ.out _ _ _ _ hS2.out).mono ?_); rintro e w5 ⟨rfl, hb5⟩; have hO5 := Lib.hid (hO2.out.kept hb5 (Nat.le_refl _)); have hB5 := Lib.hid (below_then hB2.out hb5); clear hb5)
      | (at_builtin; refine wpList_append_hds rfl (.tmp 18) (.tmp 22) 22 rfl w.heap.size i0 Tryz.underlying22 hi hz0 hz1 hz2 _ _ rfl (hO5.out.alloc _) _ _ _ _ rfl (hone.out w5 _ _) (by simp) (by have := hB5.out.size; simp; omega) ?_; intro v3 w3 hown3 hg3; have hb3 := Lib.hid ((hO5.out.alloc _).below (hB5.out.alloc hB5.out.size _) hg3 (by have := hB5.out.size; simp; omega)))
      | (at_builtin; refine wpList_append_hds rfl (.tmp 24) (.tmp 27) 22 rfl w.heap.size i0 Tryz.underlying22 hi hz0 hz1 hz2 _ _ rfl (hown3.alloc _) _ _ _ _ rfl (hone.out w3 _ _) (by simp) (by have := hb3.out.size; simp; omega) ?_; intro v4 w4 hown4 hg4; have hb4 := Lib.hid ((hown3.alloc _).below (hb3.out.alloc hb3.out.size _) hg4 (by have := hb3.out.size; simp; omega)))
      | fail)
    go_ret
    exact ⟨_, rfl, hown4, hb4.out⟩
end Go.Proofs.YtalnjlodldhfbaaGreatDoor
