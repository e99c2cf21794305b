/-
  event's Input. Conditions: those that each theorem states.
-/
import Derived.Test.YtodncamohimmmaaEvPGood
import Derived.Test.YtodncamohimmmaaLow13
import Derived.Test.YtodncamohimmmaaLow12
import Derived.Test.YtodncamohimmmaaLow5
import Derived.Deep.RegionWith
import Derived.Deep.CutBlock
namespace Go.Proofs.Ytodncamohimmmaa
open Go.RowKit Go.Lib Leb

set_option maxHeartbeats 16000000 in
set_option maxRecDepth 100000 in
theorem started_any (x : Ev) (A : Option Addr) (m c : Nat) (w : World) (ha : Hds w A m c x.hs) (hm : m ≤ 1000000) :
    Calls Try.prog 21 #[evv x A m c] w fun e w' => ∃ A' m' c', e = .returned (reqv x.me x.url x.no x.body (x.code % 4) (x.code / 4 % 4) (x.code / 16 % 4) (x.code / 64) A' m' c') ∧ Hds w' A' m' c' x.hs ∧ (∀ g off, A' = some ⟨g, off, Option.none⟩ → w.heap.size ≤ g) ∧ Below w.heap.size w w' := by
  have hcl := Lib.hid (fun W (h : Below w.heap.size w W) => cloneH21_any A m c x.hs W (ha.later h) hm)
  clear ha
  obtain ⟨kind, ses, tick, me, url, hs, body, status, code, cred, no, k⟩ := x
  unfold evv ecell12
  simp only at *
  have hbel := Lib.hid (below_then (below_box w (.cells #[.int .i64 kind, .int .i64 ses, .int .i64 tick, .string me, .string url, .slice A m c, .string body, .int .i64 status, .int .i64 code, .bool cred, .string no, .int .u64 (k : Int)] 25)) (below_box (w.alloc (.cells #[.int .i64 kind, .int .i64 ses, .int .i64 tick, .string me, .string url, .slice A m c, .string body, .int .i64 status, .int .i64 code, .bool cred, .string no, .int .u64 (k : Int)] 25)) (.cells #[.string ⟨#[]⟩, .string ⟨#[]⟩, .int .i64 0, .int .i64 0, .int .i64 0, .int .i64 0, .string ⟨#[]⟩, .slice Option.none 0 0, .string ⟨#[]⟩] 27)))
  have hat := Lib.hid (fun W (h : Below ((w.alloc (.cells #[.int .i64 kind, .int .i64 ses, .int .i64 tick, .string me, .string url, .slice A m c, .string body, .int .i64 status, .int .i64 code, .bool cred, .string no, .int .u64 (k : Int)] 25)).alloc (.cells #[.string ⟨#[]⟩, .string ⟨#[]⟩, .int .i64 0, .int .i64 0, .int .i64 0, .int .i64 0, .string ⟨#[]⟩, .slice Option.none 0 0, .string ⟨#[]⟩] 27)).heap.size ((w.alloc (.cells #[.int .i64 kind, .int .i64 ses, .int .i64 tick, .string me, .string url, .slice A m c, .string body, .int .i64 status, .int .i64 code, .bool cred, .string no, .int .u64 (k : Int)] 25)).alloc (.cells #[.string ⟨#[]⟩, .string ⟨#[]⟩, .int .i64 0, .int .i64 0, .int .i64 0, .int .i64 0, .string ⟨#[]⟩, .slice Option.none 0 0, .string ⟨#[]⟩] 27)) W) => (⟨((evAt_new w ⟨kind, ses, tick, me, url, hs, body, status, code, cred, no, k⟩ A m c 25).later (below_box (w.alloc (.cells #[.int .i64 kind, .int .i64 ses, .int .i64 tick, .string me, .string url, .slice A m c, .string body, .int .i64 status, .int .i64 code, .bool cred, .string no, .int .u64 (k : Int)] 25)) (.cells #[.string ⟨#[]⟩, .string ⟨#[]⟩, .int .i64 0, .int .i64 0, .int .i64 0, .int .i64 0, .string ⟨#[]⟩, .slice Option.none 0 0, .string ⟨#[]⟩] 27))).later h, (h.block (w.heap.size + 1) (by simp)).trans (by have h2 := heap_alloc_new (w.alloc (.cells #[.int .i64 kind, .int .i64 ses, .int .i64 tick, .string me, .string url, .slice A m c, .string body, .int .i64 status, .int .i64 code, .bool cred, .string no, .int .u64 (k : Int)] 25)) (.cells #[.string ⟨#[]⟩, .string ⟨#[]⟩, .int .i64 0, .int .i64 0, .int .i64 0, .int .i64 0, .string ⟨#[]⟩, .slice Option.none 0 0, .string ⟨#[]⟩] 27); simp only [World.size_alloc] at h2; exact h2)⟩ : EvAt W w.heap.size ⟨kind, ses, tick, me, url, hs, body, status, code, cred, no, k⟩ A m c ∧ W.heap[w.heap.size + 1]? = some (.cells #[.string ⟨#[]⟩, .string ⟨#[]⟩, .int .i64 0, .int .i64 0, .int .i64 0, .int .i64 0, .string ⟨#[]⟩, .slice Option.none 0 0, .string ⟨#[]⟩] 27 (0, 0))))
  go_enter Try.func21, Try.ntmps21
  go_wp2_with (first
    | (go_at_call 49; refine (modes_any _ _).mono ?_; rintro e w1 ⟨rfl, hb1⟩; have hb1' := Lib.hid hb1; clear hb1))
  have a3 := fun o => ((hat.out w1 hb1'.out).1.later (below_box w1 o)).c3
  have a4 := fun o => ((hat.out w1 hb1'.out).1.later (below_box w1 o)).c4
  have a10 := fun o => ((hat.out w1 hb1'.out).1.later (below_box w1 o)).c10
  have a5 := fun o => ((hat.out w1 hb1'.out).1.later (below_box w1 o)).c5
  have a6 := fun o => ((hat.out w1 hb1'.out).1.later (below_box w1 o)).c6
  simp only at a3 a4 a10 a5 a6
  have hB := Lib.hid (fun o => below_then (below_then hbel.out hb1'.out) (below_box w1 o))
  have hq1 := Lib.hid (hat.out w1 hb1'.out).2
  have hlt1 := Lib.hid (Array.getElem?_eq_some_iff.1 hq1.out).1
  have hrow := Lib.hid (heap_alloc_new w1 (.cells #[.string me, .string url, .int .i64 (code % 4), .int .i64 (code / 4 % 4), .int .i64 (code / 16 % 4), .int .i64 (code / 64), .string no, .slice Option.none 0 0, .string ⟨#[]⟩] 27))
  have hat2 := Lib.hid (fun o W' h => ((hat.out w1 hb1'.out).1.later (below_box w1 o)).later (w' := W') h)
  go_cut [] from 7 to 15 (fun wr => wr = (w1.alloc (.cells #[.string me, .string url, .int .i64 (code % 4), .int .i64 (code / 4 % 4), .int .i64 (code / 16 % 4), .int .i64 (code / 64), .string no, .slice Option.none 0 0, .string ⟨#[]⟩] 27)).drew)
  case first =>
    go_region
    all_goals
      go_wp2_with fail
      go_meet
      case rel => rfl
  subst hcut
  go_upto_region 3 with fail
  go_cut [] from 16 to 22 (fun wr => ∃ A2 m2 c2, Hid (wr.heap[w1.heap.size]? = some (.cells #[.string me, .string url, .int .i64 (code % 4), .int .i64 (code / 4 % 4), .int .i64 (code / 16 % 4), .int .i64 (code / 64), .string no, .slice A2 m2 c2, .string body] 27 (0, 0)) ∧ Hds wr A2 m2 c2 hs ∧ (∀ g off, A2 = some ⟨g, off, Option.none⟩ → w1.heap.size < g) ∧ Below w.heap.size w wr ∧ wr.heap[w.heap.size + 1]? = some (.cells #[.string ⟨#[]⟩, .string ⟨#[]⟩, .int .i64 0, .int .i64 0, .int .i64 0, .int .i64 0, .string ⟨#[]⟩, .slice Option.none 0 0, .string ⟨#[]⟩] 27 (0, 0))))
  case first =>
    go_region_with (go_at_call 22; refine Calls.mono (hcl.out _ ?hb) ?_; (case hb => first | exact hB.out _ | exact (hB.out _).drew | exact (hB.out _).drew.drew); rintro e w2 ⟨v, rfl, hO, hb2⟩; obtain ⟨A2, m2, c2, rfl, hm2, hH2⟩ := hO.hds'; replace hb2 := (below_undrew hb2); have hb3 := Lib.hid (show Below (w1.alloc (.cells #[.string me, .string url, .int .i64 (code % 4), .int .i64 (code / 4 % 4), .int .i64 (code / 16 % 4), .int .i64 (code / 64), .string no, .slice Option.none 0 0, .string ⟨#[]⟩] 27)).heap.size (w1.alloc (.cells #[.string me, .string url, .int .i64 (code % 4), .int .i64 (code / 4 % 4), .int .i64 (code / 16 % 4), .int .i64 (code / 64), .string no, .slice Option.none 0 0, .string ⟨#[]⟩] 27)) w2 from by first | exact hb2 | exact below_undrew hb2); have a6' := (hat2.out (.cells #[.string me, .string url, .int .i64 (code % 4), .int .i64 (code / 4 % 4), .int .i64 (code / 16 % 4), .int .i64 (code / 64), .string no, .slice Option.none 0 0, .string ⟨#[]⟩] 27) w2 hb3.out).c6; simp only at a6'; have hr2 := Lib.hid ((hb3.out.block w1.heap.size (by simp)).trans hrow.out); have c7 := cell_of_row w2 w1.heap.size 7 _ _ _ hr2.out; have c8 := cell_of_row w2 w1.heap.size 8 _ _ _ hr2.out; have f7 := frozen_of_row w2 w1.heap.size 7 _ _ hr2.out; have f8 := frozen_of_row w2 w1.heap.size 8 _ _ hr2.out; replace c7 : w2.cell? ⟨w1.heap.size, 7, Option.none⟩ = some (.slice Option.none 0 0) := c7; replace c8 : w2.cell? ⟨w1.heap.size, 8, Option.none⟩ = some (.string ⟨#[]⟩) := c8; have hno := Lib.hid (show ∀ g off, A2 = some ⟨g, off, Option.none⟩ → w1.heap.size < g from fun g off e => by subst e; have h9 := (World.ownsRow.lt hO g rfl).1; simp only [World.drew, World.size_alloc] at h9; omega); clear hO hm2 hb2; replace hH2 := Lib.hid hH2)
    all_goals
      go_wp2_with fail
      go_meet
      case rel =>
        have hal := (alt_set w2 ⟨w1.heap.size, 7, Option.none⟩ (.slice A2 m2 c2) (S := fun j => j = w1.heap.size) rfl).trans (alt_set (w2.setCell ⟨w1.heap.size, 7, Option.none⟩ (.slice A2 m2 c2)) ⟨w1.heap.size, 8, Option.none⟩ (.string body) (S := fun j => j = w1.heap.size) rfl) fun _ _ h => h
        have h2 := heap_setCell_same w2 w1.heap.size 7 _ _ (.slice A2 m2 c2) hr2.out
        have h3 := heap_setCell_same _ w1.heap.size 8 _ _ (.string body) h2
        have hbw := below_then (hB.out _) hb3.out
        have hls := hb3.out.size
        simp only [World.size_alloc] at hls
        have hl1 := hlt1.out
        refine ⟨A2, m2, c2, Lib.hid ⟨h3, hH2.out.alt hal fun g off e _ he => ?_, hno.out, below_alt hbw hal hbw.size fun j hj => ?_, (hal.block _ (by omega) (by omega)).trans ((hb3.out.block _ (by simp; omega)).trans ((below_box w1 _).block _ hl1 |>.trans hq1.out))⟩⟩
        · have := hno.out g off e
          omega
        · have hx := hbel.out.size
          have hy := hb1'.out.size
          omega
  obtain ⟨A2, m2, c2, hcut⟩ := hcut
  obtain ⟨q1, q2, q5, q3, q4⟩ := hcut.out
  replace q5 := Lib.hid q5
  clear hcut hcl hat hat2 hB hrow
  replace q1 := Lib.hid q1
  replace q2 := Lib.hid q2
  replace q3 := Lib.hid q3
  replace q4 := Lib.hid q4
  obtain ⟨fs, hfs⟩ : ∃ fs, Try.prog.underlying 27 = some (.struct fs) := ⟨_, Try.underlying27⟩
  have hfs := Lib.hid hfs
  have hi := Lib.hid (show (Try.prog.info? 27).map (·.size) = some (#[.string me, .string url, .int .i64 (code % 4), .int .i64 (code / 4 % 4), .int .i64 (code / 16 % 4), .int .i64 (code / 64), .string no, .slice A2 m2 c2, .string body] : Array Value).size from infoReq)
  have hone := Lib.hid (show (#[.string me, .string url, .int .i64 (code % 4), .int .i64 (code / 4 % 4), .int .i64 (code / 16 % 4), .int .i64 (code / 64), .string no, .slice A2 m2 c2, .string body] : Array Value).all (·.oneCell') = true by simp [Value.oneCell'])
  go_wp2_with (first
    | (with_reducible refine wpList_load_row rfl _ _ rfl w1.heap.size rfl 27 #[.string me, .string url, .int .i64 (code % 4), .int .i64 (code / 4 % 4), .int .i64 (code / 16 % 4), .int .i64 (code / 64), .string no, .slice A2 m2 c2, .string body] (0, 0) (.struct fs) q1.out hfs.out rfl hi.out ?_)
    | (with_reducible refine wpList_store_row rfl _ _ _ rfl (w.heap.size + 1) #[.string me, .string url, .int .i64 (code % 4), .int .i64 (code / 4 % 4), .int .i64 (code / 16 % 4), .int .i64 (code / 64), .string no, .slice A2 m2 c2, .string body] rfl rfl 27 #[.string ⟨#[]⟩, .string ⟨#[]⟩, .int .i64 0, .int .i64 0, .int .i64 0, .int .i64 0, .string ⟨#[]⟩, .slice Option.none 0 0, .string ⟨#[]⟩] q4.out hi.out (Eq.refl _) hone.out ?_))
  refine bodyPost_ret (results_cell_row rfl _ _ (w.heap.size + 1) _ _ _ _ rfl (setRow_heap _ _ _ _ _ _ q4.out) hfs.out rfl hi.out) rfl ⟨A2, m2, c2, rfl, q2.out.alt (S := fun j => j = w.heap.size + 1) ⟨rfl, rfl, rfl, by simp [World.setRow], fun k _ hk => setRow_other _ _ _ _ hk⟩ fun g off e h0 hk => ?_, fun g off e => ?_, below_setRow q3.out (by omega) _⟩
  · have h1 := q5.out g off e
    have h2 := hlt1.out
    omega
  · have h1 := q5.out g off e
    have h2 := hlt1.out
    omega

theorem in_resultP {tmps : Array Value} {w : World} {g : Nat} {cs : Array Value} {b : Bool} (hp : tmps.getD 2 undef = .pointer (some ⟨g, 0, Option.none⟩)) (hb : tmps.getD 3 undef = .bool b) (hg : w.heap[g]? = some (.cells cs 31 (0, 0))) (hs : cs.size = 15) :
    (results Try.f7 tmps).run Try.prog w = .ok (.tuple #[.agg cs, .bool b]) w := by
  rw [results_cell_tmp (fn := Try.f7) (p := 2) (u := 3) (ty := 31) rfl, hp, hb]
  obtain ⟨fs, hd1⟩ := undIn
  have h := run_loadVar_row w g 31 31 cs (0, 0) (.struct fs) hg hd1 rfl (by rw [hs]; exact infoIn)
  simp [asAddr, Result.andThen, h]
end Go.Proofs.Ytodncamohimmmaa
