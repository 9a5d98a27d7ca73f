/-
  The model's draws DrawAskLease, DrawGiveBack, DrawWhenFree; the drawing of a watch is handed in.
-/
import Derived.Test.YtpppgihoekfmoaaWtDm
import Derived.Test.YtpppgihoekfmoaaWtGw
import Derived.Deep.DeepCutAuto
import Derived.Deep.RegionHeld3
namespace Go.Proofs.Ytpppgihoekfmoaa.Wt
open Go.RowKit
set_option linter.unusedVariables false
set_option linter.unusedSimpArgs false

def curBlkW (A : Option Addr) (n c : Nat) : Obj := .cells #[.slice A n c, .int .i64 ((0 : Nat) : Int), .int .u64 0] 71
theorem cur_newW (w : World) (g : Nat) (l : List UInt8) (A : Option Addr) (c n : Nat) (h : BytesAt w A l) (hg : g = w.heap.size) (hn : l.length = n) : Cur (w.alloc (curBlkW A n c)) g l A c 0 := by
  subst hg hn
  exact cur_new w l A c h
/-- What is asked of the drawing of a watch. -/
def OddIs : Prop := ∀ (g : Nat) (l : List UInt8) (A : Option Addr) (c q : Nat) (w : World), Cur w g l A c q → l.length ≤ 1048576 → q ≤ 500000000 → Calls Try.prog 37 #[.pointer (some ⟨g, 0, none⟩)] w (WtPost w g l A c q 500 (fun _ is ls => is.length ≤ 5 ∧ ls.length ≤ 41))
def longD : List Int := [1, 5, 100, 101, 0]

set_option maxRecDepth 100000 in
set_option maxHeartbeats 8000000 in
theorem drawAsk_of (HOD : OddIs) (A : Option Addr) (n c : Nat) (l : List UInt8) (w : World) (hn : l.length = n) (h : BytesAt w A l) (hl : n ≤ 1048576) :
    Calls Try.prog 19 #[.slice A n c] w (DrAsk w) := by
  have hl' : l.length ≤ 1048576 := by omega
  have HC := Lib.hid (cur_newW (w.alloc (.cells #[.int .i64 0, .slice none 0 0, .slice none 0 0] 30)) (w.heap.size + 1) l A c n (h.below (below1 w _)) (by simp) hn)
  have HB := Lib.hid (below2 w (.cells #[.int .i64 0, .slice none 0 0, .slice none 0 0] 30) (curBlkW A n c))
  have HR := Lib.hid ((Below.heap_alloc (w.alloc (.cells #[.int .i64 0, .slice none 0 0, .slice none 0 0] 30)) (curBlkW A n c) w.heap.size (by simp)).trans (heap_alloc_new w (.cells #[.int .i64 0, .slice none 0 0, .slice none 0 0] 30)))
  clear h hn
  go_enter Try.func19, Try.ntmps19
  go_wp2_with fail
  refine (HOD (w.heap.size + 1) l A c 0 _ HC.out hl' (by omega)).mono ?_
  rintro e w1 ⟨tm, A1, c1, is, A2, c2, ls, q1, rfl, ho1, ho2, ⟨hli, hll⟩, hq1, hC1, hG1⟩
  have hs1 := hG1.size
  rw [World.size_alloc, World.size_alloc] at hs1
  simp only [World.size_alloc] at ho1 ho2
  obtain ⟨n1, hn1⟩ : ∃ n1, n1 = is.length := ⟨_, rfl⟩
  obtain ⟨n2, hn2⟩ : ∃ n2, n2 = ls.length := ⟨_, rfl⟩
  rw [← hn1] at hli ⊢
  rw [← hn2] at hll ⊢
  have HN1 := Lib.hid hn1
  have HN2 := Lib.hid hn2
  clear hn1 hn2
  have HR1 := Lib.hid ((Below.heap_alloc w1 (.cells #[.int .i64 tm, .slice A1 n1 c1, .slice A2 n2 c2] 30) _ (by omega)).trans (block_kept hG1 HR.out (by omega)))
  have HK1 := Lib.hid (heap_alloc_new w1 (.cells #[.int .i64 tm, .slice A1 n1 c1, .slice A2 n2 c2] 30))
  have HC1 := Lib.hid (hC1.allocated (.cells #[.int .i64 tm, .slice A1 n1 c1, .slice A2 n2 c2] 30))
  have HG1 := Lib.hid (grown_alloc hG1 (.cells #[.int .i64 tm, .slice A1 n1 c1, .slice A2 n2 c2] 30))
  have HI1 := Lib.hid (show OwnCk (w1.alloc (.cells #[.int .i64 tm, .slice A1 n1 c1, .slice A2 n2 c2] 30)) (w.heap.size + 1 + 1) (w1.alloc (.cells #[.int .i64 tm, .slice A1 n1 c1, .slice A2 n2 c2] 30)).heap.size A1 c1 is from own_growG ho1 (below1 _ _))
  have HL1 := Lib.hid (show OwnLe (w1.alloc (.cells #[.int .i64 tm, .slice A1 n1 c1, .slice A2 n2 c2] 30)) (w.heap.size + 1 + 1) (w1.alloc (.cells #[.int .i64 tm, .slice A1 n1 c1, .slice A2 n2 c2] 30)).heap.size A2 c2 ls from own_growG ho2 (below1 _ _))
  obtain ⟨gd, hgd⟩ : ∃ gd, gd = w1.heap.size := ⟨_, rfl⟩
  have hgr : w.heap.size + 1 < gd := by omega
  go_upto_region 3 with fail
  rw [← hgd]
  rw [← hgd] at HK1
  generalize w1.alloc (.cells #[.int .i64 tm, .slice A1 n1 c1, .slice A2 n2 c2] 30) = W1 at *
  clear hgd ho1 ho2 hC1 hG1 hs1 HC
  go_wp2_with fail
  refine (pick_any (w.heap.size + 1) l A c q1 6 _ HC1.out hl' (by omega) (by omega) (by omega)).mono ?_
  rintro e w2 ⟨x, q2, hx0, hx1, rfl, hq2, hC2, hG2⟩
  have HR2 := Lib.hid (block_kept hG2 HR1.out (by omega))
  have HK2 := Lib.hid (block_kept hG2 HK1.out (by omega))
  have HI2 := Lib.hid (show OwnCk w2 (w.heap.size + 1 + 1) w2.heap.size A1 c1 is from Own.wider (own_curG HI1.out hG2 (by omega)) (Nat.le_refl _) hG2.size)
  have HL2 := Lib.hid (show OwnLe w2 (w.heap.size + 1 + 1) w2.heap.size A2 c2 ls from Own.wider (own_curG HL1.out hG2 (by omega)) (Nat.le_refl _) hG2.size)
  have HG2 := Lib.hid (grown_trans HG1.out hG2)
  have HA := Lib.hid (among_any (w.heap.size + 1) l A c q2 w2.heap.size 5 5 longD (w2.alloc (.cells (longD.map (Value.int .i64)).toArray 3)).drew (hC2.allocated (.cells (longD.map (Value.int .i64)).toArray 3)) hl' (by omega) rfl (by omega) (by omega) (by have := hC2.lt; omega) (new_ints w2 longD 3))
  have hGd := (World.grownBy_alloc w2 (.cells (longD.map (Value.int .i64)).toArray 3) (some (w.heap.size + 1)))
  clear hG2 hC2
  have zl := lt_blk HK2.out
  have kk0 := cell_blk (i := 0) HK2.out rfl
  have kk1 := cell_blk (i := 1) HK2.out rfl
  have kk2 := cell_blk (i := 2) HK2.out rfl
  go_upto_region 4 with fail
  go_region_law ((go_simp; go_at_call 39; (refine HA.out.mono ?_); rintro e w3 ⟨lg, q3, hlg, rfl, hq3, hC3, hG3'⟩; have hG3 : w2.grownBy w3 (some (w.heap.size + 1)) := grown_trans hGd ⟨hG3'.os, hG3'.tape, hG3'.output, hG3'.size, hG3'.block⟩; have HR3 := Lib.hid (block_kept hG3 HR2.out (by omega)); have HK3 := Lib.hid (block_kept hG3 HK2.out (by omega)); have HI3 := Lib.hid (show OwnCk w3 (w.heap.size + 1 + 1) w3.heap.size A1 c1 is from Own.wider (own_curG HI2.out hG3 (by omega)) (Nat.le_refl _) hG3.size); have HL3 := Lib.hid (show OwnLe w3 (w.heap.size + 1 + 1) w3.heap.size A2 c2 ls from Own.wider (own_curG HL2.out hG3 (by omega)) (Nat.le_refl _) hG3.size); have HG3 := Lib.hid (grown_trans HG2.out hG3); have x0 := cell_blk (i := 0) HK3.out rfl; have x1 := cell_blk (i := 1) HK3.out rfl; have x2 := cell_blk (i := 2) HK3.out rfl; have r0 := cell_blk (i := 0) HR3.out rfl; have r1 := cell_blk (i := 1) HR3.out rfl; have r2 := cell_blk (i := 2) HR3.out rfl; have fz0 := free_blk HR3.out 0; have fz1 := free_blk HR3.out 1; have fz2 := free_blk HR3.out 2))
  all_goals (
    have HBB := Lib.hid (HB.out.trans (below_of_grown HG3.out (B := w.heap.size) (by omega) (by simp; omega)))
    clear kk0 kk1 kk2 x0 x1 x2
    go_wp2
    exact bodyPost_ret (v := .tuple #[.agg #[.int .i64 tm, .slice A1 n1 c1, .slice A2 n2 c2], .int .i64 (x - 1), .int .i64 lg]) (by simp [results, Try.results19, go_sem, *]) rfl ⟨tm, A1, c1, is, A2, c2, ls, x - 1, lg, by rw [HN1.out, HN2.out], (OwnCk.put3 HI3.out (by omega)).wider (by omega) (by simp [World.setCell]), (OwnLe.put3 HL3.out (by omega)).wider (by omega) (by simp [World.setCell]), by rw [← HN1.out]; exact hli, by rw [← HN2.out]; exact hll, bel_put3 HBB.out (Nat.le_refl _)⟩)
end Go.Proofs.Ytpppgihoekfmoaa.Wt
