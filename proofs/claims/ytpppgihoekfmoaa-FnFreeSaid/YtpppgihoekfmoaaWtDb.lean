/-
  The model's draws DrawGiveBack and DrawWhenFree; the drawing of a watch is handed in.
-/
import Derived.Test.YtpppgihoekfmoaaWtDa
import Derived.Deep.DeepCutAuto
import Derived.Deep.RegionHeld3
namespace Go.Proofs.Ytpppgihoekfmoaa.Wt
open Go.RowKit
set_option linter.unusedVariables false
set_option linter.unusedSimpArgs false

set_option maxRecDepth 100000 in
set_option maxHeartbeats 8000000 in
theorem drawGive_of (HOD : OddIs) (A : Option Addr) (n c : Nat) (l : List UInt8) (w : World) (hn : l.length = n) (h : BytesAt w A l) (hl : n ≤ 1048576) :
    Calls Try.prog 30 #[.slice A n c] w (DrWhen w) := by
  have hl' : l.length ≤ 1048576 := by omega
  have HC := Lib.hid (cur_newW (w.alloc (.cells #[.int .i64 0, .slice none 0 0, .slice none 0 0] 30)) (w.heap.size + 1) l A c n (h.below (below1 w _)) (by simp) hn)
  have HB := Lib.hid (below2 w (.cells #[.int .i64 0, .slice none 0 0, .slice none 0 0] 30) (curBlkW A n c))
  have HR := Lib.hid ((Below.heap_alloc (w.alloc (.cells #[.int .i64 0, .slice none 0 0, .slice none 0 0] 30)) (curBlkW A n c) w.heap.size (by simp)).trans (heap_alloc_new w (.cells #[.int .i64 0, .slice none 0 0, .slice none 0 0] 30)))
  clear h hn
  go_enter Try.func30, Try.ntmps30
  go_wp2_with fail
  refine (HOD (w.heap.size + 1) l A c 0 _ HC.out hl' (by omega)).mono ?_
  rintro e w1 ⟨tm, A1, c1, is, A2, c2, ls, q1, rfl, ho1, ho2, ⟨hli, hll⟩, hq1, hC1, hG1⟩
  have hs1 := hG1.size
  rw [World.size_alloc, World.size_alloc] at hs1
  simp only [World.size_alloc] at ho1 ho2
  obtain ⟨n1, hn1⟩ : ∃ n1, n1 = is.length := ⟨_, rfl⟩
  obtain ⟨n2, hn2⟩ : ∃ n2, n2 = ls.length := ⟨_, rfl⟩
  rw [← hn1] at hli ⊢
  rw [← hn2] at hll ⊢
  have HN1 := Lib.hid hn1
  have HN2 := Lib.hid hn2
  clear hn1 hn2
  have HR1 := Lib.hid ((Below.heap_alloc w1 (.cells #[.int .i64 tm, .slice A1 n1 c1, .slice A2 n2 c2] 30) _ (by omega)).trans (block_kept hG1 HR.out (by omega)))
  have HK1 := Lib.hid (heap_alloc_new w1 (.cells #[.int .i64 tm, .slice A1 n1 c1, .slice A2 n2 c2] 30))
  have HC1 := Lib.hid (hC1.allocated (.cells #[.int .i64 tm, .slice A1 n1 c1, .slice A2 n2 c2] 30))
  have HG1 := Lib.hid (grown_alloc hG1 (.cells #[.int .i64 tm, .slice A1 n1 c1, .slice A2 n2 c2] 30))
  have HI1 := Lib.hid (show OwnCk (w1.alloc (.cells #[.int .i64 tm, .slice A1 n1 c1, .slice A2 n2 c2] 30)) (w.heap.size + 1 + 1) (w1.alloc (.cells #[.int .i64 tm, .slice A1 n1 c1, .slice A2 n2 c2] 30)).heap.size A1 c1 is from own_growG ho1 (below1 _ _))
  have HL1 := Lib.hid (show OwnLe (w1.alloc (.cells #[.int .i64 tm, .slice A1 n1 c1, .slice A2 n2 c2] 30)) (w.heap.size + 1 + 1) (w1.alloc (.cells #[.int .i64 tm, .slice A1 n1 c1, .slice A2 n2 c2] 30)).heap.size A2 c2 ls from own_growG ho2 (below1 _ _))
  obtain ⟨gd, hgd⟩ : ∃ gd, gd = w1.heap.size := ⟨_, rfl⟩
  have hgr : w.heap.size + 1 < gd := by omega
  go_upto_region 3 with fail
  rw [← hgd]
  rw [← hgd] at HK1
  generalize w1.alloc (.cells #[.int .i64 tm, .slice A1 n1 c1, .slice A2 n2 c2] 30) = W1 at *
  clear hgd ho1 ho2 hC1 hG1 hs1 HC
  have HP := Lib.hid (pick_any (w.heap.size + 1) l A c q1 6 W1.drew HC1.out hl' (by omega) (by omega) (by omega))
  have kk0 := cell_blk (i := 0) HK1.out rfl
  have kk1 := cell_blk (i := 1) HK1.out rfl
  have kk2 := cell_blk (i := 2) HK1.out rfl
  go_region_law ((go_simp; go_at_call 38; (refine HP.out.mono ?_); rintro e w3 ⟨x, q3, hx0, hx1, rfl, hq3, hC3, hG3'⟩; have hxw : IntKind.i64.wrap (x - 1) = x - 1 := (by rw [IntKind.wrap_i64]; omega); have hG3 : W1.grownBy w3 (some (w.heap.size + 1)) := ⟨hG3'.os, hG3'.tape, hG3'.output, hG3'.size, hG3'.block⟩; have HR3 := Lib.hid (block_kept hG3 HR1.out (by omega)); have HK3 := Lib.hid (block_kept hG3 HK1.out (by omega)); have HI3 := Lib.hid (show OwnCk w3 (w.heap.size + 1 + 1) w3.heap.size A1 c1 is from Own.wider (own_curG HI1.out hG3 (by omega)) (Nat.le_refl _) hG3.size); have HL3 := Lib.hid (show OwnLe w3 (w.heap.size + 1 + 1) w3.heap.size A2 c2 ls from Own.wider (own_curG HL1.out hG3 (by omega)) (Nat.le_refl _) hG3.size); have HG3 := Lib.hid (grown_trans HG1.out hG3); have x0 := cell_blk (i := 0) HK3.out rfl; have x1 := cell_blk (i := 1) HK3.out rfl; have x2 := cell_blk (i := 2) HK3.out rfl; have r0 := cell_blk (i := 0) HR3.out rfl; have r1 := cell_blk (i := 1) HR3.out rfl; have r2 := cell_blk (i := 2) HR3.out rfl; have fz0 := free_blk HR3.out 0; have fz1 := free_blk HR3.out 1; have fz2 := free_blk HR3.out 2))
  all_goals (
    have HBB := Lib.hid (HB.out.trans (below_of_grown HG3.out (B := w.heap.size) (by omega) (by simp; omega)))
    clear kk0 kk1 kk2 x0 x1 x2
    go_wp2
    exact bodyPost_ret (v := .tuple #[.agg #[.int .i64 tm, .slice A1 n1 c1, .slice A2 n2 c2], .int .i64 (x - 1)]) (by simp [results, Try.results30, go_sem, *]) rfl ⟨tm, A1, c1, is, A2, c2, ls, x - 1, by rw [HN1.out, HN2.out], (OwnCk.put3 HI3.out (by omega)).wider (by omega) (by simp [World.setCell]), (OwnLe.put3 HL3.out (by omega)).wider (by omega) (by simp [World.setCell]), by rw [← HN1.out]; exact hli, by rw [← HN2.out]; exact hll, bel_put3 HBB.out (Nat.le_refl _)⟩)
set_option maxRecDepth 100000 in
set_option maxHeartbeats 8000000 in
theorem drawWhen_of (HOD : OddIs) (A : Option Addr) (n c : Nat) (l : List UInt8) (w : World) (hn : l.length = n) (h : BytesAt w A l) (hl : n ≤ 1048576) :
    Calls Try.prog 14 #[.slice A n c] w (DrWhen w) := by
  have HG := Lib.hid (drawGive_of HOD A n c l (w.alloc (.cells #[.int .i64 0, .slice none 0 0, .slice none 0 0] 30)) hn (h.below (below1 w _)) hl)
  have HB := Lib.hid (below1 w (.cells #[.int .i64 0, .slice none 0 0, .slice none 0 0] 30))
  have HR := Lib.hid (heap_alloc_new w (.cells #[.int .i64 0, .slice none 0 0, .slice none 0 0] 30))
  clear h hn
  go_enter Try.func14, Try.ntmps14
  go_wp2_with fail
  refine HG.out.mono ?_
  rintro e w1 ⟨tm, A1, c1, is, A2, c2, ls, who, rfl, ho1, ho2, hli, hll, hb1⟩
  simp only [World.size_alloc] at ho1 ho2
  have hk := (hb1.block w.heap.size (by simp)).trans HR.out
  have r0 := cell_blk (i := 0) hk rfl
  have r1 := cell_blk (i := 1) hk rfl
  have r2 := cell_blk (i := 2) hk rfl
  have fz0 := free_blk hk 0
  have fz1 := free_blk hk 1
  have fz2 := free_blk hk 2
  have HBB := Lib.hid (HB.out.trans (hb1.mono (by simp)))
  have HI := Lib.hid ho1
  have HL := Lib.hid ho2
  have HLI := Lib.hid hli
  have HLL := Lib.hid hll
  obtain ⟨n1, hn1⟩ : ∃ n1, n1 = is.length := ⟨_, rfl⟩
  obtain ⟨n2, hn2⟩ : ∃ n2, n2 = ls.length := ⟨_, rfl⟩
  rw [← hn1, ← hn2]
  have HN1 := Lib.hid hn1
  have HN2 := Lib.hid hn2
  clear hn1 hn2 ho1 ho2 hli hll hb1 hk
  go_wp2
  exact bodyPost_ret (v := .tuple #[.agg #[.int .i64 tm, .slice A1 n1 c1, .slice A2 n2 c2], .int .i64 who]) (by simp [results, Try.results14, go_sem, *]) rfl ⟨tm, A1, c1, is, A2, c2, ls, who, by rw [HN1.out, HN2.out], (OwnCk.put3 HI.out (by omega)).wider (by omega) (by simp [World.setCell]), (OwnLe.put3 HL.out (by omega)).wider (by omega) (by simp [World.setCell]), HLI.out, HLL.out, bel_put3 HBB.out (Nat.le_refl _)⟩
end Go.Proofs.Ytpppgihoekfmoaa.Wt
