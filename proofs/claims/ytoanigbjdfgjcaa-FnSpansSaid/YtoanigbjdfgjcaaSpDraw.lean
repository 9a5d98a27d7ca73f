/-
  Contracts for the model's drawing of clocks and times.
-/
import Derived.Test.YtoanigbjdfgjcaaTools
namespace Go.Proofs.Ytoanigbjdfgjcaa.Sp
open Go.RowKit
set_option linter.unusedVariables false
/-- The times that are drawn. -/
def timesL : List Int := [0, 1, 3, 7, 10, 20, 50, 100, 100000]
theorem timesL_all : ∀ x ∈ timesL, 0 ≤ x ∧ x ≤ 100000 := by decide

set_option maxRecDepth 100000 in
set_option maxHeartbeats 1000000 in
theorem time_any (g : Nat) (l : List UInt8) (A : Option Addr) (c q : Nat) (w : World) (h : Cur w g l A c q) (hl : l.length ≤ 1048576) (hq : q ≤ 800000000) :
    Calls Try.prog 117 #[.pointer (some ⟨g, 0, none⟩)] w (StepPost w g l A c q 2 0 100000) := by
  have hlt := h.lt
  have hC := h.allocated (.cells (timesL.map (Value.int .i64)).toArray 3)
  have HO := Lib.hid (among_any g l A c q w.heap.size 9 9 timesL _ hC hl (by omega) rfl (by omega) (by omega) (by omega) (new_ints w timesL 3))
  clear h hC
  go_enter Try.func117, Try.ntmps117
  go_wp2_with fail
  refine HO.out.mono ?_
  intro e w1 hres
  obtain ⟨x, q', hx, rfl, hq', hC, hG⟩ := hres
  have HX := Lib.hid (timesL_all x hx)
  clear hx
  go_wp2
  go_ret
  exact ⟨x, q', HX.out.1, HX.out.2, rfl, hq', hC, grown_trans (World.grownBy_alloc w _ (some g)) hG⟩

/-- Some clock with an offset from -6 to 6. -/
def ClockPost (w : World) (g : Nat) (l : List UInt8) (A : Option Addr) (c q d : Nat) (e : Ending) (w' : World) : Prop :=
  ∃ (x : Int) (q' : Nat), -6 ≤ x ∧ x ≤ 6 ∧ e = .returned (.agg #[.int .i64 x]) ∧ q' ≤ q + d ∧ Cur w' g l A c q' ∧ w.grownBy w' (some g)

def sixes : List Int := [6, -6]
theorem sixes_all : ∀ x ∈ sixes, -6 ≤ x ∧ x ≤ 6 := by decide

set_option maxRecDepth 100000 in
set_option maxHeartbeats 1000000 in
theorem clock_any (g : Nat) (l : List UInt8) (A : Option Addr) (c q : Nat) (w : World) (h : Cur w g l A c q) (hl : l.length ≤ 1048576) (hq : q ≤ 800000000) :
    Calls Try.prog 116 #[.pointer (some ⟨g, 0, none⟩)] w (ClockPost w g l A c q 6) := by
  have hlt := h.lt
  have H := Lib.hid (h.allocated (.cells #[.int .i64 0] 68))
  clear h
  go_enter Try.func116, Try.ntmps116
  go_wp2_with fail
  refine (pick_any g l A c q 11 _ H.out hl (by omega) (by omega) (by omega)).mono ?_
  rintro e w1 ⟨x, q1, hx0, hx1, rfl, hq1, hC1, hG1⟩
  have hr1 := block_kept hG1 (heap_alloc_new w (.cells #[.int .i64 0] 68)) (by omega)
  have hs1 : w.heap.size < w1.heap.size := by have := hG1.size; simp at this; omega
  have hG01 := grown_trans (World.grownBy_alloc w (.cells #[.int .i64 0] 68) (some g)) hG1
  have HC1 := Lib.hid (hC1.allocated (.cells #[.int .i64 (x - 5)] 68))
  clear hC1 hG1
  go_wp2_with fail
  refine (one_any g l A c q1 30 _ HC1.out hl (by omega) (by omega) (by omega)).mono ?_
  rintro e w2 ⟨b, q2, rfl, hq2, hC2, hG2⟩
  have hr2 := block_kept hG2 ((Below.heap_alloc w1 (.cells #[.int .i64 (x - 5)] 68) _ hs1).trans hr1) (by omega)
  have hx2 := block_kept hG2 (heap_alloc_new w1 (.cells #[.int .i64 (x - 5)] 68)) (by omega)
  have hG02 := grown_trans (grown_alloc hG01 (.cells #[.int .i64 (x - 5)] 68)) hG2
  have hs2 := lt_blk hr2
  have hs3 := lt_blk hx2
  have hne : w.heap.size ≠ w1.heap.size := by omega
  clear hr1 hG01 hG2
  cases b with
  | true =>
    have HO := Lib.hid (among_any g l A c q2 w2.heap.size 2 2 sixes _ (hC2.allocated (.cells (sixes.map (Value.int .i64)).toArray 3)) hl (by omega) rfl (by omega) (by omega) (by have := hC2.lt; omega) (new_ints w2 sixes 3))
    clear hC2
    go_wp2_with fail
    refine HO.out.mono ?_
    intro e w3 hres
    obtain ⟨y, q3, hy, rfl, hq3, hC3, hG3⟩ := hres
    have HY := Lib.hid (sixes_all y hy)
    have hr3 := block_kept hG3 ((Below.heap_alloc w2 (.cells (sixes.map (Value.int .i64)).toArray 3) _ hs2).trans hr2) (by omega)
    have hx3 := block_kept hG3 ((Below.heap_alloc w2 (.cells (sixes.map (Value.int .i64)).toArray 3) _ hs3).trans hx2) (by omega)
    have hG03 := grown_trans (grown_alloc hG02 (.cells (sixes.map (Value.int .i64)).toArray 3)) hG3
    have cr := cell_blk (i := 0) hr3 rfl
    have cx := cell_blk (i := 0) hx3 rfl
    have fr := free_blk hr3 0
    have fx := free_blk hx3 0
    clear hy hr2 hx2 hr3 hx3 hG3 hG02
    go_wp2
    exact bodyPost_ret (v := .agg #[.int .i64 y]) (by simp [results, Try.results116, go_sem, *]) rfl ⟨y, q3, HY.out.1, HY.out.2, rfl, by omega, (hC3.setNew (p := ⟨w1.heap.size, 0, none⟩) (by simp; omega) _).setNew (p := ⟨w.heap.size, 0, none⟩) (by simp; omega) _, grown_setNew (p := ⟨w.heap.size, 0, none⟩) (grown_setNew (p := ⟨w1.heap.size, 0, none⟩) hG03 (by simp; omega) _) (by simp) _⟩
  | false =>
    have cr := cell_blk (i := 0) hr2 rfl
    have cx := cell_blk (i := 0) hx2 rfl
    have fr := free_blk hr2 0
    have fx := free_blk hx2 0
    clear hr2 hx2
    go_wp2
    exact bodyPost_ret (v := .agg #[.int .i64 (x - 5)]) (by simp [results, Try.results116, go_sem, *]) rfl ⟨x - 5, q2, by omega, by omega, rfl, by omega, hC2.setNew (p := ⟨w.heap.size, 0, none⟩) (by simp; omega) _, grown_setNew (p := ⟨w.heap.size, 0, none⟩) hG02 (by simp) _⟩
/-- A new cursor's block. -/
def curBlk (A : Option Addr) (n c : Nat) : Obj := .cells #[.slice A n c, .int .i64 ((0 : Nat) : Int), .int .u64 0] 125
theorem cur_new' (w : World) (g : Nat) (l : List UInt8) (A : Option Addr) (c n : Nat) (h : BytesAt w A l) (hg : g = w.heap.size) (hn : l.length = n) : Cur (w.alloc (curBlk A n c)) g l A c 0 := by
  subst hg hn
  exact cur_new w l A c h

/-- Some clock and time. -/
def ClockTime (w : World) (e : Ending) (w' : World) : Prop :=
  ∃ o t : Int, -6 ≤ o ∧ o ≤ 6 ∧ -1 ≤ t ∧ t ≤ 100001 ∧ e = .returned (.tuple #[.agg #[.int .i64 o], .int .i64 t]) ∧ Below w.heap.size w w'

set_option maxRecDepth 100000 in
set_option maxHeartbeats 1000000 in
theorem drawSpanAt_any (A : Option Addr) (n c : Nat) (l : List UInt8) (w : World) (hn : l.length = n) (h : BytesAt w A l) (hl : n ≤ 1048576) :
    Calls Try.prog 67 #[.slice A n c] w (ClockTime w) := by
  have HC := Lib.hid (cur_new' (w.alloc (.cells #[.int .i64 0] 68)) (w.heap.size + 1) l A c n (h.below (below1 w _)) (by simp) hn)
  have hl' : l.length ≤ 1048576 := by omega
  have HB := Lib.hid (below2 w (.cells #[.int .i64 0] 68) (curBlk A n c))
  have hr := (Below.heap_alloc (w.alloc (.cells #[.int .i64 0] 68)) (curBlk A n c) w.heap.size (by simp)).trans (heap_alloc_new w (.cells #[.int .i64 0] 68))
  have HR := Lib.hid hr
  clear h hn hr
  go_enter Try.func67, Try.ntmps67
  go_wp2_with fail
  refine (clock_any (w.heap.size + 1) l A c 0 _ HC.out hl' (by omega)).mono ?_
  rintro e w1 ⟨o, q1, ho0, ho1, rfl, hq1, hC1, hG1⟩
  go_wp2_with fail
  refine (time_any (w.heap.size + 1) l A c q1 _ hC1 hl' (by omega)).mono ?_
  rintro e w2 ⟨t, q2, ht0, ht1, rfl, hq2, hC2, hG2⟩
  go_wp2_with fail
  refine (pick_any (w.heap.size + 1) l A c q2 20 _ hC2 hl' (by omega) (by omega) (by omega)).mono ?_
  rintro e w3 ⟨x, q3, hx0, hx1, rfl, hq3, hC3, hG3⟩
  go_wp2_with fail
  refine (pick_any (w.heap.size + 1) l A c q3 20 _ hC3 hl' (by omega) (by omega) (by omega)).mono ?_
  rintro e w4 ⟨y, q4, hy0, hy1, rfl, hq4, hC4, hG4⟩
  have hG := grown_trans hG1 (grown_trans hG2 (grown_trans hG3 hG4))
  have hr := block_kept hG HR.out (by omega)
  have cr := cell_blk (i := 0) hr rfl
  have fr := free_blk hr 0
  have HBB := Lib.hid (HB.out.trans (below_of_grown hG (by omega) (by simp; omega)))
  clear hG1 hG2 hG3 hG4 hG hC1 hC2 hC3 hC4 hr
  go_wp2
  exact bodyPost_ret (v := .tuple #[.agg #[.int .i64 o], .int .i64 (t - x / 19 + y / 19)]) (by simp [results, Try.results67, go_sem, *]) rfl ⟨o, _, ho0, ho1, by omega, by omega, rfl, HBB.out.setCell (by simp) _⟩
/-- Some clock and two times. -/
def ClockTimes (w : World) (e : Ending) (w' : World) : Prop :=
  ∃ o t u : Int, -6 ≤ o ∧ o ≤ 6 ∧ 0 ≤ t ∧ t ≤ 100000 ∧ 0 ≤ u ∧ u ≤ 100000 ∧ e = .returned (.tuple #[.agg #[.int .i64 o], .int .i64 t, .int .i64 u]) ∧ Below w.heap.size w w'

set_option maxRecDepth 100000 in
set_option maxHeartbeats 1000000 in
theorem drawWaitFor_any (A : Option Addr) (n c : Nat) (l : List UInt8) (w : World) (hn : l.length = n) (h : BytesAt w A l) (hl : n ≤ 1048576) :
    Calls Try.prog 70 #[.slice A n c] w (ClockTimes w) := by
  have HC := Lib.hid (cur_new' (w.alloc (.cells #[.int .i64 0] 68)) (w.heap.size + 1) l A c n (h.below (below1 w _)) (by simp) hn)
  have hl' : l.length ≤ 1048576 := by omega
  have HB := Lib.hid (below2 w (.cells #[.int .i64 0] 68) (curBlk A n c))
  have hr := (Below.heap_alloc (w.alloc (.cells #[.int .i64 0] 68)) (curBlk A n c) w.heap.size (by simp)).trans (heap_alloc_new w (.cells #[.int .i64 0] 68))
  have HR := Lib.hid hr
  clear h hn hr
  go_enter Try.func70, Try.ntmps70
  go_wp2_with fail
  refine (clock_any (w.heap.size + 1) l A c 0 _ HC.out hl' (by omega)).mono ?_
  rintro e w1 ⟨o, q1, ho0, ho1, rfl, hq1, hC1, hG1⟩
  go_wp2_with fail
  refine (time_any (w.heap.size + 1) l A c q1 _ hC1 hl' (by omega)).mono ?_
  rintro e w2 ⟨t, q2, ht0, ht1, rfl, hq2, hC2, hG2⟩
  go_wp2_with fail
  refine (time_any (w.heap.size + 1) l A c q2 _ hC2 hl' (by omega)).mono ?_
  rintro e w3 ⟨u, q3, hu0, hu1, rfl, hq3, hC3, hG3⟩
  have hG := grown_trans hG1 (grown_trans hG2 hG3)
  have hr := block_kept hG HR.out (by omega)
  have cr := cell_blk (i := 0) hr rfl
  have fr := free_blk hr 0
  have HBB := Lib.hid (HB.out.trans (below_of_grown hG (by omega) (by simp; omega)))
  clear hG1 hG2 hG3 hG hC1 hC2 hC3 hr
  go_wp2
  exact bodyPost_ret (v := .tuple #[.agg #[.int .i64 o], .int .i64 t, .int .i64 u]) (by simp [results, Try.results70, go_sem, *]) rfl ⟨o, t, u, ho0, ho1, ht0, ht1, hu0, hu1, rfl, HBB.out.setCell (by simp) _⟩

/-- Some clock. -/
def SomeClock (w : World) (e : Ending) (w' : World) : Prop :=
  ∃ o : Int, -6 ≤ o ∧ o ≤ 6 ∧ e = .returned (.agg #[.int .i64 o]) ∧ Below w.heap.size w w'

set_option maxRecDepth 100000 in
set_option maxHeartbeats 1000000 in
theorem drawGoodClock_any (A : Option Addr) (n c : Nat) (l : List UInt8) (w : World) (hn : l.length = n) (h : BytesAt w A l) (hl : n ≤ 1048576) :
    Calls Try.prog 73 #[.slice A n c] w (SomeClock w) := by
  have HC := Lib.hid (cur_new' (w.alloc (.cells #[.int .i64 0] 68)) (w.heap.size + 1) l A c n (h.below (below1 w _)) (by simp) hn)
  have hl' : l.length ≤ 1048576 := by omega
  have HB := Lib.hid (below2 w (.cells #[.int .i64 0] 68) (curBlk A n c))
  have hr := (Below.heap_alloc (w.alloc (.cells #[.int .i64 0] 68)) (curBlk A n c) w.heap.size (by simp)).trans (heap_alloc_new w (.cells #[.int .i64 0] 68))
  have HR := Lib.hid hr
  clear h hn hr
  go_enter Try.func73, Try.ntmps73
  go_wp2_with fail
  refine (clock_any (w.heap.size + 1) l A c 0 _ HC.out hl' (by omega)).mono ?_
  rintro e w1 ⟨o, q1, ho0, ho1, rfl, hq1, hC1, hG1⟩
  have hr := block_kept hG1 HR.out (by omega)
  have cr := cell_blk (i := 0) hr rfl
  have fr := free_blk hr 0
  have HBB := Lib.hid (HB.out.trans (below_of_grown hG1 (by omega) (by simp; omega)))
  clear hG1 hC1 hr
  go_wp2
  exact bodyPost_ret (v := .agg #[.int .i64 o]) (by simp [results, Try.results73, go_sem, *]) rfl ⟨o, ho0, ho1, rfl, HBB.out.setCell (by simp) _⟩

end Go.Proofs.Ytoanigbjdfgjcaa.Sp
