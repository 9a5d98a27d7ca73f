/-
  Contracts for the model's drawing of the arguments of SpanAt, WaitFor, GoodClock, MoveSpan and SurelyAfter.
-/
import Derived.Test.YtmdejfdkdgpffaaDraw
namespace Go.Proofs.Ytmdejfdkdgpffaa
open Go.RowKit
set_option linter.unusedVariables false

/-- A new cursor's block. -/
def curBlk (A : Option Addr) (n c : Nat) : Obj := .cells #[.slice A n c, .int .i64 ((0 : Nat) : Int), .int .u64 0] 70
theorem cur_new' (w : World) (g : Nat) (l : List UInt8) (A : Option Addr) (c n : Nat) (h : BytesAt w A l) (hg : g = w.heap.size) (hn : l.length = n) : Cur (w.alloc (curBlk A n c)) g l A c 0 := by
  subst hg hn
  exact cur_new w l A c h

/-- Some clock and time. -/
def ClockTime (w : World) (e : Ending) (w' : World) : Prop :=
  ∃ o t : Int, -6 ≤ o ∧ o ≤ 6 ∧ -1 ≤ t ∧ t ≤ 100001 ∧ e = .returned (.tuple #[.agg #[.int .i64 o], .int .i64 t]) ∧ Below w.heap.size w w'

set_option maxRecDepth 100000 in
set_option maxHeartbeats 1000000 in
theorem drawSpanAt_any (A : Option Addr) (n c : Nat) (l : List UInt8) (w : World) (hn : l.length = n) (h : BytesAt w A l) (hl : n ≤ 1048576) :
    Calls Try.prog 15 #[.slice A n c] w (ClockTime w) := by
  have HC := Lib.hid (cur_new' (w.alloc (.cells #[.int .i64 0] 25)) (w.heap.size + 1) l A c n (h.below (below1 w _)) (by simp) hn)
  have hl' : l.length ≤ 1048576 := by omega
  have HB := Lib.hid (below2 w (.cells #[.int .i64 0] 25) (curBlk A n c))
  have hr := (Below.heap_alloc (w.alloc (.cells #[.int .i64 0] 25)) (curBlk A n c) w.heap.size (by simp)).trans (heap_alloc_new w (.cells #[.int .i64 0] 25))
  have HR := Lib.hid hr
  clear h hn hr
  go_enter Try.func15, Try.ntmps15
  go_wp2_with fail
  refine (clock_any (w.heap.size + 1) l A c 0 _ HC.out hl' (by omega)).mono ?_
  rintro e w1 ⟨o, q1, ho0, ho1, rfl, hq1, hC1, hG1⟩
  go_wp2_with fail
  refine (time_any (w.heap.size + 1) l A c q1 _ hC1 hl' (by omega)).mono ?_
  rintro e w2 ⟨t, q2, ht0, ht1, rfl, hq2, hC2, hG2⟩
  go_wp2_with fail
  refine (pick_any (w.heap.size + 1) l A c q2 20 _ hC2 hl' (by omega) (by omega) (by omega)).mono ?_
  rintro e w3 ⟨x, q3, hx0, hx1, rfl, hq3, hC3, hG3⟩
  go_wp2_with fail
  refine (pick_any (w.heap.size + 1) l A c q3 20 _ hC3 hl' (by omega) (by omega) (by omega)).mono ?_
  rintro e w4 ⟨y, q4, hy0, hy1, rfl, hq4, hC4, hG4⟩
  have hG := grown_trans hG1 (grown_trans hG2 (grown_trans hG3 hG4))
  have hr := block_kept hG HR.out (by omega)
  have cr := cell_blk (i := 0) hr rfl
  have fr := free_blk hr 0
  have HBB := Lib.hid (HB.out.trans (below_of_grown hG (by omega) (by simp; omega)))
  clear hG1 hG2 hG3 hG4 hG hC1 hC2 hC3 hC4 hr
  go_wp2
  exact bodyPost_ret (v := .tuple #[.agg #[.int .i64 o], .int .i64 (t - x / 19 + y / 19)]) (by simp [results, Try.results15, go_sem, *]) rfl ⟨o, _, ho0, ho1, by omega, by omega, rfl, HBB.out.setCell (by simp) _⟩
/-- Some clock and two times. -/
def ClockTimes (w : World) (e : Ending) (w' : World) : Prop :=
  ∃ o t u : Int, -6 ≤ o ∧ o ≤ 6 ∧ 0 ≤ t ∧ t ≤ 100000 ∧ 0 ≤ u ∧ u ≤ 100000 ∧ e = .returned (.tuple #[.agg #[.int .i64 o], .int .i64 t, .int .i64 u]) ∧ Below w.heap.size w w'

set_option maxRecDepth 100000 in
set_option maxHeartbeats 1000000 in
theorem drawWaitFor_any (A : Option Addr) (n c : Nat) (l : List UInt8) (w : World) (hn : l.length = n) (h : BytesAt w A l) (hl : n ≤ 1048576) :
    Calls Try.prog 18 #[.slice A n c] w (ClockTimes w) := by
  have HC := Lib.hid (cur_new' (w.alloc (.cells #[.int .i64 0] 25)) (w.heap.size + 1) l A c n (h.below (below1 w _)) (by simp) hn)
  have hl' : l.length ≤ 1048576 := by omega
  have HB := Lib.hid (below2 w (.cells #[.int .i64 0] 25) (curBlk A n c))
  have hr := (Below.heap_alloc (w.alloc (.cells #[.int .i64 0] 25)) (curBlk A n c) w.heap.size (by simp)).trans (heap_alloc_new w (.cells #[.int .i64 0] 25))
  have HR := Lib.hid hr
  clear h hn hr
  go_enter Try.func18, Try.ntmps18
  go_wp2_with fail
  refine (clock_any (w.heap.size + 1) l A c 0 _ HC.out hl' (by omega)).mono ?_
  rintro e w1 ⟨o, q1, ho0, ho1, rfl, hq1, hC1, hG1⟩
  go_wp2_with fail
  refine (time_any (w.heap.size + 1) l A c q1 _ hC1 hl' (by omega)).mono ?_
  rintro e w2 ⟨t, q2, ht0, ht1, rfl, hq2, hC2, hG2⟩
  go_wp2_with fail
  refine (time_any (w.heap.size + 1) l A c q2 _ hC2 hl' (by omega)).mono ?_
  rintro e w3 ⟨u, q3, hu0, hu1, rfl, hq3, hC3, hG3⟩
  have hG := grown_trans hG1 (grown_trans hG2 hG3)
  have hr := block_kept hG HR.out (by omega)
  have cr := cell_blk (i := 0) hr rfl
  have fr := free_blk hr 0
  have HBB := Lib.hid (HB.out.trans (below_of_grown hG (by omega) (by simp; omega)))
  clear hG1 hG2 hG3 hG hC1 hC2 hC3 hr
  go_wp2
  exact bodyPost_ret (v := .tuple #[.agg #[.int .i64 o], .int .i64 t, .int .i64 u]) (by simp [results, Try.results18, go_sem, *]) rfl ⟨o, t, u, ho0, ho1, ht0, ht1, hu0, hu1, rfl, HBB.out.setCell (by simp) _⟩

/-- Some clock. -/
def SomeClock (w : World) (e : Ending) (w' : World) : Prop :=
  ∃ o : Int, -6 ≤ o ∧ o ≤ 6 ∧ e = .returned (.agg #[.int .i64 o]) ∧ Below w.heap.size w w'

set_option maxRecDepth 100000 in
set_option maxHeartbeats 1000000 in
theorem drawGoodClock_any (A : Option Addr) (n c : Nat) (l : List UInt8) (w : World) (hn : l.length = n) (h : BytesAt w A l) (hl : n ≤ 1048576) :
    Calls Try.prog 24 #[.slice A n c] w (SomeClock w) := by
  have HC := Lib.hid (cur_new' (w.alloc (.cells #[.int .i64 0] 25)) (w.heap.size + 1) l A c n (h.below (below1 w _)) (by simp) hn)
  have hl' : l.length ≤ 1048576 := by omega
  have HB := Lib.hid (below2 w (.cells #[.int .i64 0] 25) (curBlk A n c))
  have hr := (Below.heap_alloc (w.alloc (.cells #[.int .i64 0] 25)) (curBlk A n c) w.heap.size (by simp)).trans (heap_alloc_new w (.cells #[.int .i64 0] 25))
  have HR := Lib.hid hr
  clear h hn hr
  go_enter Try.func24, Try.ntmps24
  go_wp2_with fail
  refine (clock_any (w.heap.size + 1) l A c 0 _ HC.out hl' (by omega)).mono ?_
  rintro e w1 ⟨o, q1, ho0, ho1, rfl, hq1, hC1, hG1⟩
  have hr := block_kept hG1 HR.out (by omega)
  have cr := cell_blk (i := 0) hr rfl
  have fr := free_blk hr 0
  have HBB := Lib.hid (HB.out.trans (below_of_grown hG1 (by omega) (by simp; omega)))
  clear hG1 hC1 hr
  go_wp2
  exact bodyPost_ret (v := .agg #[.int .i64 o]) (by simp [results, Try.results24, go_sem, *]) rfl ⟨o, ho0, ho1, rfl, HBB.out.setCell (by simp) _⟩

/-- Some span and a number. -/
def SpanBy (w : World) (e : Ending) (w' : World) : Prop :=
  ∃ x y t : Int, -10 ≤ x ∧ x ≤ 100 ∧ -10 ≤ y ∧ y ≤ 100011 ∧ -1 ≤ t ∧ t ≤ 100000 ∧ e = .returned (.tuple #[.agg #[.int .i64 x, .int .i64 y], .int .i64 t]) ∧ Below w.heap.size w w'

set_option maxRecDepth 100000 in
set_option maxHeartbeats 1000000 in
theorem drawMoveSpan_any (A : Option Addr) (n c : Nat) (l : List UInt8) (w : World) (hn : l.length = n) (h : BytesAt w A l) (hl : n ≤ 1048576) :
    Calls Try.prog 34 #[.slice A n c] w (SpanBy w) := by
  have HC := Lib.hid (cur_new' (w.alloc (.cells #[.int .i64 0, .int .i64 0] 29)) (w.heap.size + 1) l A c n (h.below (below1 w _)) (by simp) hn)
  have hl' : l.length ≤ 1048576 := by omega
  have HB := Lib.hid (below2 w (.cells #[.int .i64 0, .int .i64 0] 29) (curBlk A n c))
  have hr := (Below.heap_alloc (w.alloc (.cells #[.int .i64 0, .int .i64 0] 29)) (curBlk A n c) w.heap.size (by simp)).trans (heap_alloc_new w (.cells #[.int .i64 0, .int .i64 0] 29))
  have HR := Lib.hid hr
  clear h hn hr
  go_enter Try.func34, Try.ntmps34
  go_wp2_with fail
  refine (span_any (w.heap.size + 1) l A c 0 _ HC.out hl' (by omega)).mono ?_
  rintro e w1 ⟨x, y, q1, hx0, hx1, hy0, hy1, rfl, hq1, hC1, hG1⟩
  go_wp2_with fail
  refine (time_any (w.heap.size + 1) l A c q1 _ hC1 hl' (by omega)).mono ?_
  rintro e w2 ⟨t, q2, ht0, ht1, rfl, hq2, hC2, hG2⟩
  go_wp2_with fail
  refine (pick_any (w.heap.size + 1) l A c q2 20 _ hC2 hl' (by omega) (by omega) (by omega)).mono ?_
  rintro e w3 ⟨u, q3, hu0, hu1, rfl, hq3, hC3, hG3⟩
  have hG := grown_trans hG1 (grown_trans hG2 hG3)
  have hr := block_kept hG HR.out (by omega)
  have cr0 := cell_blk (i := 0) hr rfl
  have cr1 := cell_blk (i := 1) hr rfl
  have fr0 := free_blk hr 0
  have fr1 := free_blk hr 1
  have HBB := Lib.hid (HB.out.trans (below_of_grown hG (by omega) (by simp; omega)))
  clear hG1 hG2 hG3 hG hC1 hC2 hC3 hr
  go_wp2
  exact bodyPost_ret (v := .tuple #[.agg #[.int .i64 x, .int .i64 y], .int .i64 (t - u / 19)]) (by simp [results, Try.results34, go_sem, *]) rfl ⟨x, y, _, hx0, hx1, hy0, hy1, by omega, by omega, rfl, (HBB.out.setCell (by simp) _).setCell (by simp) _⟩

/-- Some two spans. -/
def SpanSpan (w : World) (e : Ending) (w' : World) : Prop :=
  ∃ x y u v : Int, e = .returned (.tuple #[.agg #[.int .i64 x, .int .i64 y], .agg #[.int .i64 u, .int .i64 v]]) ∧ Below w.heap.size w w'

set_option maxRecDepth 100000 in
set_option maxHeartbeats 1000000 in
theorem drawSurelyAfter_any (A : Option Addr) (n c : Nat) (l : List UInt8) (w : World) (hn : l.length = n) (h : BytesAt w A l) (hl : n ≤ 1048576) :
    Calls Try.prog 32 #[.slice A n c] w (SpanSpan w) := by
  obtain ⟨o0, ho0⟩ : ∃ o, o = Obj.cells #[.int .i64 0, .int .i64 0] 29 := ⟨_, rfl⟩
  have HC := Lib.hid (cur_new' ((w.alloc o0).alloc o0) (w.heap.size + 2) l A c n (h.below (below2 w _ _)) (by simp) hn)
  have hl' : l.length ≤ 1048576 := by omega
  have HB := Lib.hid (below3 w o0 o0 (curBlk A n c))
  have hr := (Below.heap_alloc ((w.alloc o0).alloc o0) (curBlk A n c) w.heap.size (by simp; omega)).trans ((Below.heap_alloc (w.alloc o0) o0 w.heap.size (by simp)).trans (heap_alloc_new w o0))
  have hr2 := (Below.heap_alloc ((w.alloc o0).alloc o0) (curBlk A n c) (w.alloc o0).heap.size (by simp)).trans (heap_alloc_new (w.alloc o0) o0)
  rw [show (w.alloc o0).heap.size = w.heap.size + 1 by simp] at hr2
  rw [ho0] at HC HB hr hr2
  have HR := Lib.hid hr
  have HR2 := Lib.hid hr2
  clear h hn hr hr2 ho0
  go_enter Try.func32, Try.ntmps32
  go_wp2_with fail
  refine (span_any (w.heap.size + 2) l A c 0 _ HC.out hl' (by omega)).mono ?_
  rintro e w1 ⟨x, y, q1, hx0, hx1, hy0, hy1, rfl, hq1, hC1, hG1⟩
  go_wp2_with fail
  refine (span_any (w.heap.size + 2) l A c q1 _ hC1 hl' (by omega)).mono ?_
  rintro e w2 ⟨u, v, q2, hu0, hu1, hv0, hv1, rfl, hq2, hC2, hG2⟩
  have hG := grown_trans hG1 hG2
  have hr := block_kept hG HR.out (by omega)
  have hs := block_kept hG HR2.out (by omega)
  have cr0 := cell_blk (i := 0) hr rfl
  have cr1 := cell_blk (i := 1) hr rfl
  have fr0 := free_blk hr 0
  have fr1 := free_blk hr 1
  have cs0 := cell_blk (i := 0) hs rfl
  have cs1 := cell_blk (i := 1) hs rfl
  have fs0 := free_blk hs 0
  have fs1 := free_blk hs 1
  have HBB := Lib.hid (HB.out.trans (below_of_grown hG (by omega) (by simp; omega)))
  clear hG1 hG2 hG hC1 hC2 hr hs
  go_wp2
  exact bodyPost_ret (v := .tuple #[.agg #[.int .i64 x, .int .i64 y], .agg #[.int .i64 u, .int .i64 v]]) (by simp [results, Try.results32, go_sem, *]) rfl ⟨x, y, u, v, rfl, (((HBB.out.setCell (by simp) _).setCell (by simp) _).setCell (by simp) _).setCell (by simp) _⟩
end Go.Proofs.Ytmdejfdkdgpffaa
