/-
  Contracts for the model's drawing of clocks, times and spans.
-/
import Derived.Test.YtmdejfdkdgpffaaCur
import Derived.Test.YtmdejfdkdgpffaaGood
namespace Go.Proofs.Ytmdejfdkdgpffaa
open Go.RowKit
set_option linter.unusedVariables false

theorem grown_setNew {w w1 : World} {row : Option Nat} (h : w.grownBy w1 row) {p : Addr} (hp : w.heap.size ≤ p.block) (u : Value) : w.grownBy (w1.setCell p u) row :=
  ⟨h.os, h.tape, h.output, by have := h.size; simpa [World.setCell] using this, fun k hk hr => (Below.heap_setCell _ _ _ _ (fun e => by omega)).trans (h.block k hk hr)⟩
theorem grown_alloc {w w1 : World} {row : Option Nat} (h : w.grownBy w1 row) (o : Obj) : w.grownBy (w1.alloc o) row := grown_trans h (World.grownBy_alloc w1 o row)
theorem Cur.setNew {w : World} {g c q : Nat} {l : List UInt8} {A : Option Addr} (h : Cur w g l A c q) {p : Addr} (hp : g < p.block) (u : Value) : Cur (w.setCell p u) g l A c q :=
  h.belowB ((Below.refl (g + 1) w).setCell (by omega) u) (by omega)
theorem Cur.allocated {w : World} {g c q : Nat} {l : List UInt8} {A : Option Addr} (h : Cur w g l A c q) (o : Obj) : Cur (w.alloc o) g l A c q :=
  h.below ((Below.refl _ _).alloc (Nat.le_refl _) o)
/-- A block that is not the cursor's stands as it was. -/
theorem block_kept {w w1 : World} {g k : Nat} {o : Obj} (hG : w.grownBy w1 (some g)) (h : w.heap[k]? = some o) (hk : k ≠ g) : w1.heap[k]? = some o := by
  have hlt : k < w.heap.size := (Array.getElem?_eq_some_iff.1 h).1
  rw [hG.block k hlt (by simp; omega)]
  exact h

theorem cell_blk {w : World} {k i : Nat} {cs : Array Value} {t : TypeId} {v : Value} (h : w.heap[k]? = some (.cells cs t (0, 0))) (hv : cs[i]? = some v) : w.cell? ⟨k, i, none⟩ = some v := (cell_of_row w k i cs t (0, 0) h).trans hv
theorem free_blk {w : World} {k : Nat} {cs : Array Value} {t : TypeId} (h : w.heap[k]? = some (.cells cs t (0, 0))) (i : Nat) : w.frozen? ⟨k, i, none⟩ = false := by simp [World.frozen?, h]
theorem lt_blk {w : World} {k : Nat} {o : Obj} (h : w.heap[k]? = some o) : k < w.heap.size := (Array.getElem?_eq_some_iff.1 h).1

/-- The times that are drawn. -/
def timesL : List Int := [0, 1, 3, 7, 10, 20, 50, 100, 100000]
theorem timesL_all : ∀ x ∈ timesL, 0 ≤ x ∧ x ≤ 100000 := by decide

/-- Some number from lo to hi, the cursor gone on by at most d. -/
theorem StepPost.from {w w1 w' : World} {g : Nat} {l : List UInt8} {A : Option Addr} {c q q1 d d1 : Nat} {lo hi : Int} {e : Ending} (h : StepPost w1 g l A c q1 d lo hi e w') (hg : w.grownBy w1 (some g)) (hq : q1 + d ≤ q + d1) : StepPost w g l A c q d1 lo hi e w' := by
  obtain ⟨t, q', h0, h1, he, hq', hC, hG⟩ := h
  exact ⟨t, q', h0, h1, he, by omega, hC, grown_trans hg hG⟩

set_option maxRecDepth 100000 in
set_option maxHeartbeats 1000000 in
theorem time_any (g : Nat) (l : List UInt8) (A : Option Addr) (c q : Nat) (w : World) (h : Cur w g l A c q) (hl : l.length ≤ 1048576) (hq : q ≤ 800000000) :
    Calls Try.prog 46 #[.pointer (some ⟨g, 0, none⟩)] w (StepPost w g l A c q 2 0 100000) := by
  have hlt := h.lt
  have hC := h.allocated (.cells (timesL.map (Value.int .i64)).toArray 3)
  have HO := Lib.hid (among_any g l A c q w.heap.size 9 9 timesL _ hC hl (by omega) rfl (by omega) (by omega) (by omega) (new_ints w timesL 3))
  clear h hC
  go_enter Try.func46, Try.ntmps46
  go_wp2_with fail
  refine HO.out.mono ?_
  intro e w1 hres
  obtain ⟨x, q', hx, rfl, hq', hC, hG⟩ := hres
  have HX := Lib.hid (timesL_all x hx)
  clear hx
  go_wp2
  go_ret
  exact ⟨x, q', HX.out.1, HX.out.2, rfl, hq', hC, grown_trans (World.grownBy_alloc w _ (some g)) hG⟩

/-- Some clock with an offset from -6 to 6. -/
def ClockPost (w : World) (g : Nat) (l : List UInt8) (A : Option Addr) (c q d : Nat) (e : Ending) (w' : World) : Prop :=
  ∃ (x : Int) (q' : Nat), -6 ≤ x ∧ x ≤ 6 ∧ e = .returned (.agg #[.int .i64 x]) ∧ q' ≤ q + d ∧ Cur w' g l A c q' ∧ w.grownBy w' (some g)

def sixes : List Int := [6, -6]
theorem sixes_all : ∀ x ∈ sixes, -6 ≤ x ∧ x ≤ 6 := by decide

set_option maxRecDepth 100000 in
set_option maxHeartbeats 1000000 in
theorem clock_any (g : Nat) (l : List UInt8) (A : Option Addr) (c q : Nat) (w : World) (h : Cur w g l A c q) (hl : l.length ≤ 1048576) (hq : q ≤ 800000000) :
    Calls Try.prog 45 #[.pointer (some ⟨g, 0, none⟩)] w (ClockPost w g l A c q 6) := by
  have hlt := h.lt
  have H := Lib.hid (h.allocated (.cells #[.int .i64 0] 25))
  clear h
  go_enter Try.func45, Try.ntmps45
  go_wp2_with fail
  refine (pick_any g l A c q 11 _ H.out hl (by omega) (by omega) (by omega)).mono ?_
  rintro e w1 ⟨x, q1, hx0, hx1, rfl, hq1, hC1, hG1⟩
  have hr1 := block_kept hG1 (heap_alloc_new w (.cells #[.int .i64 0] 25)) (by omega)
  have hs1 : w.heap.size < w1.heap.size := by have := hG1.size; simp at this; omega
  have hG01 := grown_trans (World.grownBy_alloc w (.cells #[.int .i64 0] 25) (some g)) hG1
  have HC1 := Lib.hid (hC1.allocated (.cells #[.int .i64 (x - 5)] 25))
  clear hC1 hG1
  go_wp2_with fail
  refine (one_any g l A c q1 30 _ HC1.out hl (by omega) (by omega) (by omega)).mono ?_
  rintro e w2 ⟨b, q2, rfl, hq2, hC2, hG2⟩
  have hr2 := block_kept hG2 ((Below.heap_alloc w1 (.cells #[.int .i64 (x - 5)] 25) _ hs1).trans hr1) (by omega)
  have hx2 := block_kept hG2 (heap_alloc_new w1 (.cells #[.int .i64 (x - 5)] 25)) (by omega)
  have hG02 := grown_trans (grown_alloc hG01 (.cells #[.int .i64 (x - 5)] 25)) hG2
  have hs2 := lt_blk hr2
  have hs3 := lt_blk hx2
  have hne : w.heap.size ≠ w1.heap.size := by omega
  clear hr1 hG01 hG2
  cases b with
  | true =>
    have HO := Lib.hid (among_any g l A c q2 w2.heap.size 2 2 sixes _ (hC2.allocated (.cells (sixes.map (Value.int .i64)).toArray 3)) hl (by omega) rfl (by omega) (by omega) (by have := hC2.lt; omega) (new_ints w2 sixes 3))
    clear hC2
    go_wp2_with fail
    refine HO.out.mono ?_
    intro e w3 hres
    obtain ⟨y, q3, hy, rfl, hq3, hC3, hG3⟩ := hres
    have HY := Lib.hid (sixes_all y hy)
    have hr3 := block_kept hG3 ((Below.heap_alloc w2 (.cells (sixes.map (Value.int .i64)).toArray 3) _ hs2).trans hr2) (by omega)
    have hx3 := block_kept hG3 ((Below.heap_alloc w2 (.cells (sixes.map (Value.int .i64)).toArray 3) _ hs3).trans hx2) (by omega)
    have hG03 := grown_trans (grown_alloc hG02 (.cells (sixes.map (Value.int .i64)).toArray 3)) hG3
    have cr := cell_blk (i := 0) hr3 rfl
    have cx := cell_blk (i := 0) hx3 rfl
    have fr := free_blk hr3 0
    have fx := free_blk hx3 0
    clear hy hr2 hx2 hr3 hx3 hG3 hG02
    go_wp2
    exact bodyPost_ret (v := .agg #[.int .i64 y]) (by simp [results, Try.results45, go_sem, *]) rfl ⟨y, q3, HY.out.1, HY.out.2, rfl, by omega, (hC3.setNew (p := ⟨w1.heap.size, 0, none⟩) (by simp; omega) _).setNew (p := ⟨w.heap.size, 0, none⟩) (by simp; omega) _, grown_setNew (p := ⟨w.heap.size, 0, none⟩) (grown_setNew (p := ⟨w1.heap.size, 0, none⟩) hG03 (by simp; omega) _) (by simp) _⟩
  | false =>
    have cr := cell_blk (i := 0) hr2 rfl
    have cx := cell_blk (i := 0) hx2 rfl
    have fr := free_blk hr2 0
    have fx := free_blk hx2 0
    clear hr2 hx2
    go_wp2
    exact bodyPost_ret (v := .agg #[.int .i64 (x - 5)]) (by simp [results, Try.results45, go_sem, *]) rfl ⟨x - 5, q2, by omega, by omega, rfl, by omega, hC2.setNew (p := ⟨w.heap.size, 0, none⟩) (by simp; omega) _, grown_setNew (p := ⟨w.heap.size, 0, none⟩) hG02 (by simp) _⟩
/-- Some span, valid or not, with small ends. -/
def SpanPost (w : World) (g : Nat) (l : List UInt8) (A : Option Addr) (c q d : Nat) (e : Ending) (w' : World) : Prop :=
  ∃ (x y : Int) (q' : Nat), -10 ≤ x ∧ x ≤ 100 ∧ -10 ≤ y ∧ y ≤ 100011 ∧ e = .returned (.agg #[.int .i64 x, .int .i64 y]) ∧ q' ≤ q + d ∧ Cur w' g l A c q' ∧ w.grownBy w' (some g)

set_option maxRecDepth 100000 in
set_option maxHeartbeats 1000000 in
theorem span_any (g : Nat) (l : List UInt8) (A : Option Addr) (c q : Nat) (w : World) (h : Cur w g l A c q) (hl : l.length ≤ 1048576) (hq : q ≤ 800000000) :
    Calls Try.prog 55 #[.pointer (some ⟨g, 0, none⟩)] w (SpanPost w g l A c q 6) := by
  have hlt := h.lt
  have H := Lib.hid (h.allocated (.cells #[.int .i64 0, .int .i64 0] 29))
  clear h
  go_enter Try.func55, Try.ntmps55
  go_wp2_with fail
  refine (pick_any g l A c q 30 _ H.out hl (by omega) (by omega) (by omega)).mono ?_
  rintro e w1 ⟨x, q1, hx0, hx1, rfl, hq1, hC1, hG1⟩
  have hr1 := block_kept hG1 (heap_alloc_new w (.cells #[.int .i64 0, .int .i64 0] 29)) (by omega)
  have hs1 : w.heap.size < w1.heap.size := by have := hG1.size; simp at this; omega
  have hG01 := grown_trans (World.grownBy_alloc w (.cells #[.int .i64 0, .int .i64 0] 29) (some g)) hG1
  clear hG1
  go_wp2_with fail
  refine (pick_any g l A c q1 12 _ hC1 hl (by omega) (by omega) (by omega)).mono ?_
  rintro e w2 ⟨z, q2, hz0, hz1, rfl, hq2, hC2, hG2⟩
  have hr2 := block_kept hG2 hr1 (by omega)
  have hG02 := grown_trans hG01 hG2
  have hs2 := lt_blk hr2
  have HC2 := Lib.hid (hC2.allocated (.cells #[.int .i64 (x - 5), .int .i64 (x - 5 + z)] 29))
  clear hC1 hC2 hG01 hG2 hr1
  go_wp2_with fail
  refine (pick_any g l A c q2 30 _ HC2.out hl (by omega) (by omega) (by omega)).mono ?_
  rintro e w3 ⟨k, q3, hk0, hk1, rfl, hq3, hC3, hG3⟩
  have hgs := H.out.lt
  have hgs2 := HC2.out.lt
  have hr3 := block_kept hG3 ((Below.heap_alloc w2 (.cells #[.int .i64 (x - 5), .int .i64 (x - 5 + z)] 29) _ hs2).trans hr2) (by omega)
  have hx3 := block_kept hG3 (heap_alloc_new w2 (.cells #[.int .i64 (x - 5), .int .i64 (x - 5 + z)] 29)) (by omega)
  have hG03 := grown_trans (grown_alloc hG02 (.cells #[.int .i64 (x - 5), .int .i64 (x - 5 + z)] 29)) hG3
  have hne : w.heap.size ≠ w2.heap.size := by omega
  have cr0 := cell_blk (i := 0) hr3 rfl
  have cr1 := cell_blk (i := 1) hr3 rfl
  have cx0 := cell_blk (i := 0) hx3 rfl
  have cx1 := cell_blk (i := 1) hx3 rfl
  have fr0 := free_blk hr3 0
  have fr1 := free_blk hr3 1
  have fx0 := free_blk hx3 0
  have fx1 := free_blk hx3 1
  clear hr2 hr3 hx3 hG3 hG02 hgs hgs2
  by_cases h0 : k = 0
  · subst h0
    go_wp2
    exact bodyPost_ret (v := .agg #[.int .i64 (x - 5), .int .i64 (x - 5 - 1)]) (by simp [results, Try.results55, go_sem, *]) rfl ⟨x - 5, x - 5 - 1, q3, by omega, by omega, by omega, by omega, rfl, by omega, (((hC3.setNew (p := ⟨w2.heap.size, 1, none⟩) (by simp; omega) _).setNew (p := ⟨w.heap.size, 0, none⟩) (by simp; omega) _).setNew (p := ⟨w.heap.size, 1, none⟩) (by simp; omega) _), (grown_setNew (p := ⟨w.heap.size, 1, none⟩) (grown_setNew (p := ⟨w.heap.size, 0, none⟩) (grown_setNew (p := ⟨w2.heap.size, 1, none⟩) hG03 (by simp; try omega) _) (by simp; try omega) _) (by simp; try omega) _)⟩
  · by_cases h1 : k = 1
    · subst h1
      go_wp2
      exact bodyPost_ret (v := .agg #[.int .i64 (-10), .int .i64 (100010)]) (by simp [results, Try.results55, go_sem, *]) rfl ⟨-10, 100010, q3, by omega, by omega, by omega, by omega, rfl, by omega, ((((hC3.setNew (p := ⟨w2.heap.size, 0, none⟩) (by simp; omega) _).setNew (p := ⟨w2.heap.size, 1, none⟩) (by simp; omega) _).setNew (p := ⟨w.heap.size, 0, none⟩) (by simp; omega) _).setNew (p := ⟨w.heap.size, 1, none⟩) (by simp; omega) _), (grown_setNew (p := ⟨w.heap.size, 1, none⟩) (grown_setNew (p := ⟨w.heap.size, 0, none⟩) (grown_setNew (p := ⟨w2.heap.size, 1, none⟩) (grown_setNew (p := ⟨w2.heap.size, 0, none⟩) hG03 (by simp; try omega) _) (by simp; try omega) _) (by simp; try omega) _) (by simp; try omega) _)⟩
    · by_cases h2 : k = 2
      · subst h2
        go_wp2
        exact bodyPost_ret (v := .agg #[.int .i64 (x - 5), .int .i64 (100011)]) (by simp [results, Try.results55, go_sem, *]) rfl ⟨x - 5, 100011, q3, by omega, by omega, by omega, by omega, rfl, by omega, (((hC3.setNew (p := ⟨w2.heap.size, 1, none⟩) (by simp; omega) _).setNew (p := ⟨w.heap.size, 0, none⟩) (by simp; omega) _).setNew (p := ⟨w.heap.size, 1, none⟩) (by simp; omega) _), (grown_setNew (p := ⟨w.heap.size, 1, none⟩) (grown_setNew (p := ⟨w.heap.size, 0, none⟩) (grown_setNew (p := ⟨w2.heap.size, 1, none⟩) hG03 (by simp; try omega) _) (by simp; try omega) _) (by simp; try omega) _)⟩
      · have e0 : (k == 0) = false := by simpa using h0
        have e1 : (k == 1) = false := by simpa using h1
        have e2 : (k == 2) = false := by simpa using h2
        clear h0 h1 h2
        go_wp2
        exact bodyPost_ret (v := .agg #[.int .i64 (x - 5), .int .i64 (x - 5 + z)]) (by simp [results, Try.results55, go_sem, *]) rfl ⟨x - 5, x - 5 + z, q3, by omega, by omega, by omega, by omega, rfl, by omega, ((hC3.setNew (p := ⟨w.heap.size, 0, none⟩) (by simp; omega) _).setNew (p := ⟨w.heap.size, 1, none⟩) (by simp; omega) _), (grown_setNew (p := ⟨w.heap.size, 1, none⟩) (grown_setNew (p := ⟨w.heap.size, 0, none⟩) hG03 (by simp; try omega) _) (by simp; try omega) _)⟩
end Go.Proofs.Ytmdejfdkdgpffaa
