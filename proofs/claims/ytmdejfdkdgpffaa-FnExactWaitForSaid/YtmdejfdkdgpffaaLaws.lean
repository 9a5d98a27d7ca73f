/-
  The walks of the exact laws of chapter 2 but MeetSpans and SurelyAfter: the program's answer and the model's are compared and found equal.
-/
import Derived.Test.YtmdejfdkdgpffaaWait
namespace Go.Proofs.Ytmdejfdkdgpffaa
open Go.RowKit
set_option linter.unusedVariables false

set_option maxRecDepth 100000 in
theorem goodSpan_walk (a b : Int) (w : World) :
    Calls Try.prog 5 #[.agg #[.int .i64 a, .int .i64 b]] w fun e w' => e = .returned (.bool true) ∧ Below w.heap.size w w' := by
  have HC := Lib.hid fun W => toSpan_any a b W
  have HS := Lib.hid fun W => specGoodSpan_any a b W
  have HI := Lib.hid fun W => goodSpan_any a b W
  go_enter Try.func5, Try.ntmps5
  go_wp2_with fail
  refine (HC.out _).mono ?_
  rintro e w1 ⟨rfl, hb1⟩
  have B1 := (below1 _ _).trans (hb1.mono (below1 _ _).size)
  go_wp2_with fail
  refine (HS.out _).mono ?_
  rintro e w2 ⟨rfl, hb2⟩
  have B2 := B1.trans (hb2.mono B1.size)
  obtain ⟨hc2, hf2⟩ := bcell (hb1.trans (hb2.mono hb1.size))
  have hz2 : w.heap.size < w2.heap.size := by have := (hb1.trans (hb2.mono hb1.size)).size; simp at this; omega
  clear hb1 hb2 B1
  go_wp2_with fail
  refine (HC.out _).mono ?_
  rintro e w3 ⟨rfl, hb3⟩
  have B3 := B2.trans (hb3.mono B2.size)
  go_wp2_with fail
  refine (HI.out _).mono ?_
  rintro e w4 ⟨rfl, hb4⟩
  have B4 := B3.trans (hb4.mono B3.size)
  go_wp2
  go_ret
  exact ⟨rfl, B4⟩

set_option maxRecDepth 100000 in
theorem goodClock_walk (o : Int) (w : World) :
    Calls Try.prog 6 #[.agg #[.int .i64 o]] w fun e w' => e = .returned (.bool true) ∧ Below w.heap.size w w' := by
  have HC := Lib.hid fun W => toClock_any o W
  have HS := Lib.hid fun W => specGoodClock_any o W
  have HI := Lib.hid fun W => goodClock_any o W
  go_enter Try.func6, Try.ntmps6
  go_wp2_with fail
  refine (HC.out _).mono ?_
  rintro e w1 ⟨rfl, hb1⟩
  have B1 := (below1 _ _).trans (hb1.mono (below1 _ _).size)
  go_wp2_with fail
  refine (HS.out _).mono ?_
  rintro e w2 ⟨rfl, hb2⟩
  have B2 := B1.trans (hb2.mono B1.size)
  obtain ⟨hc2, hf2⟩ := bcell (hb1.trans (hb2.mono hb1.size))
  have hz2 : w.heap.size < w2.heap.size := by have := (hb1.trans (hb2.mono hb1.size)).size; simp at this; omega
  clear hb1 hb2 B1
  go_wp2_with fail
  refine (HC.out _).mono ?_
  rintro e w3 ⟨rfl, hb3⟩
  have B3 := B2.trans (hb3.mono B2.size)
  go_wp2_with fail
  refine (HI.out _).mono ?_
  rintro e w4 ⟨rfl, hb4⟩
  have B4 := B3.trans (hb4.mono B3.size)
  go_wp2
  go_ret
  exact ⟨rfl, B4⟩

set_option maxRecDepth 100000 in
theorem isPast_walk (a b t : Int) (w : World) :
    Calls Try.prog 8 #[.agg #[.int .i64 a, .int .i64 b], .int .i64 t] w fun e w' => e = .returned (.bool true) ∧ Below w.heap.size w w' := by
  have HC := Lib.hid fun W => toSpan_any a b W
  have HS := Lib.hid fun W => specIsPast_any a b t W
  have HI := Lib.hid fun W => isPast_any a b t W
  go_enter Try.func8, Try.ntmps8
  go_wp2_with fail
  refine (HC.out _).mono ?_
  rintro e w1 ⟨rfl, hb1⟩
  have B1 := (below1 _ _).trans (hb1.mono (below1 _ _).size)
  go_wp2_with fail
  refine (HS.out _).mono ?_
  rintro e w2 ⟨rfl, hb2⟩
  have B2 := B1.trans (hb2.mono B1.size)
  obtain ⟨hc2, hf2⟩ := bcell (hb1.trans (hb2.mono hb1.size))
  have hz2 : w.heap.size < w2.heap.size := by have := (hb1.trans (hb2.mono hb1.size)).size; simp at this; omega
  clear hb1 hb2 B1
  go_wp2_with fail
  refine (HC.out _).mono ?_
  rintro e w3 ⟨rfl, hb3⟩
  have B3 := B2.trans (hb3.mono B2.size)
  go_wp2_with fail
  refine (HI.out _).mono ?_
  rintro e w4 ⟨rfl, hb4⟩
  have B4 := B3.trans (hb4.mono B3.size)
  go_wp2
  go_ret
  exact ⟨rfl, B4⟩

set_option maxRecDepth 100000 in
theorem isAhead_walk (a b t : Int) (w : World) :
    Calls Try.prog 9 #[.agg #[.int .i64 a, .int .i64 b], .int .i64 t] w fun e w' => e = .returned (.bool true) ∧ Below w.heap.size w w' := by
  have HC := Lib.hid fun W => toSpan_any a b W
  have HS := Lib.hid fun W => specIsAhead_any a b t W
  have HI := Lib.hid fun W => isAhead_any a b t W
  go_enter Try.func9, Try.ntmps9
  go_wp2_with fail
  refine (HC.out _).mono ?_
  rintro e w1 ⟨rfl, hb1⟩
  have B1 := (below1 _ _).trans (hb1.mono (below1 _ _).size)
  go_wp2_with fail
  refine (HS.out _).mono ?_
  rintro e w2 ⟨rfl, hb2⟩
  have B2 := B1.trans (hb2.mono B1.size)
  obtain ⟨hc2, hf2⟩ := bcell (hb1.trans (hb2.mono hb1.size))
  have hz2 : w.heap.size < w2.heap.size := by have := (hb1.trans (hb2.mono hb1.size)).size; simp at this; omega
  clear hb1 hb2 B1
  go_wp2_with fail
  refine (HC.out _).mono ?_
  rintro e w3 ⟨rfl, hb3⟩
  have B3 := B2.trans (hb3.mono B2.size)
  go_wp2_with fail
  refine (HI.out _).mono ?_
  rintro e w4 ⟨rfl, hb4⟩
  have B4 := B3.trans (hb4.mono B3.size)
  go_wp2
  go_ret
  exact ⟨rfl, B4⟩

set_option maxRecDepth 100000 in
theorem waitFor_walk (o now t : Int) (w : World) :
    Calls Try.prog 12 #[.agg #[.int .i64 o], .int .i64 now, .int .i64 t] w fun e w' => e = .returned (.bool true) ∧ Below w.heap.size w w' := by
  have HC := Lib.hid fun W => toClock_any o W
  have HS := Lib.hid fun W => specWaitFor_any o now t W
  have HI := Lib.hid fun W => waitFor_any o now t W
  go_enter Try.func12, Try.ntmps12
  go_wp2_with fail
  refine (HC.out _).mono ?_
  rintro e w1 ⟨rfl, hb1⟩
  have B1 := (below1 _ _).trans (hb1.mono (below1 _ _).size)
  go_wp2_with fail
  refine (HS.out _).mono ?_
  rintro e w2 ⟨rfl, hb2⟩
  have B2 := B1.trans (hb2.mono B1.size)
  obtain ⟨hc2, hf2⟩ := bcell (hb1.trans (hb2.mono hb1.size))
  have hz2 : w.heap.size < w2.heap.size := by have := (hb1.trans (hb2.mono hb1.size)).size; simp at this; omega
  clear hb1 hb2 B1
  go_wp2_with fail
  refine (HC.out _).mono ?_
  rintro e w3 ⟨rfl, hb3⟩
  have B3 := B2.trans (hb3.mono B2.size)
  go_wp2_with fail
  refine (HI.out _).mono ?_
  rintro e w4 ⟨rfl, hb4⟩
  have B4 := B3.trans (hb4.mono B3.size)
  go_wp2
  go_ret
  exact ⟨rfl, B4⟩

set_option maxRecDepth 100000 in
theorem spanAt_walk (o now : Int) (w : World) :
    Calls Try.prog 7 #[.agg #[.int .i64 o], .int .i64 now] w fun e w' => e = .returned (.bool true) ∧ Below w.heap.size w w' := by
  have HC := Lib.hid fun W => toClock_any o W
  have HS := Lib.hid fun W => specSpanAt_any o now W
  have HI := Lib.hid fun W => spanAt_any o now W
  go_enter Try.func7, Try.ntmps7
  go_wp2_with fail
  refine (HC.out _).mono ?_
  rintro e w1 ⟨rfl, hb1⟩
  have B1 := (below1 _ _).trans (hb1.mono (below1 _ _).size)
  go_wp2_with fail
  refine (HS.out _).mono ?_
  rintro e w2 ⟨rfl, hb2⟩
  have B2 := B1.trans (hb2.mono B1.size)
  obtain ⟨hc2, hf2⟩ := bcell (hb1.trans (hb2.mono hb1.size))
  have hz2 : w.heap.size < w2.heap.size := by have := (hb1.trans (hb2.mono hb1.size)).size; simp at this; omega
  clear hb1 hb2 B1
  go_wp2_with fail
  refine (HC.out _).mono ?_
  rintro e w3 ⟨rfl, hb3⟩
  have B3 := (B2.alloc B2.size _).trans (hb3.mono (B2.alloc B2.size _).size)
  obtain ⟨hc3, hf3⟩ := bcell hb3
  have hz3 : w2.heap.size < w3.heap.size := by have := hb3.size; simp at this; omega
  go_wp2_with fail
  refine (HI.out _).mono ?_
  rintro e w4 ⟨rfl, hb4⟩
  have B4 := B3.trans (hb4.mono B3.size)
  obtain ⟨hc4, hf4⟩ := bcell hb4
  have hz4 : w2.heap.size < w4.heap.size := by have := hb4.size; omega
  clear hb3 hb4 B3 B2
  go_wp2_with fail
  refine (eqSpan_same _ _ _).mono ?_
  rintro e w5 ⟨rfl, hb5⟩
  have B5 := (B4.alloc B4.size _).trans (hb5.mono (B4.alloc B4.size _).size)
  go_wp2
  go_ret
  exact ⟨rfl, B5⟩

set_option maxRecDepth 100000 in
theorem moveSpan_walk (a b t : Int) (w : World) :
    Calls Try.prog 11 #[.agg #[.int .i64 a, .int .i64 b], .int .i64 t] w fun e w' => e = .returned (.bool true) ∧ Below w.heap.size w w' := by
  have HC := Lib.hid fun W => toSpan_any a b W
  have HS := Lib.hid fun W => specMoveSpan_any a b t W
  have HI := Lib.hid fun W => moveSpan_any a b t W
  go_enter Try.func11, Try.ntmps11
  go_wp2_with fail
  refine (HC.out _).mono ?_
  rintro e w1 ⟨rfl, hb1⟩
  have B1 := (below1 _ _).trans (hb1.mono (below1 _ _).size)
  go_wp2_with fail
  refine (HS.out _).mono ?_
  rintro e w2 ⟨rfl, hb2⟩
  have B2 := B1.trans (hb2.mono B1.size)
  obtain ⟨hc2, hf2⟩ := bcell (hb1.trans (hb2.mono hb1.size))
  have hz2 : w.heap.size < w2.heap.size := by have := (hb1.trans (hb2.mono hb1.size)).size; simp at this; omega
  clear hb1 hb2 B1
  go_wp2_with fail
  refine (HC.out _).mono ?_
  rintro e w3 ⟨rfl, hb3⟩
  have B3 := (B2.alloc B2.size _).trans (hb3.mono (B2.alloc B2.size _).size)
  obtain ⟨hc3, hf3⟩ := bcell hb3
  have hz3 : w2.heap.size < w3.heap.size := by have := hb3.size; simp at this; omega
  go_wp2_with fail
  refine (HI.out _).mono ?_
  rintro e w4 ⟨rfl, hb4⟩
  have B4 := B3.trans (hb4.mono B3.size)
  obtain ⟨hc4, hf4⟩ := bcell hb4
  have hz4 : w2.heap.size < w4.heap.size := by have := hb4.size; omega
  clear hb3 hb4 B3 B2
  go_wp2_with fail
  refine (eqSpan_same _ _ _).mono ?_
  rintro e w5 ⟨rfl, hb5⟩
  have B5 := (B4.alloc B4.size _).trans (hb5.mono (B4.alloc B4.size _).size)
  go_wp2
  go_ret
  exact ⟨rfl, B5⟩
end Go.Proofs.Ytmdejfdkdgpffaa
