/-
  The walks of the exact laws of chapter 2.
-/
import Derived.Test.YtoanigbjdfgjcaaSpWait
namespace Go.Proofs.Ytoanigbjdfgjcaa.Sp

open Go.RowKit
set_option linter.unusedVariables false

set_option maxRecDepth 100000 in
theorem isPast_walk (a b t : Int) (w : World) :
    Calls Try.prog 16 #[.agg #[.int .i64 a, .int .i64 b], .int .i64 t] w fun e w' => e = .returned (.bool true) ∧ Below w.heap.size w w' := by
  have HC := Lib.hid fun W => toSpan_any a b W
  have HS := Lib.hid fun W => specIsPast_any a b t W
  have HI := Lib.hid fun W => isPast_any a b t W
  go_enter Try.func16, Try.ntmps16
  go_wp2_with fail
  refine (HC.out _).mono ?_
  rintro e w1 ⟨rfl, hb1⟩
  have B1 := (below1 _ _).trans (hb1.mono (below1 _ _).size)
  go_wp2_with fail
  refine (HS.out _).mono ?_
  rintro e w2 ⟨rfl, hb2⟩
  have B2 := B1.trans (hb2.mono B1.size)
  obtain ⟨hc2, hf2⟩ := bcell (hb1.trans (hb2.mono hb1.size))
  have hz2 : w.heap.size < w2.heap.size := by have := (hb1.trans (hb2.mono hb1.size)).size; simp at this; omega
  clear hb1 hb2 B1
  go_wp2_with fail
  refine (HC.out _).mono ?_
  rintro e w3 ⟨rfl, hb3⟩
  have B3 := B2.trans (hb3.mono B2.size)
  go_wp2_with fail
  refine (HI.out _).mono ?_
  rintro e w4 ⟨rfl, hb4⟩
  have B4 := B3.trans (hb4.mono B3.size)
  go_wp2
  go_ret
  exact ⟨rfl, B4⟩

set_option maxRecDepth 100000 in
theorem waitFor_walk (o now t : Int) (w : World) :
    Calls Try.prog 17 #[.agg #[.int .i64 o], .int .i64 now, .int .i64 t] w fun e w' => e = .returned (.bool true) ∧ Below w.heap.size w w' := by
  have HC := Lib.hid fun W => toClock_any o W
  have HS := Lib.hid fun W => specWaitFor_any o now t W
  have HI := Lib.hid fun W => waitFor_any o now t W
  go_enter Try.func17, Try.ntmps17
  go_wp2_with fail
  refine (HC.out _).mono ?_
  rintro e w1 ⟨rfl, hb1⟩
  have B1 := (below1 _ _).trans (hb1.mono (below1 _ _).size)
  go_wp2_with fail
  refine (HS.out _).mono ?_
  rintro e w2 ⟨rfl, hb2⟩
  have B2 := B1.trans (hb2.mono B1.size)
  obtain ⟨hc2, hf2⟩ := bcell (hb1.trans (hb2.mono hb1.size))
  have hz2 : w.heap.size < w2.heap.size := by have := (hb1.trans (hb2.mono hb1.size)).size; simp at this; omega
  clear hb1 hb2 B1
  go_wp2_with fail
  refine (HC.out _).mono ?_
  rintro e w3 ⟨rfl, hb3⟩
  have B3 := B2.trans (hb3.mono B2.size)
  go_wp2_with fail
  refine (HI.out _).mono ?_
  rintro e w4 ⟨rfl, hb4⟩
  have B4 := B3.trans (hb4.mono B3.size)
  go_wp2
  go_ret
  exact ⟨rfl, B4⟩

end Go.Proofs.Ytoanigbjdfgjcaa.Sp
