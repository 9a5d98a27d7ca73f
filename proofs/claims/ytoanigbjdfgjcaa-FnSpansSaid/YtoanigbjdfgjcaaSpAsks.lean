/-
  IsPast, IsAhead of both sides.
-/
import Derived.Test.YtoanigbjdfgjcaaSpAt
import Derived.Test.YtoanigbjdfgjcaaWtF4
namespace Go.Proofs.Ytoanigbjdfgjcaa.Sp

open Go.RowKit
set_option linter.unusedVariables false

/-- The question about time t is one that may be asked of the span from a to b. -/
def askOk (a b t : Int) : Bool := goodB a b && inB t (-100) 100100
def pastB (a b t : Int) : Bool := askOk a b t && decide (t < a)
def aheadB (a b t : Int) : Bool := askOk a b t && decide (b < t)
def bothOk (a b c d : Int) : Bool := goodB a b && goodB c d
def afterB (a b c d : Int) : Bool := bothOk a b c d && decide (d < a)

theorem ret_two {a b c d : Bool} (h : a = c) (h2 : b = d) : Ending.returned (.tuple #[.bool a, .bool b]) = .returned (.tuple #[.bool c, .bool d]) := by rw [h, h2]

set_option maxRecDepth 100000 in
theorem isPast_no1 (a b t : Int) (w : World) (h1 : goodB a b = false) :
    Calls Try.prog 62 #[.agg #[.int .i64 a, .int .i64 b], .int .i64 t] w fun e w' => e = .returned (.tuple #[.bool false, .bool false]) ∧ Below w.heap.size w w' := by
  have HG := fun W => goodSpan_any a b W
  rw [h1] at HG
  replace HG := Lib.hid HG
  clear h1
  go_enter Try.func62, Try.ntmps62
  go_wp2_with fail
  refine (HG.out _).mono ?_
  rintro e w1 ⟨rfl, hb1⟩
  go_wp2
  go_ret2
  exact ⟨rfl, (below1 _ _).trans (hb1.mono (below1 _ _).size)⟩

set_option maxRecDepth 100000 in
theorem isPast_no2 (a b t : Int) (w : World) (h1 : goodB a b = true) (h2 : inB t (-100) 100100 = false) :
    Calls Try.prog 62 #[.agg #[.int .i64 a, .int .i64 b], .int .i64 t] w fun e w' => e = .returned (.tuple #[.bool false, .bool false]) ∧ Below w.heap.size w w' := by
  have HG := fun W => goodSpan_any a b W
  have HT := fun W => canAsk_any t W
  rw [h1] at HG
  rw [h2] at HT
  replace HG := Lib.hid HG
  replace HT := Lib.hid HT
  clear h1 h2
  go_enter Try.func62, Try.ntmps62
  go_wp2_with fail
  refine (HG.out _).mono ?_
  rintro e w1 ⟨rfl, hb1⟩
  go_wp2_with fail
  refine (HT.out _).mono ?_
  rintro e w2 ⟨rfl, rfl⟩
  go_wp2
  go_ret2
  exact ⟨rfl, (below1 _ _).trans (hb1.mono (below1 _ _).size)⟩

set_option maxRecDepth 100000 in
theorem isPast_yes (a b t : Int) (w : World) (h1 : goodB a b = true) (h2 : inB t (-100) 100100 = true) :
    Calls Try.prog 62 #[.agg #[.int .i64 a, .int .i64 b], .int .i64 t] w fun e w' => e = .returned (.tuple #[.bool (decide (t < a)), .bool true]) ∧ Below w.heap.size w w' := by
  have HG := fun W => goodSpan_any a b W
  have HT := fun W => canAsk_any t W
  rw [h1] at HG
  rw [h2] at HT
  replace HG := Lib.hid HG
  replace HT := Lib.hid HT
  clear h1 h2
  go_enter Try.func62, Try.ntmps62
  go_wp2_with fail
  refine (HG.out _).mono ?_
  rintro e w1 ⟨rfl, hb1⟩
  obtain ⟨hc, hf⟩ := bcell hb1
  have hz : w.heap.size < w1.heap.size := by have := hb1.size; simp at this; omega
  go_wp2_with fail
  refine (HT.out _).mono ?_
  rintro e w2 ⟨rfl, rfl⟩
  go_wp2_with fail
  refine (Wt.isPastW_any a b t _).mono ?_
  rintro e w3 ⟨rfl, hb3⟩
  have HB1 := (below1 w (.cells #[.int .i64 a, .int .i64 b] 78)).trans (hb1.mono (below1 _ _).size)
  have HB3 := HB1.trans (hb3.mono HB1.size)
  go_wp2
  go_ret2
  exact ⟨rfl, HB3⟩

theorem isPast_any (a b t : Int) (w : World) :
    Calls Try.prog 62 #[.agg #[.int .i64 a, .int .i64 b], .int .i64 t] w fun e w' => e = .returned (.tuple #[.bool (pastB a b t), .bool (askOk a b t)]) ∧ Below w.heap.size w w' := by
  unfold pastB askOk
  cases h1 : goodB a b
  · exact isPast_no1 a b t w h1
  · cases h2 : inB t (-100) 100100
    · exact isPast_no2 a b t w h1 h2
    · exact isPast_yes a b t w h1 h2

set_option maxRecDepth 100000 in
theorem specIsPast_no1 (a b t : Int) (w : World) (h1 : goodB a b = false) :
    Calls Try.prog 60 #[.agg #[.int .i64 a, .int .i64 b], .int .i64 t] w fun e w' => e = .returned (.tuple #[.bool false, .bool false]) ∧ Below w.heap.size w w' := by
  have HG := fun W => l2Span_any a b W
  rw [h1] at HG
  replace HG := Lib.hid HG
  clear h1
  go_enter Try.func60, Try.ntmps60
  go_wp2_with fail
  refine (HG.out _).mono ?_
  rintro e w1 ⟨rfl, hb1⟩
  go_wp2
  go_ret2
  exact ⟨rfl, (below1 _ _).trans (hb1.mono (below1 _ _).size)⟩

set_option maxRecDepth 100000 in
theorem specIsPast_no2 (a b t : Int) (w : World) (h1 : goodB a b = true) (h2 : inB t (-100) 100100 = false) :
    Calls Try.prog 60 #[.agg #[.int .i64 a, .int .i64 b], .int .i64 t] w fun e w' => e = .returned (.tuple #[.bool false, .bool false]) ∧ Below w.heap.size w w' := by
  have HG := fun W => l2Span_any a b W
  have HT := fun W => l2Near_any t W
  rw [h1] at HG
  rw [h2] at HT
  replace HG := Lib.hid HG
  replace HT := Lib.hid HT
  clear h1 h2
  go_enter Try.func60, Try.ntmps60
  go_wp2_with fail
  refine (HG.out _).mono ?_
  rintro e w1 ⟨rfl, hb1⟩
  go_wp2_with fail
  refine (HT.out _).mono ?_
  rintro e w2 ⟨rfl, rfl⟩
  go_wp2
  go_ret2
  exact ⟨rfl, (below1 _ _).trans (hb1.mono (below1 _ _).size)⟩

set_option maxRecDepth 100000 in
theorem specIsPast_yes (a b t : Int) (w : World) (h1 : goodB a b = true) (h2 : inB t (-100) 100100 = true) :
    Calls Try.prog 60 #[.agg #[.int .i64 a, .int .i64 b], .int .i64 t] w fun e w' => e = .returned (.tuple #[.bool (decide (t < a)), .bool true]) ∧ Below w.heap.size w w' := by
  have HG := fun W => l2Span_any a b W
  have HT := fun W => l2Near_any t W
  rw [h1] at HG
  rw [h2] at HT
  replace HG := Lib.hid HG
  replace HT := Lib.hid HT
  clear h1 h2
  go_enter Try.func60, Try.ntmps60
  go_wp2_with fail
  refine (HG.out _).mono ?_
  rintro e w1 ⟨rfl, hb1⟩
  obtain ⟨hc, hf⟩ := bcell hb1
  have hz : w.heap.size < w1.heap.size := by have := hb1.size; simp at this; omega
  go_wp2_with fail
  refine (HT.out _).mono ?_
  rintro e w2 ⟨rfl, rfl⟩
  go_wp2
  go_ret2
  exact ⟨rfl, (below1 _ _).trans (hb1.mono (below1 _ _).size)⟩

theorem specIsPast_any (a b t : Int) (w : World) :
    Calls Try.prog 60 #[.agg #[.int .i64 a, .int .i64 b], .int .i64 t] w fun e w' => e = .returned (.tuple #[.bool (pastB a b t), .bool (askOk a b t)]) ∧ Below w.heap.size w w' := by
  unfold pastB askOk
  cases h1 : goodB a b
  · exact specIsPast_no1 a b t w h1
  · cases h2 : inB t (-100) 100100
    · exact specIsPast_no2 a b t w h1 h2
    · exact specIsPast_yes a b t w h1 h2

set_option maxRecDepth 100000 in
theorem isAhead_no1 (a b t : Int) (w : World) (h1 : goodB a b = false) :
    Calls Try.prog 72 #[.agg #[.int .i64 a, .int .i64 b], .int .i64 t] w fun e w' => e = .returned (.tuple #[.bool false, .bool false]) ∧ Below w.heap.size w w' := by
  have HG := fun W => goodSpan_any a b W
  rw [h1] at HG
  replace HG := Lib.hid HG
  clear h1
  go_enter Try.func72, Try.ntmps72
  go_wp2_with fail
  refine (HG.out _).mono ?_
  rintro e w1 ⟨rfl, hb1⟩
  go_wp2
  go_ret2
  exact ⟨rfl, (below1 _ _).trans (hb1.mono (below1 _ _).size)⟩

set_option maxRecDepth 100000 in
theorem isAhead_no2 (a b t : Int) (w : World) (h1 : goodB a b = true) (h2 : inB t (-100) 100100 = false) :
    Calls Try.prog 72 #[.agg #[.int .i64 a, .int .i64 b], .int .i64 t] w fun e w' => e = .returned (.tuple #[.bool false, .bool false]) ∧ Below w.heap.size w w' := by
  have HG := fun W => goodSpan_any a b W
  have HT := fun W => canAsk_any t W
  rw [h1] at HG
  rw [h2] at HT
  replace HG := Lib.hid HG
  replace HT := Lib.hid HT
  clear h1 h2
  go_enter Try.func72, Try.ntmps72
  go_wp2_with fail
  refine (HG.out _).mono ?_
  rintro e w1 ⟨rfl, hb1⟩
  go_wp2_with fail
  refine (HT.out _).mono ?_
  rintro e w2 ⟨rfl, rfl⟩
  go_wp2
  go_ret2
  exact ⟨rfl, (below1 _ _).trans (hb1.mono (below1 _ _).size)⟩

set_option maxRecDepth 100000 in
theorem isAhead_yes (a b t : Int) (w : World) (h1 : goodB a b = true) (h2 : inB t (-100) 100100 = true) :
    Calls Try.prog 72 #[.agg #[.int .i64 a, .int .i64 b], .int .i64 t] w fun e w' => e = .returned (.tuple #[.bool (decide (b < t)), .bool true]) ∧ Below w.heap.size w w' := by
  have HG := fun W => goodSpan_any a b W
  have HT := fun W => canAsk_any t W
  rw [h1] at HG
  rw [h2] at HT
  replace HG := Lib.hid HG
  replace HT := Lib.hid HT
  clear h1 h2
  go_enter Try.func72, Try.ntmps72
  go_wp2_with fail
  refine (HG.out _).mono ?_
  rintro e w1 ⟨rfl, hb1⟩
  obtain ⟨hc, hf⟩ := bcell hb1
  have hz : w.heap.size < w1.heap.size := by have := hb1.size; simp at this; omega
  go_wp2_with fail
  refine (HT.out _).mono ?_
  rintro e w2 ⟨rfl, rfl⟩
  go_wp2
  go_ret2
  exact ⟨rfl, (below1 _ _).trans (hb1.mono (below1 _ _).size)⟩

theorem isAhead_any (a b t : Int) (w : World) :
    Calls Try.prog 72 #[.agg #[.int .i64 a, .int .i64 b], .int .i64 t] w fun e w' => e = .returned (.tuple #[.bool (aheadB a b t), .bool (askOk a b t)]) ∧ Below w.heap.size w w' := by
  unfold aheadB askOk
  cases h1 : goodB a b
  · exact isAhead_no1 a b t w h1
  · cases h2 : inB t (-100) 100100
    · exact isAhead_no2 a b t w h1 h2
    · exact isAhead_yes a b t w h1 h2

end Go.Proofs.Ytoanigbjdfgjcaa.Sp
