/-
  The program's and the model's MoveSpan: one answer.
-/
import Derived.Test.YtmdejfdkdgpffaaAsks
namespace Go.Proofs.Ytmdejfdkdgpffaa
open Go.RowKit
set_option linter.unusedVariables false

/-- Does MoveSpan succeed, and what are its ends? -/
def mvOk (a b by' : Int) : Bool := goodB a b && (inB by' 0 100000 && goodB (a + by') (b + by'))
def mvLo (a b by' : Int) : Int := if mvOk a b by' then a + by' else 0
def mvHi (a b by' : Int) : Int := if mvOk a b by' then b + by' else 0

set_option maxRecDepth 100000 in
theorem moveSpan_no1 (a b t : Int) (w : World) (h1 : goodB a b = false) :
    Calls Try.prog 29 #[.agg #[.int .i64 a, .int .i64 b], .int .i64 t] w fun e w' => e = .returned (.tuple #[.agg #[.int .i64 0, .int .i64 0], .bool false]) ∧ Below w.heap.size w w' := by
  have HG := fun W => goodSpan_any a b W
  rw [h1] at HG
  replace HG := Lib.hid HG
  clear h1
  go_enter Try.func29, Try.ntmps29
  go_wp2_with fail
  refine (HG.out _).mono ?_
  rintro e w1 ⟨rfl, hb1⟩
  obtain ⟨hc, hf⟩ := bcell hb1
  have hz : w.heap.size + 1 < w1.heap.size := by have := hb1.size; simp at this; omega
  go_wp2
  exact bodyPost_ret (v := .tuple #[.agg #[.int .i64 0, .int .i64 0], .bool false]) (by simp [results, Try.results29, go_sem, *]) rfl ⟨rfl, (((below2 _ _ _).trans (hb1.mono (below2 _ _ _).size)).setCell (by simp) _).setCell (by simp) _⟩

set_option maxRecDepth 100000 in
theorem moveSpan_no2 (a b t : Int) (w : World) (h1 : goodB a b = true) (h2 : inB t 0 100000 = false) :
    Calls Try.prog 29 #[.agg #[.int .i64 a, .int .i64 b], .int .i64 t] w fun e w' => e = .returned (.tuple #[.agg #[.int .i64 0, .int .i64 0], .bool false]) ∧ Below w.heap.size w w' := by
  have HG := fun W => goodSpan_any a b W
  rw [h1] at HG
  replace HG := Lib.hid HG
  have hcase : t < 0 ∨ 0 ≤ t ∧ 100000 < t := by have := inB_false h2; omega
  clear h1 h2
  rcases hcase with h3 | ⟨h3, h4⟩
  all_goals
    go_enter Try.func29, Try.ntmps29
    go_wp2_with fail
    refine (HG.out _).mono ?_
    rintro e w1 ⟨rfl, hb1⟩
    obtain ⟨hc, hf⟩ := bcell hb1
    have hz : w.heap.size + 1 < w1.heap.size := by have := hb1.size; simp at this; omega
    go_wp2
    exact bodyPost_ret (v := .tuple #[.agg #[.int .i64 0, .int .i64 0], .bool false]) (by simp [results, Try.results29, go_sem, *]) rfl ⟨rfl, (((below2 _ _ _).trans (hb1.mono (below2 _ _ _).size)).setCell (by simp) _).setCell (by simp) _⟩

set_option maxRecDepth 100000 in
theorem moveSpan_no3 (a b t : Int) (w : World) (h1 : goodB a b = true) (h2 : inB t 0 100000 = true) (h3 : goodB (a + t) (b + t) = false) :
    Calls Try.prog 29 #[.agg #[.int .i64 a, .int .i64 b], .int .i64 t] w fun e w' => e = .returned (.tuple #[.agg #[.int .i64 0, .int .i64 0], .bool false]) ∧ Below w.heap.size w w' := by
  have HG := fun W => goodSpan_any a b W
  have HM := fun W => goodSpan_any (a + t) (b + t) W
  rw [h1] at HG
  rw [h3] at HM
  replace HG := Lib.hid HG
  replace HM := Lib.hid HM
  obtain ⟨b1, b2, b3⟩ := goodB_true h1
  obtain ⟨b4, b5⟩ := inB_true h2
  clear h1 h2 h3
  go_enter Try.func29, Try.ntmps29
  go_wp2_with fail
  refine (HG.out _).mono ?_
  rintro e w1 ⟨rfl, hb1⟩
  obtain ⟨hc, hf⟩ := bcell hb1
  have hz : w.heap.size + 1 < w1.heap.size := by have := hb1.size; simp at this; omega
  have hz0 : w.heap.size < w1.heap.size := by omega
  go_wp2_with fail
  refine (HM.out _).mono ?_
  rintro e w3 ⟨rfl, hb3⟩
  obtain ⟨hc3, hf3⟩ := bcell hb3
  have hz3 : w1.heap.size < w3.heap.size := by have := hb3.size; simp at this; omega
  have hz4 : w.heap.size + 1 < w1.heap.size + 1 := by omega
  have hz5 : w.heap.size + 1 ≠ w1.heap.size := by omega
  go_wp2
  exact bodyPost_ret (v := .tuple #[.agg #[.int .i64 0, .int .i64 0], .bool false]) (by simp [results, Try.results29, go_sem, *]) rfl ⟨rfl, (((((below2 _ _ _).trans (hb1.mono (below2 _ _ _).size)).alloc ((below2 _ _ _).trans (hb1.mono (below2 _ _ _).size)).size _).trans (hb3.mono (((below2 _ _ _).trans (hb1.mono (below2 _ _ _).size)).alloc ((below2 _ _ _).trans (hb1.mono (below2 _ _ _).size)).size _).size)).setCell (by simp) _).setCell (by simp) _⟩

set_option maxRecDepth 100000 in
theorem moveSpan_yes (a b t : Int) (w : World) (h1 : goodB a b = true) (h2 : inB t 0 100000 = true) (h3 : goodB (a + t) (b + t) = true) :
    Calls Try.prog 29 #[.agg #[.int .i64 a, .int .i64 b], .int .i64 t] w fun e w' => e = .returned (.tuple #[.agg #[.int .i64 (a + t), .int .i64 (b + t)], .bool true]) ∧ Below w.heap.size w w' := by
  have HG := fun W => goodSpan_any a b W
  have HM := fun W => goodSpan_any (a + t) (b + t) W
  rw [h1] at HG
  rw [h3] at HM
  replace HG := Lib.hid HG
  replace HM := Lib.hid HM
  obtain ⟨b1, b2, b3⟩ := goodB_true h1
  obtain ⟨b4, b5⟩ := inB_true h2
  clear h1 h2 h3
  go_enter Try.func29, Try.ntmps29
  go_wp2_with fail
  refine (HG.out _).mono ?_
  rintro e w1 ⟨rfl, hb1⟩
  obtain ⟨hc, hf⟩ := bcell hb1
  have hz : w.heap.size + 1 < w1.heap.size := by have := hb1.size; simp at this; omega
  have hz0 : w.heap.size < w1.heap.size := by omega
  go_wp2_with fail
  refine (HM.out _).mono ?_
  rintro e w3 ⟨rfl, hb3⟩
  obtain ⟨hc3, hf3⟩ := bcell hb3
  have hz3 : w1.heap.size < w3.heap.size := by have := hb3.size; simp at this; omega
  have hz4 : w.heap.size + 1 < w1.heap.size + 1 := by omega
  have hz5 : w.heap.size + 1 ≠ w1.heap.size := by omega
  go_wp2
  exact bodyPost_ret (v := .tuple #[.agg #[.int .i64 (a + t), .int .i64 (b + t)], .bool true]) (by simp [results, Try.results29, go_sem, *]) rfl ⟨rfl, (((((below2 _ _ _).trans (hb1.mono (below2 _ _ _).size)).alloc ((below2 _ _ _).trans (hb1.mono (below2 _ _ _).size)).size _).trans (hb3.mono (((below2 _ _ _).trans (hb1.mono (below2 _ _ _).size)).alloc ((below2 _ _ _).trans (hb1.mono (below2 _ _ _).size)).size _).size)).setCell (by simp) _).setCell (by simp) _⟩

theorem moveSpan_any (a b t : Int) (w : World) :
    Calls Try.prog 29 #[.agg #[.int .i64 a, .int .i64 b], .int .i64 t] w fun e w' => e = .returned (.tuple #[.agg #[.int .i64 (mvLo a b t), .int .i64 (mvHi a b t)], .bool (mvOk a b t)]) ∧ Below w.heap.size w w' := by
  unfold mvLo mvHi mvOk
  cases h1 : goodB a b
  · exact moveSpan_no1 a b t w h1
  · cases h2 : inB t 0 100000
    · exact moveSpan_no2 a b t w h1 h2
    · cases h3 : goodB (a + t) (b + t)
      · exact moveSpan_no3 a b t w h1 h2 h3
      · exact moveSpan_yes a b t w h1 h2 h3

set_option maxRecDepth 100000 in
theorem specMoveSpan_no1 (a b t : Int) (w : World) (h1 : goodB a b = false) :
    Calls Try.prog 35 #[.agg #[.int .i64 a, .int .i64 b], .int .i64 t] w fun e w' => e = .returned (.tuple #[.agg #[.int .i64 0, .int .i64 0], .bool false]) ∧ Below w.heap.size w w' := by
  have HG := fun W => l2Span_any a b W
  rw [h1] at HG
  replace HG := Lib.hid HG
  clear h1
  go_enter Try.func35, Try.ntmps35
  go_wp2_with fail
  refine (HG.out _).mono ?_
  rintro e w1 ⟨rfl, hb1⟩
  obtain ⟨hc, hf⟩ := bcell hb1
  have hz : w.heap.size + 1 < w1.heap.size := by have := hb1.size; simp at this; omega
  go_wp2
  exact bodyPost_ret (v := .tuple #[.agg #[.int .i64 0, .int .i64 0], .bool false]) (by simp [results, Try.results35, go_sem, *]) rfl ⟨rfl, (((below2 _ _ _).trans (hb1.mono (below2 _ _ _).size)).setCell (by simp) _).setCell (by simp) _⟩

set_option maxRecDepth 100000 in
theorem specMoveSpan_no2 (a b t : Int) (w : World) (h1 : goodB a b = true) (h2 : inB t 0 100000 = false) :
    Calls Try.prog 35 #[.agg #[.int .i64 a, .int .i64 b], .int .i64 t] w fun e w' => e = .returned (.tuple #[.agg #[.int .i64 0, .int .i64 0], .bool false]) ∧ Below w.heap.size w w' := by
  have HG := fun W => l2Span_any a b W
  rw [h1] at HG
  replace HG := Lib.hid HG
  have HT := fun W => l2True_any t W
  rw [h2] at HT
  replace HT := Lib.hid HT
  have hcase : t < 0 ∨ 0 ≤ t ∧ 100000 < t := by have := inB_false h2; omega
  clear h1 h2
  rcases hcase with h3 | ⟨h3, h4⟩
  all_goals
    go_enter Try.func35, Try.ntmps35
    go_wp2_with fail
    refine (HG.out _).mono ?_
    rintro e w1 ⟨rfl, hb1⟩
    obtain ⟨hc, hf⟩ := bcell hb1
    have hz : w.heap.size + 1 < w1.heap.size := by have := hb1.size; simp at this; omega
    go_wp2_with fail
    refine (HT.out _).mono ?_
    rintro e w2 ⟨rfl, rfl⟩
    go_wp2
    exact bodyPost_ret (v := .tuple #[.agg #[.int .i64 0, .int .i64 0], .bool false]) (by simp [results, Try.results35, go_sem, *]) rfl ⟨rfl, (((below2 _ _ _).trans (hb1.mono (below2 _ _ _).size)).setCell (by simp) _).setCell (by simp) _⟩

set_option maxRecDepth 100000 in
theorem specMoveSpan_no3 (a b t : Int) (w : World) (h1 : goodB a b = true) (h2 : inB t 0 100000 = true) (h3 : goodB (a + t) (b + t) = false) :
    Calls Try.prog 35 #[.agg #[.int .i64 a, .int .i64 b], .int .i64 t] w fun e w' => e = .returned (.tuple #[.agg #[.int .i64 0, .int .i64 0], .bool false]) ∧ Below w.heap.size w w' := by
  have HG := fun W => l2Span_any a b W
  have HM := fun W => l2Span_any (a + t) (b + t) W
  rw [h1] at HG
  rw [h3] at HM
  replace HG := Lib.hid HG
  replace HM := Lib.hid HM
  have HT := fun W => l2True_any t W
  rw [h2] at HT
  replace HT := Lib.hid HT
  obtain ⟨b1, b2, b3⟩ := goodB_true h1
  obtain ⟨b4, b5⟩ := inB_true h2
  clear h1 h2 h3
  go_enter Try.func35, Try.ntmps35
  go_wp2_with fail
  refine (HG.out _).mono ?_
  rintro e w1 ⟨rfl, hb1⟩
  obtain ⟨hc, hf⟩ := bcell hb1
  have hz : w.heap.size + 1 < w1.heap.size := by have := hb1.size; simp at this; omega
  have hz0 : w.heap.size < w1.heap.size := by omega
  go_wp2_with fail
  refine (HT.out _).mono ?_
  rintro e w2 ⟨rfl, rfl⟩
  go_wp2_with fail
  refine (HM.out _).mono ?_
  rintro e w3 ⟨rfl, hb3⟩
  obtain ⟨hc3, hf3⟩ := bcell hb3
  have hz3 : w1.heap.size < w3.heap.size := by have := hb3.size; simp at this; omega
  have hz4 : w.heap.size + 1 < w1.heap.size + 1 := by omega
  have hz5 : w.heap.size + 1 ≠ w1.heap.size := by omega
  go_wp2
  exact bodyPost_ret (v := .tuple #[.agg #[.int .i64 0, .int .i64 0], .bool false]) (by simp [results, Try.results35, go_sem, *]) rfl ⟨rfl, (((((below2 _ _ _).trans (hb1.mono (below2 _ _ _).size)).alloc ((below2 _ _ _).trans (hb1.mono (below2 _ _ _).size)).size _).trans (hb3.mono (((below2 _ _ _).trans (hb1.mono (below2 _ _ _).size)).alloc ((below2 _ _ _).trans (hb1.mono (below2 _ _ _).size)).size _).size)).setCell (by simp) _).setCell (by simp) _⟩

set_option maxRecDepth 100000 in
theorem specMoveSpan_yes (a b t : Int) (w : World) (h1 : goodB a b = true) (h2 : inB t 0 100000 = true) (h3 : goodB (a + t) (b + t) = true) :
    Calls Try.prog 35 #[.agg #[.int .i64 a, .int .i64 b], .int .i64 t] w fun e w' => e = .returned (.tuple #[.agg #[.int .i64 (a + t), .int .i64 (b + t)], .bool true]) ∧ Below w.heap.size w w' := by
  have HG := fun W => l2Span_any a b W
  have HM := fun W => l2Span_any (a + t) (b + t) W
  rw [h1] at HG
  rw [h3] at HM
  replace HG := Lib.hid HG
  replace HM := Lib.hid HM
  have HT := fun W => l2True_any t W
  rw [h2] at HT
  replace HT := Lib.hid HT
  obtain ⟨b1, b2, b3⟩ := goodB_true h1
  obtain ⟨b4, b5⟩ := inB_true h2
  clear h1 h2 h3
  go_enter Try.func35, Try.ntmps35
  go_wp2_with fail
  refine (HG.out _).mono ?_
  rintro e w1 ⟨rfl, hb1⟩
  obtain ⟨hc, hf⟩ := bcell hb1
  have hz : w.heap.size + 1 < w1.heap.size := by have := hb1.size; simp at this; omega
  have hz0 : w.heap.size < w1.heap.size := by omega
  go_wp2_with fail
  refine (HT.out _).mono ?_
  rintro e w2 ⟨rfl, rfl⟩
  go_wp2_with fail
  refine (HM.out _).mono ?_
  rintro e w3 ⟨rfl, hb3⟩
  obtain ⟨hc3, hf3⟩ := bcell hb3
  have hz3 : w1.heap.size < w3.heap.size := by have := hb3.size; simp at this; omega
  have hz4 : w.heap.size + 1 < w1.heap.size + 1 := by omega
  have hz5 : w.heap.size + 1 ≠ w1.heap.size := by omega
  go_wp2
  exact bodyPost_ret (v := .tuple #[.agg #[.int .i64 (a + t), .int .i64 (b + t)], .bool true]) (by simp [results, Try.results35, go_sem, *]) rfl ⟨rfl, (((((below2 _ _ _).trans (hb1.mono (below2 _ _ _).size)).alloc ((below2 _ _ _).trans (hb1.mono (below2 _ _ _).size)).size _).trans (hb3.mono (((below2 _ _ _).trans (hb1.mono (below2 _ _ _).size)).alloc ((below2 _ _ _).trans (hb1.mono (below2 _ _ _).size)).size _).size)).setCell (by simp) _).setCell (by simp) _⟩

theorem specMoveSpan_any (a b t : Int) (w : World) :
    Calls Try.prog 35 #[.agg #[.int .i64 a, .int .i64 b], .int .i64 t] w fun e w' => e = .returned (.tuple #[.agg #[.int .i64 (mvLo a b t), .int .i64 (mvHi a b t)], .bool (mvOk a b t)]) ∧ Below w.heap.size w w' := by
  unfold mvLo mvHi mvOk
  cases h1 : goodB a b
  · exact specMoveSpan_no1 a b t w h1
  · cases h2 : inB t 0 100000
    · exact specMoveSpan_no2 a b t w h1 h2
    · cases h3 : goodB (a + t) (b + t)
      · exact specMoveSpan_no3 a b t w h1 h2 h3
      · exact specMoveSpan_yes a b t w h1 h2 h3
end Go.Proofs.Ytmdejfdkdgpffaa
