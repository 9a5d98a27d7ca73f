/-
  SpanAt of both sides.
-/
import Derived.Test.YtoanigbjdfgjcaaSpGood
namespace Go.Proofs.Ytoanigbjdfgjcaa.Sp

open Go.RowKit
set_option linter.unusedVariables false

/-- The answer of SpanAt: the lower end, the upper end, whether it succeeds. -/
def saLo (o now : Int) : Int := if inB o (-5) 5 && inB now 0 100000 then now + o - 5 else 0
def saHi (o now : Int) : Int := if inB o (-5) 5 && inB now 0 100000 then now + o + 5 else 0
def saOk (o now : Int) : Bool := inB o (-5) 5 && inB now 0 100000

theorem l2At_any (o now : Int) (w : World) (h1 : inB o (-5) 5 = true) (h2 : inB now 0 100000 = true) :
    Calls Try.prog 114 #[.agg #[.int .i64 o], .int .i64 now] w fun e w' => e = .returned (.agg #[.int .i64 (now + o - 5), .int .i64 (now + o + 5)]) ∧ Below w.heap.size w w' := by
  have b1 := inB_true h1
  have b2 := inB_true h2
  obtain ⟨b3, b4⟩ := b1
  obtain ⟨b5, b6⟩ := b2
  clear h1 h2
  go_enter Try.func114, Try.ntmps114
  go_wp2
  exact bodyPost_ret (v := .agg #[.int .i64 (now + o - 5), .int .i64 (now + o + 5)]) (by simp [results, Try.results114, go_sem]) rfl ⟨rfl, below2 _ _ _⟩

set_option maxRecDepth 100000 in
theorem spanAt_yes (o now : Int) (w : World) (h1 : inB o (-5) 5 = true) (h2 : inB now 0 100000 = true) :
    Calls Try.prog 68 #[.agg #[.int .i64 o], .int .i64 now] w fun e w' => e = .returned (.tuple #[.agg #[.int .i64 (now + o - 5), .int .i64 (now + o + 5)], .bool true]) ∧ Below w.heap.size w w' := by
  have HG := fun W => goodClock_any o W
  have HT := fun W => isTrueTime_any now W
  rw [h1] at HG
  rw [h2] at HT
  replace HG := Lib.hid HG
  replace HT := Lib.hid HT
  obtain ⟨b3, b4⟩ := inB_true h1
  obtain ⟨b5, b6⟩ := inB_true h2
  clear h1 h2
  go_enter Try.func68, Try.ntmps68
  go_wp2_with fail
  refine (HG.out _).mono ?_
  rintro e w1 ⟨rfl, hb1⟩
  obtain ⟨hc, hf⟩ := bcell hb1
  have hz : w.heap.size + 1 < w1.heap.size := by have := hb1.size; simp at this; omega
  go_wp2_with fail
  refine (HT.out _).mono ?_
  rintro e w2 ⟨rfl, rfl⟩
  go_wp2
  exact bodyPost_ret (v := .tuple #[.agg #[.int .i64 (now + o - 5), .int .i64 (now + o + 5)], .bool true]) (by simp [results, Try.results68, go_sem, *]) rfl ⟨rfl, (((below2 _ _ _).trans (hb1.mono (below2 _ _ _).size)).setCell (by simp) _).setCell (by simp) _⟩

set_option maxRecDepth 100000 in
theorem spanAt_no1 (o now : Int) (w : World) (h1 : inB o (-5) 5 = false) :
    Calls Try.prog 68 #[.agg #[.int .i64 o], .int .i64 now] w fun e w' => e = .returned (.tuple #[.agg #[.int .i64 0, .int .i64 0], .bool false]) ∧ Below w.heap.size w w' := by
  have HG := fun W => goodClock_any o W
  rw [h1] at HG
  replace HG := Lib.hid HG
  clear h1
  go_enter Try.func68, Try.ntmps68
  go_wp2_with fail
  refine (HG.out _).mono ?_
  rintro e w1 ⟨rfl, hb1⟩
  obtain ⟨hc, hf⟩ := bcell hb1
  have hz : w.heap.size + 1 < w1.heap.size := by have := hb1.size; simp at this; omega
  go_wp2
  exact bodyPost_ret (v := .tuple #[.agg #[.int .i64 0, .int .i64 0], .bool false]) (by simp [results, Try.results68, go_sem, *]) rfl ⟨rfl, (((below2 _ _ _).trans (hb1.mono (below2 _ _ _).size)).setCell (by simp) _).setCell (by simp) _⟩

set_option maxRecDepth 100000 in
theorem spanAt_no2 (o now : Int) (w : World) (h1 : inB o (-5) 5 = true) (h2 : inB now 0 100000 = false) :
    Calls Try.prog 68 #[.agg #[.int .i64 o], .int .i64 now] w fun e w' => e = .returned (.tuple #[.agg #[.int .i64 0, .int .i64 0], .bool false]) ∧ Below w.heap.size w w' := by
  have HG := fun W => goodClock_any o W
  have HT := fun W => isTrueTime_any now W
  rw [h1] at HG
  rw [h2] at HT
  replace HG := Lib.hid HG
  replace HT := Lib.hid HT
  clear h1 h2
  go_enter Try.func68, Try.ntmps68
  go_wp2_with fail
  refine (HG.out _).mono ?_
  rintro e w1 ⟨rfl, hb1⟩
  obtain ⟨hc, hf⟩ := bcell hb1
  have hz : w.heap.size + 1 < w1.heap.size := by have := hb1.size; simp at this; omega
  go_wp2_with fail
  refine (HT.out _).mono ?_
  rintro e w2 ⟨rfl, rfl⟩
  go_wp2
  exact bodyPost_ret (v := .tuple #[.agg #[.int .i64 0, .int .i64 0], .bool false]) (by simp [results, Try.results68, go_sem, *]) rfl ⟨rfl, (((below2 _ _ _).trans (hb1.mono (below2 _ _ _).size)).setCell (by simp) _).setCell (by simp) _⟩

/-- The program's SpanAt. -/
theorem spanAt_any (o now : Int) (w : World) :
    Calls Try.prog 68 #[.agg #[.int .i64 o], .int .i64 now] w fun e w' => e = .returned (.tuple #[.agg #[.int .i64 (saLo o now), .int .i64 (saHi o now)], .bool (saOk o now)]) ∧ Below w.heap.size w w' := by
  unfold saLo saHi saOk
  cases h1 : inB o (-5) 5
  · exact spanAt_no1 o now w h1
  · cases h2 : inB now 0 100000
    · exact spanAt_no2 o now w h1 h2
    · exact spanAt_yes o now w h1 h2

set_option maxRecDepth 100000 in
theorem specSpanAt_yes (o now : Int) (w : World) (h1 : inB o (-5) 5 = true) (h2 : inB now 0 100000 = true) :
    Calls Try.prog 69 #[.agg #[.int .i64 o], .int .i64 now] w fun e w' => e = .returned (.tuple #[.agg #[.int .i64 (now + o - 5), .int .i64 (now + o + 5)], .bool true]) ∧ Below w.heap.size w w' := by
  have HG := fun W => l2Clock_any o W
  have HT := fun W => l2True_any now W
  have HA := Lib.hid fun W => l2At_any o now W h1 h2
  rw [h1] at HG
  rw [h2] at HT
  replace HG := Lib.hid HG
  replace HT := Lib.hid HT
  clear h1 h2
  go_enter Try.func69, Try.ntmps69
  go_wp2_with fail
  refine (HG.out _).mono ?_
  rintro e w1 ⟨rfl, hb1⟩
  obtain ⟨hc, hf⟩ := bcell hb1
  have hz : w.heap.size + 1 < w1.heap.size := by have := hb1.size; simp at this; omega
  go_wp2_with fail
  refine (HT.out _).mono ?_
  rintro e w2 ⟨rfl, rfl⟩
  go_wp2_with fail
  refine (HA.out _).mono ?_
  rintro e w2 ⟨rfl, hb2⟩
  obtain ⟨hc2, hf2⟩ := bcell hb2
  have hz2 := hb2.size
  go_wp2
  exact bodyPost_ret (v := .tuple #[.agg #[.int .i64 (now + o - 5), .int .i64 (now + o + 5)], .bool true]) (by simp [results, Try.results69, go_sem, *]) rfl ⟨rfl, ((((below2 _ _ _).trans (hb1.mono (below2 _ _ _).size)).trans (hb2.mono ((below2 _ _ _).trans (hb1.mono (below2 _ _ _).size)).size)).setCell (by simp) _).setCell (by simp) _⟩

set_option maxRecDepth 100000 in
theorem specSpanAt_no1 (o now : Int) (w : World) (h1 : inB o (-5) 5 = false) :
    Calls Try.prog 69 #[.agg #[.int .i64 o], .int .i64 now] w fun e w' => e = .returned (.tuple #[.agg #[.int .i64 0, .int .i64 0], .bool false]) ∧ Below w.heap.size w w' := by
  have HG := fun W => l2Clock_any o W
  rw [h1] at HG
  replace HG := Lib.hid HG
  clear h1
  go_enter Try.func69, Try.ntmps69
  go_wp2_with fail
  refine (HG.out _).mono ?_
  rintro e w1 ⟨rfl, hb1⟩
  obtain ⟨hc, hf⟩ := bcell hb1
  have hz : w.heap.size + 1 < w1.heap.size := by have := hb1.size; simp at this; omega
  go_wp2
  exact bodyPost_ret (v := .tuple #[.agg #[.int .i64 0, .int .i64 0], .bool false]) (by simp [results, Try.results69, go_sem, *]) rfl ⟨rfl, (((below2 _ _ _).trans (hb1.mono (below2 _ _ _).size)).setCell (by simp) _).setCell (by simp) _⟩

set_option maxRecDepth 100000 in
theorem specSpanAt_no2 (o now : Int) (w : World) (h1 : inB o (-5) 5 = true) (h2 : inB now 0 100000 = false) :
    Calls Try.prog 69 #[.agg #[.int .i64 o], .int .i64 now] w fun e w' => e = .returned (.tuple #[.agg #[.int .i64 0, .int .i64 0], .bool false]) ∧ Below w.heap.size w w' := by
  have HG := fun W => l2Clock_any o W
  have HT := fun W => l2True_any now W
  rw [h1] at HG
  rw [h2] at HT
  replace HG := Lib.hid HG
  replace HT := Lib.hid HT
  clear h1 h2
  go_enter Try.func69, Try.ntmps69
  go_wp2_with fail
  refine (HG.out _).mono ?_
  rintro e w1 ⟨rfl, hb1⟩
  obtain ⟨hc, hf⟩ := bcell hb1
  have hz : w.heap.size + 1 < w1.heap.size := by have := hb1.size; simp at this; omega
  go_wp2_with fail
  refine (HT.out _).mono ?_
  rintro e w2 ⟨rfl, rfl⟩
  go_wp2
  exact bodyPost_ret (v := .tuple #[.agg #[.int .i64 0, .int .i64 0], .bool false]) (by simp [results, Try.results69, go_sem, *]) rfl ⟨rfl, (((below2 _ _ _).trans (hb1.mono (below2 _ _ _).size)).setCell (by simp) _).setCell (by simp) _⟩

/-- The model's SpanAt. -/
theorem specSpanAt_any (o now : Int) (w : World) :
    Calls Try.prog 69 #[.agg #[.int .i64 o], .int .i64 now] w fun e w' => e = .returned (.tuple #[.agg #[.int .i64 (saLo o now), .int .i64 (saHi o now)], .bool (saOk o now)]) ∧ Below w.heap.size w w' := by
  unfold saLo saHi saOk
  cases h1 : inB o (-5) 5
  · exact specSpanAt_no1 o now w h1
  · cases h2 : inB now 0 100000
    · exact specSpanAt_no2 o now w h1 h2
    · exact specSpanAt_yes o now w h1 h2
end Go.Proofs.Ytoanigbjdfgjcaa.Sp
