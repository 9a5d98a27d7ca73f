/-
  Copies and checks of spans and clocks.
-/
import Derived.Test.YtoanigbjdfgjcaaSpLeaf
namespace Go.Proofs.Ytoanigbjdfgjcaa.Sp
open Go.RowKit
set_option linter.unusedVariables false
theorem toSpan_any (a b : Int) (w : World) :
    Calls Try.prog 61 #[.agg #[.int .i64 a, .int .i64 b]] w fun e w' => e = .returned (.agg #[.int .i64 a, .int .i64 b]) ∧ Below w.heap.size w w' := by
  go_enter Try.func61, Try.ntmps61
  go_wp2
  exact bodyPost_ret (v := .agg #[.int .i64 a, .int .i64 b]) (by simp [results, Try.results61, go_sem]) rfl ⟨rfl, below3 _ _ _ _⟩

theorem toClock_any (a : Int) (w : World) :
    Calls Try.prog 64 #[.agg #[.int .i64 a]] w fun e w' => e = .returned (.agg #[.int .i64 a]) ∧ Below w.heap.size w w' := by
  go_enter Try.func64, Try.ntmps64
  go_wp2
  exact bodyPost_ret (v := .agg #[.int .i64 a]) (by simp [results, Try.results64, go_sem]) rfl ⟨rfl, below3 _ _ _ _⟩

theorem l2Span_any (a b : Int) (w : World) :
    Calls Try.prog 109 #[.agg #[.int .i64 a, .int .i64 b]] w fun e w' => e = .returned (.bool (goodB a b)) ∧ Below w.heap.size w w' := by
  by_cases h1 : a ≤ b
  · by_cases h2 : -10 ≤ a
    · by_cases h3 : b ≤ 100010
      · rw [goodB_mk ⟨h1, h2, h3⟩]
        go_enter Try.func109, Try.ntmps109
        go_wp2
        go_ret
        exact ⟨rfl, (Below.refl _ _).alloc (Nat.le_refl _) _⟩
      · rw [goodB_not (by omega)]
        go_enter Try.func109, Try.ntmps109
        go_wp2
        go_ret
        exact ⟨rfl, (Below.refl _ _).alloc (Nat.le_refl _) _⟩
    · rw [goodB_not (by omega)]
      go_enter Try.func109, Try.ntmps109
      go_wp2
      go_ret
      exact ⟨rfl, (Below.refl _ _).alloc (Nat.le_refl _) _⟩
  · rw [goodB_not (by omega)]
    go_enter Try.func109, Try.ntmps109
    go_wp2
    go_ret
    exact ⟨rfl, (Below.refl _ _).alloc (Nat.le_refl _) _⟩

theorem l2Clock_any (a : Int) (w : World) :
    Calls Try.prog 112 #[.agg #[.int .i64 a]] w fun e w' => e = .returned (.bool (inB a (-5) 5)) ∧ Below w.heap.size w w' := by
  go_enter Try.func112, Try.ntmps112
  go_wp2_with fail
  refine (l1In_any _ _ _ _).mono ?_
  rintro e w' ⟨rfl, rfl⟩
  go_wp2
  go_ret
  exact ⟨rfl, (Below.refl _ _).alloc (Nat.le_refl _) _⟩

theorem specGoodClock_any (a : Int) (w : World) :
    Calls Try.prog 75 #[.agg #[.int .i64 a]] w fun e w' => e = .returned (.bool (inB a (-5) 5)) ∧ Below w.heap.size w w' := by
  go_enter Try.func75, Try.ntmps75
  go_wp2_with fail
  refine (l2Clock_any _ _).mono ?_
  rintro e w' ⟨rfl, hb⟩
  go_wp2
  go_ret
  exact ⟨rfl, ((Below.refl _ _).alloc (Nat.le_refl _) _).trans (hb.mono (by simp))⟩

theorem goodClock_any (a : Int) (w : World) :
    Calls Try.prog 74 #[.agg #[.int .i64 a]] w fun e w' => e = .returned (.bool (inB a (-5) 5)) ∧ Below w.heap.size w w' := by
  by_cases h1 : -5 ≤ a
  · by_cases h2 : a ≤ 5
    · rw [inB_mk ⟨h1, h2⟩]
      go_enter Try.func74, Try.ntmps74
      go_wp2
      go_ret
      exact ⟨rfl, (Below.refl _ _).alloc (Nat.le_refl _) _⟩
    · rw [inB_not (by omega)]
      go_enter Try.func74, Try.ntmps74
      go_wp2
      go_ret
      exact ⟨rfl, (Below.refl _ _).alloc (Nat.le_refl _) _⟩
  · rw [inB_not (by omega)]
    go_enter Try.func74, Try.ntmps74
    go_wp2
    go_ret
    exact ⟨rfl, (Below.refl _ _).alloc (Nat.le_refl _) _⟩

theorem meetTwo_any (a b c d : Int) (w : World) :
    Calls Try.prog 118 #[.agg #[.int .i64 a, .int .i64 b], .agg #[.int .i64 c, .int .i64 d]] w fun e w' => e = .returned (.agg #[.int .i64 (max a c), .int .i64 (min b d)]) ∧ Below w.heap.size w w' := by
  go_enter Try.func118, Try.ntmps118
  go_wp2
  all_goals
    refine bodyPost_ret (v := .agg #[.int .i64 (max a c), .int .i64 (min b d)]) ?_ rfl ⟨rfl, below3 _ _ _ _⟩
    simp [results, Try.results118, go_sem]
    omega
end Go.Proofs.Ytoanigbjdfgjcaa.Sp
