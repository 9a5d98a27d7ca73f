/-
  GoodSpan of the program.
-/
import Derived.Test.YtoanigbjdfgjcaaSpSpans
namespace Go.Proofs.Ytoanigbjdfgjcaa.Sp

open Go.RowKit
set_option linter.unusedVariables false

theorem kept2 {W w1 : World} (hb : Below W.heap.size W w1) {b o : Nat} {v : Value} (h : W.cell? ⟨b, o, none⟩ = some v) (hlt : b < W.heap.size) : w1.cell? ⟨b, o, none⟩ = some v :=
  (hb.cell (p := ⟨b, o, none⟩) hlt).trans h

theorem fieldsSp' : ((Try.prog.fieldsOf 78).toList.map fun f => (f.name, f.type, f.offset)) = [("Low", 3, 0), ("High", 3, 1)] := by kernel_rfl
theorem fieldsSp : ∃ f g, (Try.prog.fieldsOf 78).toList = [f, g] ∧ f.name = "Low" ∧ f.type = 3 ∧ f.offset = 0 ∧ g.name = "High" ∧ g.type = 3 ∧ g.offset = 1 := by
  have h := fieldsSp'
  generalize (Try.prog.fieldsOf 78).toList = l at h
  have hl := congrArg List.length h
  simp only [List.length_map, List.length_cons, List.length_nil] at hl
  obtain ⟨f, g, rfl⟩ : ∃ f g, l = [f, g] := by
    rcases l with _ | ⟨f, _ | ⟨g, _ | ⟨k, l⟩⟩⟩
    · simp at hl
    · simp at hl
    · exact ⟨f, g, rfl⟩
    · simp at hl
  simp only [List.map_cons, List.map_nil, List.cons.injEq, Prod.mk.injEq, and_true] at h
  exact ⟨f, g, rfl, h.1.1, h.1.2.1, h.1.2.2, h.2.1, h.2.2.1, h.2.2.2⟩

theorem eq_span (w : World) (a b c d : Int) :
    (Op.equalIn 10000 78 (.agg #[.int .i64 a, .int .i64 b]) (.agg #[.int .i64 c, .int .i64 d])).run Try.prog w = .ok (a == c && b == d) w := by
  have hq : ∀ x y : Int, (Op.equalIn 9999 3 (.int .i64 x) (.int .i64 y)).run Try.prog w = .ok (x == y) w := fun x y => run_equalIn_int w 9998 3 .i64 .i64 x y Try.underlying3
  have hp : ∀ (xs : Array Value) (o : Nat) (v : Value), xs[o]? = some v → (part 3 xs o).run Try.prog w = .ok v w := fun xs o v h => run_part_plain w (by kernel_rfl) h
  obtain ⟨f, g, hfg, f1, f2, f3, g1, g2, g3⟩ := fieldsSp
  rw [show (10000 : Nat) = 9999 + 1 from rfl, run_equalIn_struct w 9999 78 _ _ (by kernel_rfl) (by kernel_rfl), hfg]
  simp only [Op.eqFields, Sem.run_bind, ne_eq, f1, f2, f3, g1, g2, g3, not_false_eq_true, if_true, String.reduceEq]
  rw [hp _ 0 (.int .i64 a) rfl]
  simp only [Result.andThen_ok]
  rw [hp _ 0 (.int .i64 c) rfl]
  simp only [Result.andThen_ok, hq]
  cases h0 : (a == c)
  · simp
  · simp only [Bool.not_true, Bool.false_eq_true, if_false, Sem.run_bind]
    rw [hp _ 1 (.int .i64 b) rfl]
    simp only [Result.andThen_ok]
    rw [hp _ 1 (.int .i64 d) rfl]
    simp only [Result.andThen_ok, hq]
    cases h1 : (b == d) <;> simp

theorem good_eq (a b : Int) : (max a (-10) == a && min b 100010 == b) = (decide (-10 ≤ a) && decide (b ≤ 100010)) := by
  have h1 : (max a (-10) == a) = decide (-10 ≤ a) := by
    by_cases h : -10 ≤ a
    · rw [show max a (-10) = a by omega]; simp [h]
    · rw [show max a (-10) = -10 by omega]; simp [h]; omega
  have h2 : (min b 100010 == b) = decide (b ≤ 100010) := by
    by_cases h : b ≤ 100010
    · rw [show min b 100010 = b by omega]; simp [h]
    · rw [show min b 100010 = 100010 by omega]; simp [h]; omega
  rw [h1, h2]

set_option maxRecDepth 100000 in
theorem goodSpan_any (a b : Int) (w : World) :
    Calls Try.prog 71 #[.agg #[.int .i64 a, .int .i64 b]] w fun e w' => e = .returned (.bool (goodB a b)) ∧ Below w.heap.size w w' := by
  by_cases h1 : a ≤ b
  · obtain ⟨v, hv⟩ : ∃ v, v = goodB a b := ⟨_, rfl⟩
    have heq := fun W => eq_span W (max a (-10)) (min b 100010) a b
    rw [good_eq, show (decide (-10 ≤ a) && decide (b ≤ 100010)) = goodB a b by simp [goodB, h1], ← hv] at heq
    rw [← hv]
    clear hv
    go_enter Try.func71, Try.ntmps71
    go_wp2_with fail
    have hlt : w.heap.size + 1 < ((w.alloc (.cells #[.int .i64 a, .int .i64 b] 78)).alloc (.cells #[.int .i64 (-10), .int .i64 100010] 78)).heap.size := by simp
    have hbel := below2 w (.cells #[.int .i64 a, .int .i64 b] 78) (.cells #[.int .i64 (-10), .int .i64 100010] 78)
    have c0 : ((w.alloc (.cells #[.int .i64 a, .int .i64 b] 78)).alloc (.cells #[.int .i64 (-10), .int .i64 100010] 78)).cell? ⟨w.heap.size, 0, none⟩ = some (.int .i64 a) := by go_simp
    have c1 : ((w.alloc (.cells #[.int .i64 a, .int .i64 b] 78)).alloc (.cells #[.int .i64 (-10), .int .i64 100010] 78)).cell? ⟨w.heap.size, 1, none⟩ = some (.int .i64 b) := by go_simp
    have d0 : ((w.alloc (.cells #[.int .i64 a, .int .i64 b] 78)).alloc (.cells #[.int .i64 (-10), .int .i64 100010] 78)).cell? ⟨w.heap.size + 1, 0, none⟩ = some (.int .i64 (-10)) := by go_simp
    have d1 : ((w.alloc (.cells #[.int .i64 a, .int .i64 b] 78)).alloc (.cells #[.int .i64 (-10), .int .i64 100010] 78)).cell? ⟨w.heap.size + 1, 1, none⟩ = some (.int .i64 100010) := by go_simp
    generalize (w.alloc (.cells #[.int .i64 a, .int .i64 b] 78)).alloc (.cells #[.int .i64 (-10), .int .i64 100010] 78) = W at *
    obtain ⟨g, hg⟩ : ∃ g, g = w.heap.size := ⟨_, rfl⟩
    rw [← hg] at c0 c1 d0 d1 hlt ⊢
    have hlt0 : g < W.heap.size := by omega
    have HB := Lib.hid hbel
    clear hg hbel
    go_region_held3 (fun w' => w'.cell? ⟨g, 0, none⟩ = some (.int .i64 a) ∧ w'.cell? ⟨g, 1, none⟩ = some (.int .i64 b) ∧ w'.cell? ⟨g + 1, 0, none⟩ = some (.int .i64 (-10)) ∧ w'.cell? ⟨g + 1, 1, none⟩ = some (.int .i64 100010))
      (first | go_keep | (go_split_ands; exact ⟨kept2 hb c0 hlt0, kept2 hb c1 hlt0, kept2 hb d0 hlt, kept2 hb d1 hlt⟩))
      ((go_at_call 118; refine (meetTwo_any _ _ _ _ _).mono ?_; rintro e w4 ⟨rfl, hb⟩))
    go_wp2
    go_ret
    exact ⟨rfl, Below.trans (b := W.drew) HB.out.drew (hb.mono HB.out.size)⟩
  · rw [goodB_not (by omega)]
    have hd : decide (a ≤ b) = false := by simpa using h1
    go_enter Try.func71, Try.ntmps71
    go_wp2_with fail
    go_quiet (fail)
    go_wp2
    go_ret
    exact ⟨rfl, below_drewN (below2 _ _ _) _⟩
end Go.Proofs.Ytoanigbjdfgjcaa.Sp
