/-
  What the law FnMeetings asks of the answers of SpanAt, MeetSpans, MoveSpan and SurelyAfter.
-/
import Derived.Test.YtmdejfdkdgpffaaSpansMath
import Derived.Test.YtmdejfdkdgpffaaMeetLaw
import Derived.Test.YtmdejfdkdgpffaaDraw3
namespace Go.Proofs.Ytmdejfdkdgpffaa
open Go.RowKit
set_option linter.unusedVariables false

/-- Two intervals of one moment meet around it. -/
theorem meet_two {o p now : Int} (h : -5 ≤ o ∧ o ≤ 5 ∧ -5 ≤ p ∧ p ≤ 5 ∧ 0 ≤ now ∧ now ≤ 100000) :
    mtOk [(now + o - 5, now + o + 5), (now + p - 5, now + p + 5)] = true ∧ mtLo [(now + o - 5, now + o + 5), (now + p - 5, now + p + 5)] ≤ now ∧ now ≤ mtHi [(now + o - 5, now + o + 5), (now + p - 5, now + p + 5)] ∧
      now + o - 5 ≤ mtLo [(now + o - 5, now + o + 5), (now + p - 5, now + p + 5)] ∧ mtHi [(now + o - 5, now + o + 5), (now + p - 5, now + p + 5)] ≤ now + p + 5 := by
  have hm : meetAll [(now + o - 5, now + o + 5), (now + p - 5, now + p + 5)] = (max (max (now + o - 5) (now + o - 5)) (now + p - 5), min (min (now + o + 5) (now + o + 5)) (now + p + 5)) := rfl
  have hg : goodAll [(now + o - 5, now + o + 5), (now + p - 5, now + p + 5)] = true := by
    unfold goodAll
    simp only [List.all_cons, List.all_nil, Bool.and_true, Bool.and_eq_true]
    exact ⟨goodB_mk (by omega), goodB_mk (by omega)⟩
  have hk : mtOk [(now + o - 5, now + o + 5), (now + p - 5, now + p + 5)] = true := mtOk_of (by simp) (by simp) hm hg (decide_eq_true (by omega))
  refine ⟨hk, ?_⟩
  unfold mtLo mtHi
  rw [hk, hm]
  simp only [if_true]
  omega

theorem meet_after {o p now : Int} (h : -5 ≤ o ∧ o ≤ 5 ∧ -5 ≤ p ∧ p ≤ 5 ∧ 0 ≤ now ∧ now ≤ 100000) :
    bothOk (now + o - 5) (now + o + 5) (now + p - 5) (now + p + 5) = true ∧ afterB (now + o - 5) (now + o + 5) (now + p - 5) (now + p + 5) = false := by
  have hb : bothOk (now + o - 5) (now + o + 5) (now + p - 5) (now + p + 5) = true := by
    unfold bothOk
    rw [goodB_mk (by omega), goodB_mk (by omega)]
    rfl
  refine ⟨hb, ?_⟩
  unfold afterB
  rw [hb, decide_eq_false (by omega)]
  rfl

/-- An interval moved by 21 lies after every interval of the moment. -/
theorem moved_after {o p now : Int} (h : -5 ≤ o ∧ o ≤ 5 ∧ -5 ≤ p ∧ p ≤ 5 ∧ 0 ≤ now ∧ now ≤ 100000) (hm : mvOk (now + p - 5) (now + p + 5) 21 = true) :
    bothOk (mvLo (now + p - 5) (now + p + 5) 21) (mvHi (now + p - 5) (now + p + 5) 21) (now + o - 5) (now + o + 5) = true ∧ afterB (mvLo (now + p - 5) (now + p + 5) 21) (mvHi (now + p - 5) (now + p + 5) 21) (now + o - 5) (now + o + 5) = true := by
  have e1 : mvLo (now + p - 5) (now + p + 5) 21 = now + p - 5 + 21 := by simp only [mvLo, hm, if_true]
  have e2 : mvHi (now + p - 5) (now + p + 5) 21 = now + p + 5 + 21 := by simp only [mvHi, hm, if_true]
  unfold mvOk at hm
  simp only [Bool.and_eq_true] at hm
  have hg := hm.2.2
  have hb : bothOk (mvLo (now + p - 5) (now + p + 5) 21) (mvHi (now + p - 5) (now + p + 5) 21) (now + o - 5) (now + o + 5) = true := by
    rw [e1, e2]
    unfold bothOk
    rw [hg, goodB_mk (by omega)]
    rfl
  refine ⟨hb, ?_⟩
  unfold afterB
  rw [hb, e1, decide_eq_true (by omega)]
  rfl

theorem both_comm (a b c d : Int) : bothOk c d a b = bothOk a b c d := by
  unfold bothOk
  exact Bool.and_comm _ _
/-- Of two spans not each lies after the other. -/
theorem not_both {a b c d : Int} (h : afterB a b c d = true) : afterB c d a b = false := by
  unfold afterB bothOk at h ⊢
  simp only [Bool.and_eq_true, decide_eq_true_eq] at h
  have g1 := goodB_true h.1.1
  have g2 := goodB_true h.1.2
  rw [decide_eq_false (show ¬ b < c by omega)]
  simp

theorem two_spans {w : World} {g : Nat} {x0 x1 y0 y1 : Int} (h : w.heap[g]? = some (.cells #[.int .i64 x0, .int .i64 x1, .int .i64 y0, .int .i64 y1] 29 (0, 0))) : SpansAt w (some ⟨g, 0, none⟩) [(x0, x1), (y0, y1)] := by
  refine .inr ⟨g, 0, rfl, lt_blk h, fun k hk => ?_⟩
  have hk' : k = 0 ∨ k = 1 := by simp at hk; omega
  rcases hk' with rfl | rfl
  · exact ⟨cell_blk (i := 0) h rfl, cell_blk (i := 1) h rfl⟩
  · exact ⟨cell_blk (i := 2) h rfl, cell_blk (i := 3) h rfl⟩
end Go.Proofs.Ytmdejfdkdgpffaa
