/-
  The leader of a valid group: there is one, what is sure of its log, its log's terms.
-/
import Derived.Test.YtkhndofplebcaaaGrAvM
namespace Go.Proofs.Ytkhndofplebcaaa.Gr
open Go.RowKit CM
set_option linter.unusedVariables false
theorem lead_of {tm ld : Int} {rs : List RD} (h : grpB tm ld rs = true) (h1 : ld ≠ -1) : ∃ q : Nat, ld = (q : Int) ∧ q < rs.length := by
  unfold grpB leadB isUpB hasB at h
  simp only [Bool.and_eq_true, Bool.or_eq_true, decide_eq_true_eq] at h
  obtain ⟨_, _, _, h2, _⟩ := h
  rcases h2 with h2 | h2
  · exact absurd h2 h1
  · exact ⟨ld.toNat, by omega, by omega⟩
theorem rep_of {tm ld : Int} {rs : List RD} (h : grpB tm ld rs = true) (q : Nat) (hq : q < rs.length) : repB tm rs[q] = true := by
  unfold grpB at h
  simp only [Bool.and_eq_true] at h
  exact repsB_mem h.2.2.2.2 _ (List.getElem_mem hq)
theorem sure_of {tm ld : Int} {rs : List RD} (h : grpB tm ld rs = true) (q : Nat) (hq : q < rs.length) : 0 ≤ rs[q].su ∧ rs[q].su ≤ (rs[q].log.length : Int) := by
  have h1 := rep_of h q hq
  unfold repB at h1
  simp only [Bool.and_eq_true, decide_eq_true_eq] at h1
  exact h1.2
theorem lead_log {tm ld : Int} {rs : List RD} (h : grpB tm ld rs = true) (q : Nat) (hq : q < rs.length) : lgB tm 1 (logOf rs q) = true := by
  have h1 := rep_of h q hq
  unfold repB logB at h1
  simp only [Bool.and_eq_true] at h1
  unfold logOf
  rw [List.getElem?_eq_getElem hq]
  exact h1.1.2
end Go.Proofs.Ytkhndofplebcaaa.Gr
