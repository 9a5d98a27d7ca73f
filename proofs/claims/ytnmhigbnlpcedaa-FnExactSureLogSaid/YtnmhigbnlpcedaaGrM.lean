/-
  Groups as data: what is good. Plain mathematics.
-/
import Derived.Test.YtnmhigbnlpcedaaGrMem
import Derived.Test.YtnmhigbnlpcedaaGoodR
namespace Go.Proofs.Ytnmhigbnlpcedaa.Gr
open Go.RowKit CM
set_option linter.unusedVariables false

def erB (d : ED) : Bool := recB d.k d.t d.x d.l d.y d.rs d.ws
def lgB (term : Int) : Int → List ED → Bool
  | _, [] => true
  | b, d :: t => inB d.tm b term && (erB d && lgB term d.tm t)
def logB (term : Int) (l : List ED) : Bool := decide (l.length ≤ 60) && lgB term 1 l
def repB (term : Int) (r : RD) : Bool := logB term r.log && (decide (0 ≤ r.su) && decide (r.su ≤ (r.log.length : Int)))
def repsB (term : Int) : List RD → Bool
  | [] => true
  | r :: t => repB term r && repsB term t
def upAt (rs : List RD) (i : Nat) : Bool := match rs[i]? with | some r => r.up | none => false
def hasB (n : Nat) (r : Int) : Bool := decide (0 ≤ r) && decide (r < (n : Int))
def isUpB (rs : List RD) (r : Int) : Bool := hasB rs.length r && upAt rs r.toNat
def leadB (term lead : Int) (rs : List RD) : Bool := decide (lead = -1) || (isUpB rs lead && decide (0 < term))
def szB (n : Nat) : Bool := decide (n = 3) || decide (n = 5)
def grpB (term lead : Int) (rs : List RD) : Bool := szB rs.length && (decide (0 ≤ term) && (decide (term ≤ 200) && (leadB term lead rs && repsB term rs)))
theorem lgB_step {term b : Int} {l : List ED} {k : Nat} (h : k < l.length) : lgB term b (l.drop k) = (inB l[k].tm b term && (erB l[k] && lgB term l[k].tm (l.drop (k + 1)))) := by
  rw [List.drop_eq_getElem_cons h]; rfl
theorem lgB_end {term b : Int} {l : List ED} {k : Nat} (h : l.length ≤ k) : lgB term b (l.drop k) = true := by
  rw [List.drop_eq_nil_of_le h]; rfl
theorem repsB_step {term : Int} {l : List RD} {k : Nat} (h : k < l.length) : repsB term (l.drop k) = (repB term l[k] && repsB term (l.drop (k + 1))) := by
  rw [List.drop_eq_getElem_cons h]; rfl
theorem repsB_end {term : Int} {l : List RD} {k : Nat} (h : l.length ≤ k) : repsB term (l.drop k) = true := by
  rw [List.drop_eq_nil_of_le h]; rfl
theorem repsB_mem {term : Int} {l : List RD} (h : repsB term l = true) : ∀ r ∈ l, repB term r = true := by
  induction l with
  | nil => simp
  | cons a t ih =>
    simp only [repsB, Bool.and_eq_true] at h
    intro r hr
    rcases List.mem_cons.1 hr with rfl | hr
    · exact h.1
    · exact ih h.2 r hr
theorem upAt_lt {rs : List RD} {i : Nat} (h : i < rs.length) : upAt rs i = rs[i].up := by simp [upAt, List.getElem?_eq_getElem h]
theorem d_at {es : List EH} {k : Nat} (h : k < es.length) : (es.map EH.d)[k]'(by simpa using h) = es[k].d := by simp
theorem r_at {rs : List RH} {k : Nat} (h : k < rs.length) : (rs.map rdat)[k]'(by simpa using h) = rdat rs[k] := by simp
theorem upAt_map {rs : List RH} {k : Nat} (h : k < rs.length) : upAt (rs.map rdat) k = rs[k].up := by rw [upAt_lt (by simpa using h), r_at h]; rfl
/-- The model's order of the same checks. -/
theorem grpB_model (term lead : Int) (rs : List RD) : grpB term lead rs = (szB rs.length && (inB term 0 200 && (inB lead (-1) ((rs.length : Int) - 1) && (repsB term rs && (decide (lead < 0) || (decide (0 < term) && upAt rs lead.toNat)))))) := by
  unfold grpB leadB isUpB hasB inB
  cases szB rs.length <;> simp only [Bool.false_and, Bool.true_and]
  cases repsB term rs <;> simp only [Bool.and_false, Bool.false_and, Bool.true_and, Bool.and_true]
  cases upAt rs lead.toNat <;> simp only [Bool.and_false, Bool.false_and, Bool.or_false, Bool.and_true] <;> rw [Bool.eq_iff_iff] <;> simp <;> omega
end Go.Proofs.Ytnmhigbnlpcedaa.Gr
