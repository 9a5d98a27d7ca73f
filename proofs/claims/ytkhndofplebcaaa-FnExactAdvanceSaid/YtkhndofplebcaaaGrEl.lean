/-
  Contracts for what an election asks: lastTerm, isMoreRecent, isMajority, the closure of electRep, mostAre; l9Last, l9Later of the model.
-/
import Derived.Test.YtkhndofplebcaaaGrGd
namespace Go.Proofs.Ytkhndofplebcaaa.Gr
open Go.RowKit CM
set_option linter.unusedVariables false
set_option linter.unusedSimpArgs false

def lastT (l : List ED) : Int := if h : 0 < l.length then (l[l.length - 1]'(by omega)).tm else 0
theorem lastT_nil {l : List ED} (h : l.length = 0) : lastT l = 0 := by unfold lastT; rw [dif_neg (by omega)]
theorem lastT_at {es : List EH} {m : Nat} (h : es.length = m + 1) : lastT (es.map EH.d) = (es[m]'(by omega)).d.tm := by
  unfold lastT
  rw [dif_pos (by rw [List.length_map]; omega)]
  simp [h]
def moreB (a b : List ED) : Bool := decide (lastT b < lastT a) || (decide (lastT a = lastT b) && decide (b.length < a.length))
def yesV (b : List ED) (r : RD) : Bool := r.up && !moreB r.log b
def cntV (b : List ED) (rs : List RD) : Nat := (rs.filter (yesV b)).length
theorem cntV_step {b : List ED} {rs : List RD} {k : Nat} (h : k < rs.length) : cntV b (rs.drop k) = (yesV b rs[k]).toNat + cntV b (rs.drop (k + 1)) := by
  unfold cntV
  rw [List.drop_eq_getElem_cons h, List.filter_cons]
  cases yesV b rs[k] <;> simp <;> omega
theorem cntV_le (b : List ED) (rs : List RD) : cntV b rs ≤ rs.length := List.length_filter_le _ _

theorem isMajority_any (a b : Nat) (w : World) (ha : a ≤ 1048576) (hb : b ≤ 1048576) :
    Calls Try.prog 176 #[.int .i64 (a : Int), .int .i64 (b : Int)] w fun e w' => e = .returned (.bool (decide (b < 2 * a))) ∧ w = w' := by
  by_cases h : b < 2 * a
  · rw [decide_eq_true h]
    have h1 : (b : Int) < 2 * (a : Int) := by omega
    go_enter Try.func176, Try.ntmps176
    go_wp2
    go_ret
    exact ⟨rfl, rfl⟩
  · rw [decide_eq_false h]
    have h1 : ¬ (b : Int) < 2 * (a : Int) := by omega
    have h2 : decide ((b : Int) < 2 * (a : Int)) = false := decide_eq_false h1
    go_enter Try.func176, Try.ntmps176
    go_wp2
    go_ret
    exact ⟨rfl, rfl⟩

end Go.Proofs.Ytkhndofplebcaaa.Gr
