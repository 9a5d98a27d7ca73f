/-
  Contracts for SureLog, of the program and of the model.
-/
import Derived.Test.YtcelbnemblnabaaGrOw
import Derived.Test.YtcelbnemblnabaaGrGd
import Derived.Deep.RegionHeld3
import Derived.Deep.Cut
namespace Go.Proofs.Ytcelbnemblnabaa.Gr
open Go.RowKit CM
set_option linter.unusedVariables false
set_option linter.unusedSimpArgs false

/-- A slice that may be cut within its capacity. -/
def CapOK (r : RH) : Prop := (r.es.length = 0 ∧ r.A = none ∧ r.c = 0) ∨ ∃ g, r.A = some ⟨g, 0, none⟩ ∧ r.es.length ≤ r.c ∧ r.c ≤ maxLen
theorem cap_of {w : World} {r : RH} (h : KR.ow w r) : CapOK r := by
  rcases h.2.1 with ⟨h1, h2, h3⟩ | ⟨g, cur, h1, _, _, _, h5, h6, _⟩
  · exact .inl ⟨by simpa using congrArg List.length h1, h2, h3⟩
  · exact .inr ⟨g, h1, by simpa using h5, h6⟩
def sureA (tm ld : Int) (rs : List RD) : List ED × Bool :=
  if grpB tm ld rs = true ∧ ld ≠ -1 then (match rs[ld.toNat]? with | some r => r.log.take r.su.toNat | none => [], true) else ([], false)
def LAPost (a : List ED × Bool) (w : World) (e : Ending) (w' : World) : Prop :=
  ∃ A c gs, e = .returned (.tuple #[.slice A a.1.length c, .bool a.2]) ∧ gs.map EH.d = a.1 ∧ OwnK KE w' w.heap.size w'.heap.size A c gs ∧ Below w.heap.size w w'
theorem LAPost_un (l : List ED) (ok : Bool) (w : World) : LAPost (l, ok) w = fun e w' => ∃ A c gs, e = .returned (.tuple #[.slice A l.length c, .bool ok]) ∧ gs.map EH.d = l ∧ OwnK KE w' w.heap.size w'.heap.size A c gs ∧ Below w.heap.size w w' := rfl
theorem sureA_no {tm ld : Int} {rs : List RD} (h : grpB tm ld rs = false ∨ ld = -1) : sureA tm ld rs = ([], false) := by
  unfold sureA
  rw [if_neg]
  rintro ⟨h1, h2⟩
  rcases h with h | h
  · rw [h] at h1; cases h1
  · exact h2 h
/-- A valid group's leader. -/
theorem lead_of {tm ld : Int} {rs : List RD} (h : grpB tm ld rs = true) (h1 : ld ≠ -1) : ∃ q : Nat, ld = (q : Int) ∧ q < rs.length := by
  unfold grpB leadB isUpB hasB at h
  simp only [Bool.and_eq_true, Bool.or_eq_true, decide_eq_true_eq] at h
  rcases h.2.2.2.1 with h2 | h2
  · exact absurd h2 h1
  · exact ⟨ld.toNat, by omega, by omega⟩
theorem sure_of {tm ld : Int} {rs : List RD} (h : grpB tm ld rs = true) (q : Nat) (hq : q < rs.length) : 0 ≤ rs[q].su ∧ rs[q].su ≤ (rs[q].log.length : Int) := by
  unfold grpB at h
  simp only [Bool.and_eq_true] at h
  have := repsB_mem h.2.2.2.2 _ (List.getElem_mem hq)
  unfold repB at this
  simp only [Bool.and_eq_true, decide_eq_true_eq] at this
  exact this.2
theorem sureA_yes {tm : Int} {rs : List RD} {q : Nat} (h : grpB tm (q : Int) rs = true) (hq : q < rs.length) : sureA tm (q : Int) rs = (rs[q].log.take rs[q].su.toNat, true) := by
  unfold sureA
  rw [if_pos ⟨h, by omega⟩, Int.toNat_natCast, List.getElem?_eq_getElem hq]

set_option maxHeartbeats 1000000 in
theorem sureOf_any (up : Bool) (Al : Option Addr) (nl cl k : Nat) (w : World) (hA : (nl = 0 ∧ Al = none ∧ cl = 0) ∨ ∃ g, Al = some ⟨g, 0, none⟩ ∧ nl ≤ cl ∧ cl ≤ maxLen) (hk : k ≤ nl) :
    Calls Try.prog 17 #[.agg #[.bool up, .slice Al nl cl, .int .i64 (k : Int)]] w fun e w' => e = .returned (.slice Al k cl) ∧ Below w.heap.size w w' := by
  have hb1 := below1 w (.cells #[.bool up, .slice Al nl cl, .int .i64 (k : Int)] 36)
  rcases hA with ⟨rfl, rfl, rfl⟩ | ⟨g, rfl, h1, h2⟩
  · obtain rfl : k = 0 := by omega
    clear hk
    go_enter Try.func17, Try.ntmps17
    go_wp2
    go_ret
    exact ⟨rfl, hb1⟩
  · have h0 : (0 : Int) ≤ (k : Int) := by omega
    have h3 : (k : Int) ≤ (cl : Int) := by omega
    unfold maxLen at h2
    go_enter Try.func17, Try.ntmps17
    go_wp2
    go_ret
    exact ⟨rfl, hb1⟩

end Go.Proofs.Ytcelbnemblnabaa.Gr
