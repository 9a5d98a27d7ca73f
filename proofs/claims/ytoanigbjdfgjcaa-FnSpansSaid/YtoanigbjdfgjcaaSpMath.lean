/-
  What the law FnSpans asks of the answers; contracts of big.
-/
import Derived.Test.YtoanigbjdfgjcaaSpWait
import Derived.Test.YtoanigbjdfgjcaaSpDraw
namespace Go.Proofs.Ytoanigbjdfgjcaa.Sp

open Go.RowKit
set_option linter.unusedVariables false

theorem sa_of {o now : Int} (h : saOk o now = true) : saLo o now = now + o - 5 ∧ saHi o now = now + o + 5 ∧ -5 ≤ o ∧ o ≤ 5 ∧ 0 ≤ now ∧ now ≤ 100000 := by
  have h' := h
  unfold saOk at h'
  simp only [Bool.and_eq_true] at h'
  obtain ⟨h1, h2⟩ := h'
  have b1 := inB_true h1
  have b2 := inB_true h2
  exact ⟨by simp [saLo, h1, h2], by simp [saHi, h1, h2], b1.1, b1.2, b2.1, b2.2⟩
theorem sa_mk {o now : Int} (h : -5 ≤ o ∧ o ≤ 5 ∧ 0 ≤ now ∧ now ≤ 100000) : saOk o now = true := by
  unfold saOk
  rw [inB_mk ⟨h.1, h.2.1⟩, inB_mk h.2.2]
  rfl

/-- A clock's interval holds its time, and is valid. -/
theorem sa_good {o now : Int} (h : saOk o now = true) : saLo o now ≤ now ∧ now ≤ saHi o now ∧ goodB (saLo o now) (saHi o now) = true ∧ 0 ≤ now ∧ now ≤ 100000 := by
  obtain ⟨h1, h2, h3, h4, h5, h6⟩ := sa_of h
  rw [h1, h2]
  exact ⟨by omega, by omega, goodB_mk (by omega), h5, h6⟩

theorem ask_mk {a b t : Int} (h : goodB a b = true) (ht : -100 ≤ t ∧ t ≤ 100100) : askOk a b t = true := by
  unfold askOk
  rw [h, inB_mk ht]
  rfl

/-- The waiting time is enough, and it is the least. -/
theorem wait_good {o now t : Int} (h : waitOk o now t = true) :
    0 ≤ waitV o now t ∧ waitV o now t ≤ 100000 ∧ 0 ≤ now ∧ now ≤ 100000 ∧ saOk o (now + waitV o now t) = true ∧ askOk (saLo o (now + waitV o now t)) (saHi o (now + waitV o now t)) t = true ∧ pastB (saLo o (now + waitV o now t)) (saHi o (now + waitV o now t)) t = true ∧
    (0 < waitV o now t → saOk o (now + waitV o now t - 1) = true ∧ askOk (saLo o (now + waitV o now t - 1)) (saHi o (now + waitV o now t - 1)) t = true ∧ pastB (saLo o (now + waitV o now t - 1)) (saHi o (now + waitV o now t - 1)) t = false) := by
  have hv := waitV_of h
  unfold waitOk at h
  simp only [Bool.and_eq_true, decide_eq_true_eq] at h
  obtain ⟨h1, h2, h3, h4⟩ := h
  have b1 := inB_true h1
  have b2 := inB_true h2
  have b3 := inB_true h3
  rw [hv]
  obtain ⟨n, hn⟩ : ∃ n, n = waitN o now t := ⟨_, rfl⟩
  rw [← hn] at h4 ⊢
  have hn' : n = max 0 (t + 1 - (now + o - 5)) := hn
  clear hn hv
  have s1 : saOk o (now + n) = true := sa_mk (by omega)
  have k1 := sa_good s1
  have a1 := ask_mk (t := t) k1.2.2.1 (by omega)
  have e1 := sa_of s1
  refine ⟨by omega, by omega, by omega, by omega, s1, a1, ?_, fun hp => ?_⟩
  · unfold pastB
    rw [a1, e1.1, decide_eq_true (by omega)]
    rfl
  · have s2 : saOk o (now + n - 1) = true := sa_mk (by omega)
    have k2 := sa_good s2
    have a2 := ask_mk (t := t) k2.2.2.1 (by omega)
    have e2 := sa_of s2
    refine ⟨s2, a2, ?_⟩
    unfold pastB
    rw [a2, e2.1, decide_eq_false (by omega)]
    rfl

set_option maxHeartbeats 400000 in
theorem big_yes (A B : Option Addr) (n c m d : Nat) (w : World) (hn : n ≤ maxLen) (hm : m ≤ maxLen) (h : 1048576 < n + m) :
    Calls Try.prog 66 #[.slice A n c, .slice B m d] w fun e w' => e = .returned (.bool true) ∧ w = w' := by
  unfold maxLen at hn hm
  by_cases h1 : 1048576 < n
  · have hd : decide (1048576 < (n : Int)) = true := by simp; omega
    go_enter Try.func66, Try.ntmps66
    go_wp2
    go_ret
    exact ⟨rfl, rfl⟩
  · have hd2 : decide (1048576 - (n : Int) < (m : Int)) = true := by simp; omega
    go_enter Try.func66, Try.ntmps66
    go_wp2
    go_ret
    exact ⟨rfl, rfl⟩

set_option maxHeartbeats 400000 in
theorem big_no (A B : Option Addr) (n c m d : Nat) (w : World) (h : n + m ≤ 1048576) :
    Calls Try.prog 66 #[.slice A n c, .slice B m d] w fun e w' => e = .returned (.bool false) ∧ w = w' := by
  have hd2 : decide (1048576 - (n : Int) < (m : Int)) = false := by simp; omega
  have hd1 : decide (1048576 < (n : Int)) = false := by simp; omega
  go_enter Try.func66, Try.ntmps66
  go_wp2
  go_ret
  exact ⟨rfl, rfl⟩
end Go.Proofs.Ytoanigbjdfgjcaa.Sp
