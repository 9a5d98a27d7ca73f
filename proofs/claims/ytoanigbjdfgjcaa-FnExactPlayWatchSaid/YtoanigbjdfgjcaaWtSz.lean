/-
  Contracts for the laws' helpers that count what they are handed: szClockS, szLeaseS, szWatchActS, szWatch.
-/
import Derived.Test.YtoanigbjdfgjcaaWtMem
namespace Go.Proofs.Ytoanigbjdfgjcaa.Wt
open Go.RowKit
set_option linter.unusedVariables false
set_option linter.unusedSimpArgs false

set_option maxHeartbeats 400000 in
theorem szClockS_any (A : Option Addr) (n c l : Nat) (w : World) (hn : n ≤ maxLen) (hl : l ≤ 1048576) :
    Calls Try.prog 24 #[.slice A n c, .int .i64 (l : Int)] w fun e w' => e = .returned (.int .i64 (remI n l)) ∧ w = w' := by
  unfold maxLen at hn
  by_cases h : n ≤ l
  · rw [remI_yes h]
    have h4 : (n : Int) ≤ (l : Int) := by omega
    go_enter Try.func24, Try.ntmps24
    go_wp2
    go_ret
    exact ⟨rfl, rfl⟩
  · rw [remI_no (by omega)]
    have h4 : (l : Int) < (n : Int) := by omega
    go_enter Try.func24, Try.ntmps24
    go_wp2
    go_ret
    exact ⟨rfl, rfl⟩

set_option maxHeartbeats 400000 in
theorem szLeaseS_any (A : Option Addr) (n c l : Nat) (w : World) (hn : n ≤ maxLen) (hl : l ≤ 1048576) :
    Calls Try.prog 76 #[.slice A n c, .int .i64 (l : Int)] w fun e w' => e = .returned (.int .i64 (remI n l)) ∧ w = w' := by
  unfold maxLen at hn
  by_cases h : n ≤ l
  · rw [remI_yes h]
    have h4 : (n : Int) ≤ (l : Int) := by omega
    go_enter Try.func76, Try.ntmps76
    go_wp2
    go_ret
    exact ⟨rfl, rfl⟩
  · rw [remI_no (by omega)]
    have h4 : (l : Int) < (n : Int) := by omega
    go_enter Try.func76, Try.ntmps76
    go_wp2
    go_ret
    exact ⟨rfl, rfl⟩

set_option maxHeartbeats 400000 in
theorem szWatchActS_any (A : Option Addr) (n c l : Nat) (w : World) (hn : n ≤ maxLen) (hl : l ≤ 1048576) :
    Calls Try.prog 49 #[.slice A n c, .int .i64 (l : Int)] w fun e w' => e = .returned (.int .i64 (remI n l)) ∧ w = w' := by
  unfold maxLen at hn
  by_cases h : n ≤ l
  · rw [remI_yes h]
    have h4 : (n : Int) ≤ (l : Int) := by omega
    go_enter Try.func49, Try.ntmps49
    go_wp2
    go_ret
    exact ⟨rfl, rfl⟩
  · rw [remI_no (by omega)]
    have h4 : (l : Int) < (n : Int) := by omega
    go_enter Try.func49, Try.ntmps49
    go_wp2
    go_ret
    exact ⟨rfl, rfl⟩

set_option maxHeartbeats 1000000 in
theorem szWatch_any (tm : Int) (A A' : Option Addr) (n c n' c' l : Nat) (w : World) (hn : n ≤ maxLen) (hn' : n' ≤ maxLen) (hl : l ≤ 1048576) :
    Calls Try.prog 19 #[.agg #[.int .i64 tm, .slice A n c, .slice A' n' c'], .int .i64 (l : Int)] w fun e w' => e = .returned (.int .i64 (remI (n + n') l)) ∧ Below w.heap.size w w' := by
  have hb1 := below1 w (.cells #[.int .i64 tm, .slice A n c, .slice A' n' c'] 25)
  have HZ1 := Lib.hid (fun W => szClockS_any A n c l W hn hl)
  by_cases h1 : n ≤ l
  · rw [remI_yes h1] at HZ1
    have HZ2 := Lib.hid (fun W => szLeaseS_any A' n' c' (l - n) W hn' (by omega))
    have e1 : ((l - n : Nat) : Int) = (l : Int) - (n : Int) := by omega
    rw [e1] at HZ2
    have h2 : (0 : Int) ≤ (l : Int) - (n : Int) := by omega
    obtain ⟨q, hq⟩ : ∃ q, q = (l : Int) - (n : Int) := ⟨_, rfl⟩
    rw [← hq] at HZ1 HZ2 h2
    have HE := Lib.hid (show remI n' (l - n) = remI (n + n') l by
      by_cases h3 : n' ≤ l - n
      · rw [remI_yes h3, remI_yes (by omega)]; omega
      · rw [remI_no (by omega), remI_no (by omega)])
    obtain ⟨r, hr⟩ : ∃ r, r = remI n' (l - n) := ⟨_, rfl⟩
    have hr0 : 0 ≤ r ∨ r = -1 := by
      by_cases h3 : n' ≤ l - n
      · rw [hr, remI_yes h3]; omega
      · rw [hr, remI_no (by omega)]; omega
    rw [← hr] at HZ2 HE
    rw [← HE.out]
    clear hr hq e1 h1
    rcases hr0 with hr0 | rfl
    · go_enter Try.func19, Try.ntmps19
      go_wp2_with fail
      refine (HZ1.out _).mono ?_
      rintro e w1 ⟨rfl, rfl⟩
      go_wp2_with fail
      refine (HZ2.out _).mono ?_
      rintro e w2 ⟨rfl, rfl⟩
      go_wp2
      go_ret
      exact ⟨rfl, hb1⟩
    · go_enter Try.func19, Try.ntmps19
      go_wp2_with fail
      refine (HZ1.out _).mono ?_
      rintro e w1 ⟨rfl, rfl⟩
      go_wp2_with fail
      refine (HZ2.out _).mono ?_
      rintro e w2 ⟨rfl, rfl⟩
      go_wp2
      go_ret
      exact ⟨rfl, hb1⟩
  · rw [remI_no (by omega)] at HZ1
    rw [remI_no (by omega)]
    clear h1
    go_enter Try.func19, Try.ntmps19
    go_wp2_with fail
    refine (HZ1.out _).mono ?_
    rintro e w1 ⟨rfl, rfl⟩
    go_wp2
    go_ret
    exact ⟨rfl, hb1⟩
end Go.Proofs.Ytoanigbjdfgjcaa.Wt
