/-
  What the walks of the exact laws over watches share.
-/
import Derived.Test.YtoanigbjdfgjcaaWtSz
import Derived.Test.YtoanigbjdfgjcaaWtTo
import Derived.Test.YtoanigbjdfgjcaaWtEq
import Derived.Test.YtoanigbjdfgjcaaWtMk
import Derived.Test.YtoanigbjdfgjcaaWtF0
namespace Go.Proofs.Ytoanigbjdfgjcaa.Wt
open Go.RowKit
set_option linter.unusedVariables false
set_option linter.unusedSimpArgs false

theorem szWatchW_any (tm : Int) (A A' : Option Addr) (n c n' c' : Nat) (w : World) (hn : n ≤ maxLen) (hn' : n' ≤ maxLen) :
    Calls Try.prog 19 #[.agg #[.int .i64 tm, .slice A n c, .slice A' n' c'], .int .i64 1048576] w fun e w' => e = .returned (.int .i64 (remI (n + n') 1048576)) ∧ Below w.heap.size w w' :=
  szWatch_any tm A A' n c n' c' 1048576 w hn hn' (Nat.le_refl _)
theorem noW_small : noW.2.1.length ≤ 1048576 ∧ noW.2.2.1.length ≤ 2000000 := ⟨by simp [noW], by simp [noW]⟩
theorem ifW_small {tm : Int} {is : List Int} {ls : List (Int × Int × Int)} : (ifW tm is ls).2.1.length ≤ 1048576 ∧ (ifW tm is ls).2.2.1.length ≤ 2000000 := by
  cases e : wchB tm is ls with
  | false => rw [ifW_none e]; exact noW_small
  | true =>
    rw [ifW_some e]
    obtain ⟨_, h1, h2, _⟩ := wchB_true e
    constructor <;> simp only <;> omega
theorem passW_small {tm b : Int} {is : List Int} {ls : List (Int × Int × Int)} : (passW tm is ls b).2.1.length ≤ 1048576 ∧ (passW tm is ls b).2.2.1.length ≤ 2000000 := by
  unfold passW
  cases (wchB tm is ls && inB b 0 100000)
  · exact noW_small
  · exact ifW_small
theorem askW_small {tm a b : Int} {is : List Int} {ls : List (Int × Int × Int)} : (askW tm is ls a b).2.1.length ≤ 1048576 ∧ (askW tm is ls a b).2.2.1.length ≤ 2000000 := by
  unfold askW
  cases (hasW tm is ls a && (inB b 1 100 && freeW a (lowW tm (offW is a)) ls))
  · exact noW_small
  · exact ifW_small
theorem driftW_small {tm a b : Int} {is : List Int} {ls : List (Int × Int × Int)} : (driftW tm is ls a b).2.1.length ≤ 1048576 ∧ (driftW tm is ls a b).2.2.1.length ≤ 2000000 := by
  unfold driftW
  cases e : (hasW tm is ls a && inB b (-5) 5)
  · exact noW_small
  · simp only [Bool.and_eq_true] at e
    obtain ⟨_, h1, h2, _⟩ := wchB_true (hasW_true e.1).1
    simp only [cond_true, List.length_set]
    omega
theorem giveW_small {tm a : Int} {is : List Int} {ls : List (Int × Int × Int)} : (giveW tm is ls a).2.1.length ≤ 1048576 ∧ (giveW tm is ls a).2.2.1.length ≤ 2000000 := by
  unfold giveW
  cases e : (hasW tm is ls a && holdW a (highW tm (offW is a)) ls)
  · exact noW_small
  · simp only [Bool.and_eq_true] at e
    obtain ⟨_, h1, h2, _⟩ := wchB_true (hasW_true e.1).1
    simp only [cond_true, List.length_map]
    omega
end Go.Proofs.Ytoanigbjdfgjcaa.Wt
