/-
  Contracts for the laws' helpers heldVerS, heldWriteS: what the laws laid is found again.
-/
import Derived.Test.YtlfdefjkfacngaaMark
import Derived.Test.YtlfdefjkfacngaaBel
namespace Go.Proofs.Ytlfdefjkfacngaa
open Go.RowKit
set_option linter.unusedVariables false

theorem mVers_at (k n j : Nat) (h : j < (mVers k n).length) : (mVers k n)[j] = mVer (k + 3 * j) := by simp [mVers]
theorem mWrs_at (k n j : Nat) (h : j < (mWrs k n).length) : (mWrs k n)[j] = mWr (k + 3 * j) := by simp [mWrs]

theorem third_eq (q : Nat) : (!decide (((q : Int) + 2) % 3 = 0) == (((q : Int) + 1 + 1) % 3 == 0)) = false := by
  rw [show (q : Int) + 1 + 1 = (q : Int) + 2 from by omega, show (((q : Int) + 2) % 3 == 0) = decide (((q : Int) + 2) % 3 = 0) from rfl]
  cases decide (((q : Int) + 2) % 3 = 0) <;> rfl

end Go.Proofs.Ytlfdefjkfacngaa
