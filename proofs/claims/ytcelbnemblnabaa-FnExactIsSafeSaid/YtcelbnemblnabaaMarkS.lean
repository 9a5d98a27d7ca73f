/-
  Contracts for the laws' helpers that mark a slice of strings and ask for the marks: markStringS, heldStringS.
-/
import Derived.Test.YtcelbnemblnabaaStr
import Derived.Test.YtcelbnemblnabaaHeld
namespace Go.Proofs.Ytcelbnemblnabaa
open Go.RowKit
set_option linter.unusedVariables false

def mStrs (k n : Nat) : List ByteArray := (List.range n).map fun i => mark (k + i)
theorem mStrs_len (k n : Nat) : (mStrs k n).length = n := by simp [mStrs]
theorem mStrs_at (k n j : Nat) (h : j < (mStrs k n).length) : (mStrs k n)[j] = mark (k + j) := by simp [mStrs]
def mFlatS (k n : Nat) : List Value := ((mStrs k n).map strCs).flatten
theorem mFlatS_len (k n : Nat) : (mFlatS k n).length = n := by
  unfold mFlatS; rw [flat_len (sz := 1) (strCs_len _)]; simp [mStrs_len]
theorem mFlatS_succ (k n : Nat) : mFlatS k (n + 1) = mFlatS k n ++ [.string (mark (k + n))] := by
  unfold mFlatS mStrs
  rw [List.range_succ, List.map_append, List.map_append, List.flatten_append]
  rfl

end Go.Proofs.Ytcelbnemblnabaa
