/-
  Contracts for the laws' helpers that compare lists, at the same data: eqVerS, eqWriteS, eqCellS.
-/
import Derived.Test.YtcjejbnogghkcaaTo
namespace Go.Proofs.Ytcjejbnogghkcaa
open Go.RowKit
set_option linter.unusedVariables false

end Go.Proofs.Ytcjejbnogghkcaa
