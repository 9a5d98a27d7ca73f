/-
  Contracts for the laws' helpers that count what a list holds: szWriteS, szVerS, szCellS.
-/
import Derived.Test.YtcjejbnogghkcaaMem
namespace Go.Proofs.Ytcjejbnogghkcaa
open Go.RowKit
set_option linter.unusedVariables false

end Go.Proofs.Ytcjejbnogghkcaa
