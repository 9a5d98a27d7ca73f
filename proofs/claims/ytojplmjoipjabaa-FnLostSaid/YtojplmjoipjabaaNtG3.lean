/-
  DelayOne of the model.
-/
import Derived.Test.YtojplmjoipjabaaNtG2
namespace Go.Proofs.Ytojplmjoipjabaa.Nt
open Go.RowKit
set_option linter.unusedVariables false
set_option linter.unusedSimpArgs false

end Go.Proofs.Ytojplmjoipjabaa.Nt
