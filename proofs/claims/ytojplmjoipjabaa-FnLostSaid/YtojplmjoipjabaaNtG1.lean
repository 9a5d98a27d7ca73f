/-
  LoseOne, DoubleOne, SendTo, TickNet, NewNet of the model.
-/
import Derived.Test.YtojplmjoipjabaaNtF4
import Derived.Test.YtojplmjoipjabaaNtIn
namespace Go.Proofs.Ytojplmjoipjabaa.Nt
open Go.RowKit
set_option linter.unusedVariables false
set_option linter.unusedSimpArgs false

end Go.Proofs.Ytojplmjoipjabaa.Nt
