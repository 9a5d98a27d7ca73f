/-
  FnFree's walk with its draw.
-/
import Derived.Test.YtpppgihoekfmoaaWtDb
import Derived.Test.YtpppgihoekfmoaaWtGf
import Derived.Test.YtpppgihoekfmoaaWtDo
namespace Go.Proofs.Ytpppgihoekfmoaa.Wt
open Go.RowKit
set_option linter.unusedVariables false
theorem oddIs2 : OddIs := fun g l A c q w h hl hq => l10Odd_any g l A c q w h hl hq
theorem fnFree_full (w : World) (A : Option Addr) (n c : Nat) (code : List UInt8) (hn : code.length = n) (hA : BytesAt w A code) (hmx : n ≤ maxLen) :
    Calls Try.prog 4 #[.slice A n c] w fun e w' => e = .returned (.bool true) ∧ Below w.heap.size w w' :=
  fnFree_walk w A n c fun h => drawWhen_of oddIs2 A n c code w hn hA (by omega)
end Go.Proofs.Ytpppgihoekfmoaa.Wt
