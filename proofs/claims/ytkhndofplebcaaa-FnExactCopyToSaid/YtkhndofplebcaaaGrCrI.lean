/-
  Contracts for CrashRep and StartRep of the program: the change through a pointer, its closure, changeGroup.
-/
import Derived.Test.YtkhndofplebcaaaGrChM
import Derived.Test.YtkhndofplebcaaaGrOw
import Derived.Test.YtkhndofplebcaaaGrGd
namespace Go.Proofs.Ytkhndofplebcaaa.Gr
open Go.RowKit CM
set_option linter.unusedVariables false
set_option linter.unusedSimpArgs false

/-- What a change through a pointer leaves: refused, or done. -/
def ChPost (yes : Bool) (vs : List RD) (tm ld' : Int) (b0 lo hi n c : Nat) (A : Option Addr) (w : World) (e : Ending) (w' : World) : Prop :=
  e = .returned (.bool yes) ∧ Below lo w w' ∧ (yes = true → ∃ gs', gs'.map rdat = vs ∧ OwnK KR w' lo hi A c gs' ∧ w'.heap[b0]? = some (.cells #[.slice A n c, .int .i64 tm, .int .i64 ld'] 45 (0, 0)))

end Go.Proofs.Ytkhndofplebcaaa.Gr
