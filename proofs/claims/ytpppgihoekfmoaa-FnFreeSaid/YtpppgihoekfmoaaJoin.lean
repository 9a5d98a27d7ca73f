/-
  Three facts of the whole program, shown once: what joinedFacts asks of the order of its beginnings.
-/
import Derived.Test.YtpppgihoekfmoaaRows
import Derived.WalkKit
import Derived.ProofKit
import Derived.OpenShut
namespace Go.Proofs.Ytpppgihoekfmoaa
set_option linter.unusedVariables false

theorem mayEnter1 : Try.pinned.checked.prog.mayEnter = true := by kernel_rfl
theorem lifts1 : Try.pinned.checked.prog.liftsFinal = ({ program := "", sum := "", func := "", spec := "", apart := false } : OpenClaim).lifted := by kernel_rfl
theorem make1 : Try.pinned.checked.prog.make = some ({ program := "", sum := "", func := "", spec := "", apart := false } : OpenClaim).make := by kernel_rfl
end Go.Proofs.Ytpppgihoekfmoaa
