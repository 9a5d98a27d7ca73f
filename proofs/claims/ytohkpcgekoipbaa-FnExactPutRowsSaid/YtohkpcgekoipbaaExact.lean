/-
  What the walks of exact laws need besides: what is left of a size, as a number; only the block of a list is written.
-/
import Derived.Test.YtohkpcgekoipbaaMark
namespace Go.Proofs.Ytohkpcgekoipbaa
open Go.RowKit
set_option linter.unusedVariables false

theorem remI_nat {t l : Nat} (h : t ≤ l) : remI t l = ((l - t : Nat) : Int) := by rw [remI_yes h]; omega
theorem MidA.since {A : Option Addr} {w w' : World} (h : MidA A w w') {B : Nat} (hA : ∀ x, A = some x → B ≤ x.block) (hB : B ≤ w.heap.size) : Below B w w' :=
  ⟨h.1, h.2.1, h.2.2.1, h.2.2.2.1, fun k hk => h.2.2.2.2 k (by omega) fun x hx e => by have := hA x hx; omega⟩
end Go.Proofs.Ytohkpcgekoipbaa
