/-
  What an answer of keys is, valid or not, in one form.
-/
import Derived.Test.YtohkpcgekoipbaaKeysI
namespace Go.Proofs.Ytohkpcgekoipbaa
open Go.RowKit CM
set_option linter.unusedVariables false

def KRes (v : Bool) (R rs ks : List ByteArray) : Prop := (v = false ∧ R = []) ∨ (v = true ∧ KeysRel R rs ks)
theorem KRes.unique {v : Bool} {R R' rs ks : List ByteArray} (h : KRes v R rs ks) (h' : KRes v R' rs ks) : R = R' := by
  rcases h with ⟨rfl, rfl⟩ | ⟨rfl, h⟩
  · rcases h' with ⟨_, rfl⟩ | ⟨h', _⟩
    · rfl
    · cases h'
  · rcases h' with ⟨h', _⟩ | ⟨_, h'⟩
    · cases h'
    · exact h.unique h'
def SpecU (v : Bool) (rs ks : List ByteArray) (w : World) (e : Ending) (w' : World) : Prop :=
  ∃ A c R, e = .returned (.tuple #[.slice A R.length c, .bool v]) ∧ StrsB w' w'.heap.size A R ∧ KRes v R rs ks ∧ Below w.heap.size w w'
def ImplU (v : Bool) (rs ks : List ByteArray) (w : World) (e : Ending) (w' : World) : Prop :=
  ∃ A c R, e = .returned (.tuple #[.slice A R.length c, .bool v]) ∧ OwnS w' w.heap.size w'.heap.size A c R ∧ KRes v R rs ks ∧ R.length ≤ 1000 ∧ Below w.heap.size w w'
end Go.Proofs.Ytohkpcgekoipbaa
