/-
  Contracts for the laws' helpers that copy what they are handed: toClock, toLease, toWatchAct, toClockS, toLeaseS, toWatchActS, toWatch.
-/
import Derived.Test.YtpppgihoekfmoaaWtMem
namespace Go.Proofs.Ytpppgihoekfmoaa.Wt
open Go.RowKit
set_option linter.unusedVariables false
set_option linter.unusedSimpArgs false

def ToCk (is : List Int) (n : Nat) (w : World) (e : Ending) (w' : World) : Prop :=
  ∃ g, e = .returned (.slice (some ⟨g, 0, none⟩) n n) ∧ OwnCk w' w.heap.size w'.heap.size (some ⟨g, 0, none⟩) n is ∧ Below w.heap.size w w'
def ToLe (ls : List (Int × Int × Int)) (n : Nat) (w : World) (e : Ending) (w' : World) : Prop :=
  ∃ g, e = .returned (.slice (some ⟨g, 0, none⟩) n n) ∧ OwnLe w' w.heap.size w'.heap.size (some ⟨g, 0, none⟩) n ls ∧ Below w.heap.size w w'
def ToAc (ls : List (Int × Int × Int)) (n : Nat) (w : World) (e : Ending) (w' : World) : Prop :=
  ∃ g, e = .returned (.slice (some ⟨g, 0, none⟩) n n) ∧ OwnAc w' w.heap.size w'.heap.size (some ⟨g, 0, none⟩) n ls ∧ Below w.heap.size w w'

/-- A watch that a call hands back: its slices in blocks of its own. -/
def WtV (tm : Int) (is : List Int) (ls : List (Int × Int × Int)) (w : World) (e : Ending) (w' : World) : Prop :=
  ∃ A c A' c', e = .returned (.agg #[.int .i64 tm, .slice A is.length c, .slice A' ls.length c']) ∧ OwnCk w' w.heap.size w'.heap.size A c is ∧ OwnLe w' w.heap.size w'.heap.size A' c' ls ∧ Below w.heap.size w w'

end Go.Proofs.Ytpppgihoekfmoaa.Wt
