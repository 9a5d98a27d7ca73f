/-
  A watch as an answer.
-/
import Derived.Test.YtpppgihoekfmoaaWtOwn
import Derived.Test.YtpppgihoekfmoaaWtGoodM
namespace Go.Proofs.Ytpppgihoekfmoaa.Wt
open Go.RowKit
set_option linter.unusedVariables false
set_option linter.unusedSimpArgs false

/-- A watch, or none, as an answer: its slices in blocks of the call's own. -/
def WAPost (a : Int × List Int × List (Int × Int × Int) × Bool) (w : World) (e : Ending) (w' : World) : Prop :=
  ∃ A c A' c', e = .returned (.tuple #[.agg #[.int .i64 a.1, .slice A a.2.1.length c, .slice A' a.2.2.1.length c'], .bool a.2.2.2]) ∧ OwnCk w' w.heap.size w'.heap.size A c a.2.1 ∧ OwnLe w' w.heap.size w'.heap.size A' c' a.2.2.1 ∧ Below w.heap.size w w'
theorem WAPost_un (an : Int) (ai : List Int) (al : List (Int × Int × Int)) (ok : Bool) (w : World) : WAPost (an, ai, al, ok) w = fun e w' => ∃ A c A' c', e = .returned (.tuple #[.agg #[.int .i64 an, .slice A ai.length c, .slice A' al.length c'], .bool ok]) ∧ OwnCk w' w.heap.size w'.heap.size A c ai ∧ OwnLe w' w.heap.size w'.heap.size A' c' al ∧ Below w.heap.size w w' := rfl
theorem noW_post {w w' : World} (hb : Below w.heap.size w w') : WAPost noW w (.returned (.tuple #[.agg #[.int .i64 0, .slice none 0 0, .slice none 0 0], .bool false])) w' :=
  ⟨none, 0, none, 0, rfl, .inl ⟨rfl, rfl, rfl⟩, .inl ⟨rfl, rfl, rfl⟩, hb⟩
theorem yesW_post {tm : Int} {is : List Int} {ls : List (Int × Int × Int)} {w w' : World} {A A' : Option Addr} {c c' n n' : Nat} (hn : is.length = n) (hn' : ls.length = n') (hi : OwnCk w' w.heap.size w'.heap.size A c is) (hl : OwnLe w' w.heap.size w'.heap.size A' c' ls) (hb : Below w.heap.size w w') : WAPost (tm, is, ls, true) w (.returned (.tuple #[.agg #[.int .i64 tm, .slice A n c, .slice A' n' c'], .bool true])) w' :=
  ⟨A, c, A', c', by simp only [hn, hn'], hi, hl, hb⟩
end Go.Proofs.Ytpppgihoekfmoaa.Wt
