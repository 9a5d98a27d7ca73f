/-
  What a law is handed, as data: slices of writes and of cells.
-/
import Derived.Test.YtlfdefjkfacngaaView
import Derived.Test.YtlfdefjkfacngaaMem
namespace Go.Proofs.Ytlfdefjkfacngaa
open Go.ChangeShapes Go.WideShapes Go.RowKit Go.Deep Go.Joins
set_option linter.unusedVariables false

/-- Each element of a list of cells comes from data. -/
theorem choose_list {α : Type} {Q : α → Prop} {f : α → List Value} : ∀ (L : List (List Value)), (∀ r ∈ L, ∃ a, Q a ∧ r = f a) → ∃ xs : List α, xs.length = L.length ∧ xs.map f = L ∧ ∀ a ∈ xs, Q a
  | [], _ => ⟨[], rfl, rfl, by simp⟩
  | r :: L, h => by
    obtain ⟨a, ha, hr⟩ := h r (by simp)
    obtain ⟨xs, h1, h2, h3⟩ := choose_list L fun r hr => h r (List.mem_cons_of_mem _ hr)
    refine ⟨a :: xs, by simp [h1], by simp [h2, hr], fun b hb => ?_⟩
    rcases List.mem_cons.1 hb with rfl | hb
    · exact ha
    · exact h3 b hb

theorem list3 {r : List Value} {a b c : Value} (hl : r.length = 3) (h0 : r[0]? = some a) (h1 : r[1]? = some b) (h2 : r[2]? = some c) : r = [a, b, c] := by
  rcases r with _ | ⟨x, _ | ⟨y, _ | ⟨z, _ | ⟨u, r⟩⟩⟩⟩ <;> simp_all
theorem list2 {r : List Value} {a b : Value} (hl : r.length = 2) (h0 : r[0]? = some a) (h1 : r[1]? = some b) : r = [a, b] := by
  rcases r with _ | ⟨x, _ | ⟨y, _ | ⟨u, r⟩⟩⟩ <;> simp_all

section
variable {H : Type} {enc : TypeId × Value → H} {w : World} {base : Nat} {spare : Nat → Bool} {held : Bool}

theorem trod_slice_form {fuel : Nat} {t e : TypeId} {v : Value} {x : DataW H × List MemPlace} (ht : Try.prog.underlying t = some (.slice e)) (h : DataW.trod enc Try.prog w base spare held fuel t [v] = some x) : ∃ a len cap, v = .slice a len cap := by
  rcases open_slice ht h with ⟨hcs, _⟩ | ⟨a', len, cap, m, n, D, Pl, hcs, _⟩
  · simp only [List.cons.injEq, and_true] at hcs; exact ⟨_, _, _, hcs⟩
  · simp only [List.cons.injEq, and_true] at hcs; exact ⟨_, _, _, hcs⟩

end
end Go.Proofs.Ytlfdefjkfacngaa
