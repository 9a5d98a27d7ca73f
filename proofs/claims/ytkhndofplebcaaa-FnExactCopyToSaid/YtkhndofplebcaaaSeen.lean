/-
  What a law is handed, as data: slices of writes and of cells.
-/
import Derived.Test.YtkhndofplebcaaaView
import Derived.Test.YtkhndofplebcaaaMem
namespace Go.Proofs.Ytkhndofplebcaaa
open Go.ChangeShapes Go.WideShapes Go.RowKit Go.Deep Go.Joins
set_option linter.unusedVariables false

/-- Each element of a list of cells comes from data. -/
theorem choose_list {α : Type} {Q : α → Prop} {f : α → List Value} : ∀ (L : List (List Value)), (∀ r ∈ L, ∃ a, Q a ∧ r = f a) → ∃ xs : List α, xs.length = L.length ∧ xs.map f = L ∧ ∀ a ∈ xs, Q a
  | [], _ => ⟨[], rfl, rfl, by simp⟩
  | r :: L, h => by
    obtain ⟨a, ha, hr⟩ := h r (by simp)
    obtain ⟨xs, h1, h2, h3⟩ := choose_list L fun r hr => h r (List.mem_cons_of_mem _ hr)
    refine ⟨a :: xs, by simp [h1], by simp [h2, hr], fun b hb => ?_⟩
    rcases List.mem_cons.1 hb with rfl | hb
    · exact ha
    · exact h3 b hb

theorem list3 {r : List Value} {a b c : Value} (hl : r.length = 3) (h0 : r[0]? = some a) (h1 : r[1]? = some b) (h2 : r[2]? = some c) : r = [a, b, c] := by
  rcases r with _ | ⟨x, _ | ⟨y, _ | ⟨z, _ | ⟨u, r⟩⟩⟩⟩ <;> simp_all
theorem list2 {r : List Value} {a b : Value} (hl : r.length = 2) (h0 : r[0]? = some a) (h1 : r[1]? = some b) : r = [a, b] := by
  rcases r with _ | ⟨x, _ | ⟨y, _ | ⟨u, r⟩⟩⟩ <;> simp_all

section
variable {H : Type} {enc : TypeId × Value → H} {w : World} {base : Nat} {spare : Nat → Bool} {held : Bool}

theorem view_writes {fuel len cap : Nat} {a : Option Addr} {x : DataW H × List MemPlace} (h : DataW.trod enc Try.prog w base spare held fuel 23 [.slice a len cap] = some x) :
    ∃ ws : List (ByteArray × ByteArray × Bool), ws.length = len ∧ len ≤ maxLen ∧ WritesAt w a ws := by
  obtain ⟨a', len', cap', L, hcs, hlen, hmx, hrow, hfs⟩ := row_view Try.underlying23 Try.underlying141 (by kernel_rfl) (by kernel_rfl) (by simp) h
  simp only [List.cons.injEq, Value.slice.injEq, and_true] at hcs
  obtain ⟨rfl, rfl, rfl⟩ := hcs
  obtain ⟨xs, h1, h2, h3⟩ := choose_list (α := (ByteArray × ByteArray × Bool)) (Q := fun x => x.1.size ≤ maxLen ∧ x.2.1.size ≤ maxLen) (f := wrCs) L fun r hr => by
    obtain ⟨hl, hf⟩ := hfs r hr
    obtain ⟨v0, y0, n0, e0, t0⟩ := hf 0 _ rfl
    obtain ⟨v1, y1, n1, e1, t1⟩ := hf 1 _ rfl
    obtain ⟨v2, y2, n2, e2, t2⟩ := hf 2 _ rfl
    obtain ⟨s0, k0, _, z0⟩ := DataW.trod_string Try.underlying9 t0
    obtain ⟨s1, k1, _, z1⟩ := DataW.trod_string Try.underlying9 t1
    obtain ⟨s2, k2, _⟩ := DataW.trod_bool Try.underlying4 t2
    simp only [List.cons.injEq, and_true] at k0 k1 k2
    subst k0 k1 k2
    exact ⟨(s0, s1, s2), ⟨z0, z1⟩, list3 hl e0 e1 e2⟩
  refine ⟨xs, h1.trans hlen, hmx, ?_, by rw [h1, hlen]; exact hmx, h3⟩
  unfold WritesB
  rw [h2]
  exact hrow.toB

theorem trod_slice_form {fuel : Nat} {t e : TypeId} {v : Value} {x : DataW H × List MemPlace} (ht : Try.prog.underlying t = some (.slice e)) (h : DataW.trod enc Try.prog w base spare held fuel t [v] = some x) : ∃ a len cap, v = .slice a len cap := by
  rcases open_slice ht h with ⟨hcs, _⟩ | ⟨a', len, cap, m, n, D, Pl, hcs, _⟩
  · simp only [List.cons.injEq, and_true] at hcs; exact ⟨_, _, _, hcs⟩
  · simp only [List.cons.injEq, and_true] at hcs; exact ⟨_, _, _, hcs⟩

end
end Go.Proofs.Ytkhndofplebcaaa
