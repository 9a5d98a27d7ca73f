/-
  Contracts for the comparison of cells: SameCells of the program (slices.EqualFunc, slices.Equal) and of the model.
-/
import Derived.Test.YtkhndofplebcaaaMem
import Derived.Test.YtkhndofplebcaaaBel
import Derived.Laws.StructEq
import Derived.ChangeKeysEq
namespace Go.Proofs.Ytkhndofplebcaaa
open Go.RowKit CM
set_option linter.unusedVariables false

theorem fieldsW' : ((Try.prog.fieldsOf 121).toList.map fun f => (f.name, f.type, f.offset)) = [("Key", 9, 0), ("Val", 9, 1), ("Gone", 4, 2)] := by kernel_rfl
theorem fields3 {fs : List Field} {a b c : String × TypeId × Nat} (h : fs.map (fun f => (f.name, f.type, f.offset)) = [a, b, c]) :
    ∃ f g k, fs = [f, g, k] ∧ (f.name, f.type, f.offset) = a ∧ (g.name, g.type, g.offset) = b ∧ (k.name, k.type, k.offset) = c := by
  have hl := congrArg List.length h
  simp only [List.length_map, List.length_cons, List.length_nil] at hl
  obtain ⟨f, g, k, rfl⟩ : ∃ f g k, fs = [f, g, k] := by
    rcases fs with _ | ⟨f, _ | ⟨g, _ | ⟨k, _ | ⟨u, l⟩⟩⟩⟩
    · simp at hl
    · simp at hl
    · simp at hl
    · exact ⟨f, g, k, rfl⟩
    · simp at hl
  simp only [List.map_cons, List.map_nil, List.cons.injEq, and_true] at h
  exact ⟨f, g, k, rfl, h.1, h.2.1, h.2.2⟩

theorem ver_same {a b : Int} {s t : ByteArray} {g h : Bool} (e : (a == b && (s.toList == t.toList && g == h)) = true) : ((a, s, g) : (Int × ByteArray × Bool)) = (b, t, h) := by
  simp only [Bool.and_eq_true, beq_iff_eq] at e
  obtain ⟨rfl, e2, rfl⟩ := e
  rw [list_inj e2]
theorem ver_other {a b : Int} {s t : ByteArray} {g h : Bool} (e : (a == b && (s.toList == t.toList && g == h)) = false) : ((a, s, g) : (Int × ByteArray × Bool)) ≠ (b, t, h) := by
  intro e2
  simp only [Prod.mk.injEq] at e2
  obtain ⟨rfl, rfl, rfl⟩ := e2
  simp at e
theorem take_eq_succ {α : Type} {l m : List α} {k : Nat} (h : l.take k = m.take k) (h1 : k < l.length) (h2 : k < m.length) (he : l[k] = m[k]) : l.take (k + 1) = m.take (k + 1) := by
  rw [List.take_succ_eq_append_getElem h1, List.take_succ_eq_append_getElem h2, h, he]
theorem ne_at {α : Type} {l m : List α} {k : Nat} (h1 : k < l.length) (h2 : k < m.length) (he : l[k] ≠ m[k]) : l ≠ m := fun e => by subst e; exact he rfl
theorem take_eq_all {α : Type} {l m : List α} {k : Nat} (h : l.take k = m.take k) (h1 : l.length ≤ k) (h2 : m.length ≤ k) : l = m := by
  rwa [List.take_of_length_le h1, List.take_of_length_le h2] at h

end Go.Proofs.Ytkhndofplebcaaa
