/-
  What a law over watches is handed, as data.
-/
import Derived.Test.YtoanigbjdfgjcaaSeen
import Derived.Test.YtoanigbjdfgjcaaWtMem
import Derived.ChangeSlices
namespace Go.Proofs.Ytoanigbjdfgjcaa.Wt
open Go.ChangeShapes Go.WideShapes Go.RowKit Go.Deep Go.Joins
set_option linter.unusedVariables false

section
variable {H : Type} {enc : TypeId × Value → H} {w : World} {base : Nat} {spare : Nat → Bool} {held : Bool}
theorem list1W {r : List Value} {a : Value} (hl : r.length = 1) (h0 : r[0]? = some a) : r = [a] := by
  rcases r with _ | ⟨x, _ | ⟨y, r⟩⟩ <;> simp_all
theorem list3W {r : List Value} {a b c : Value} (hl : r.length = 3) (h0 : r[0]? = some a) (h1 : r[1]? = some b) (h2 : r[2]? = some c) : r = [a, b, c] := by
  rcases r with _ | ⟨x, _ | ⟨y, _ | ⟨z, _ | ⟨o, r⟩⟩⟩⟩ <;> simp_all

theorem view_cks {fuel len cap : Nat} {a : Option Addr} {x : DataW H × List MemPlace} (h : DataW.trod enc Try.prog w base spare held fuel 22 [.slice a len cap] = some x) :
    ∃ ls : List Int, ls.length = len ∧ len ≤ maxLen ∧ CksB w w.heap.size a ls := by
  obtain ⟨a', len', cap', L, hcs, hlen, hmx, hrow, hfs⟩ := row_view Try.underlying22 Try.underlying81 (by kernel_rfl) (by kernel_rfl) (by simp) h
  simp only [List.cons.injEq, Value.slice.injEq, and_true] at hcs
  obtain ⟨rfl, rfl, rfl⟩ := hcs
  obtain ⟨xs, h1, h2, h3⟩ := choose_list (α := Int) (Q := fun _ => True) (f := ckCs) L fun r hr => by
    obtain ⟨hl, hf⟩ := hfs r hr
    obtain ⟨v0, y0, n0, e0, t0⟩ := hf 0 _ rfl
    obtain ⟨s0, k0, _⟩ := DataW.trod_int Try.underlying3 t0
    simp only [List.cons.injEq, and_true] at k0
    subst k0
    exact ⟨s0, trivial, list1W hl e0⟩
  refine ⟨xs, h1.trans hlen, hmx, ?_⟩
  unfold CksB
  rw [h2]
  exact hrow.toB

theorem view_les {fuel len cap : Nat} {a : Option Addr} {x : DataW H × List MemPlace} (h : DataW.trod enc Try.prog w base spare held fuel 23 [.slice a len cap] = some x) :
    ∃ ls : List (Int × Int × Int), ls.length = len ∧ len ≤ maxLen ∧ LesB w w.heap.size a ls := by
  obtain ⟨a', len', cap', L, hcs, hlen, hmx, hrow, hfs⟩ := row_view Try.underlying23 Try.underlying134 (by kernel_rfl) (by kernel_rfl) (by simp) h
  simp only [List.cons.injEq, Value.slice.injEq, and_true] at hcs
  obtain ⟨rfl, rfl, rfl⟩ := hcs
  obtain ⟨xs, h1, h2, h3⟩ := choose_list (α := (Int × Int × Int)) (Q := fun _ => True) (f := leCs) L fun r hr => by
    obtain ⟨hl, hf⟩ := hfs r hr
    obtain ⟨v0, y0, n0, e0, t0⟩ := hf 0 _ rfl
    obtain ⟨v1, y1, n1, e1, t1⟩ := hf 1 _ rfl
    obtain ⟨v2, y2, n2, e2, t2⟩ := hf 2 _ rfl
    obtain ⟨s0, k0, _⟩ := DataW.trod_int Try.underlying3 t0
    obtain ⟨s1, k1, _⟩ := DataW.trod_int Try.underlying3 t1
    obtain ⟨s2, k2, _⟩ := DataW.trod_int Try.underlying3 t2
    simp only [List.cons.injEq, and_true] at k0 k1 k2
    subst k0 k1 k2
    exact ⟨(s0, s1, s2), trivial, list3W hl e0 e1 e2⟩
  refine ⟨xs, h1.trans hlen, hmx, ?_⟩
  unfold LesB
  rw [h2]
  exact hrow.toB

theorem view_acts {fuel len cap : Nat} {a : Option Addr} {x : DataW H × List MemPlace} (h : DataW.trod enc Try.prog w base spare held fuel 56 [.slice a len cap] = some x) :
    ∃ ls : List (Int × Int × Int), ls.length = len ∧ len ≤ maxLen ∧ LesB w w.heap.size a ls := by
  obtain ⟨a', len', cap', L, hcs, hlen, hmx, hrow, hfs⟩ := row_view Try.underlying56 Try.underlying120 (by kernel_rfl) (by kernel_rfl) (by simp) h
  simp only [List.cons.injEq, Value.slice.injEq, and_true] at hcs
  obtain ⟨rfl, rfl, rfl⟩ := hcs
  obtain ⟨xs, h1, h2, h3⟩ := choose_list (α := (Int × Int × Int)) (Q := fun _ => True) (f := leCs) L fun r hr => by
    obtain ⟨hl, hf⟩ := hfs r hr
    obtain ⟨v0, y0, n0, e0, t0⟩ := hf 0 _ rfl
    obtain ⟨v1, y1, n1, e1, t1⟩ := hf 1 _ rfl
    obtain ⟨v2, y2, n2, e2, t2⟩ := hf 2 _ rfl
    obtain ⟨s0, k0, _⟩ := DataW.trod_int Try.underlying3 t0
    obtain ⟨s1, k1, _⟩ := DataW.trod_int Try.underlying3 t1
    obtain ⟨s2, k2, _⟩ := DataW.trod_int Try.underlying3 t2
    simp only [List.cons.injEq, and_true] at k0 k1 k2
    subst k0 k1 k2
    exact ⟨(s0, s1, s2), trivial, list3W hl e0 e1 e2⟩
  refine ⟨xs, h1.trans hlen, hmx, ?_⟩
  unfold LesB
  rw [h2]
  exact hrow.toB

theorem view_watch {fuel : Nat} {cs : Array Value} {x : DataW H × List MemPlace} (h : DataW.trod enc Try.prog w base spare held fuel 25 cs.toList = some x) :
    ∃ (tm : Int) (A : Option Addr) (n c : Nat) (is : List Int) (A' : Option Addr) (n' c' : Nat) (ls : List (Int × Int × Int)), cs = #[.int .i64 tm, .slice A n c, .slice A' n' c'] ∧ (Lit.int .i64 tm).wf = true ∧ is.length = n ∧ CksB w w.heap.size A is ∧ n ≤ maxLen ∧ ls.length = n' ∧ LesB w w.heap.size A' ls ∧ n' ≤ maxLen := by
  obtain ⟨hl, hf⟩ := fields_view Try.underlying25 (by kernel_rfl) (by kernel_rfl) h
  obtain ⟨v0, y0, n0, e0, t0⟩ := hf 0 _ rfl
  obtain ⟨v1, y1, n1, e1, t1⟩ := hf 1 _ rfl
  obtain ⟨v2, y2, n2, e2, t2⟩ := hf 2 _ rfl
  obtain ⟨s0, k0, w0⟩ := DataW.trod_int Try.underlying3 t0
  obtain ⟨a1, l1, c1, rfl⟩ := trod_slice_form Try.underlying22 t1
  obtain ⟨a2, l2, c2, rfl⟩ := trod_slice_form Try.underlying23 t2
  obtain ⟨is, g1, g2, g3⟩ := view_cks t1
  obtain ⟨ls, g4, g5, g6⟩ := view_les t2
  simp only [List.cons.injEq, and_true] at k0
  subst k0
  have hlist := list3W hl e0 e1 e2
  refine ⟨s0, a1, l1, c1, is, a2, l2, c2, ls, ?_, w0.2, g1, g3, g2, g4, g6, g5⟩
  obtain ⟨l⟩ := cs
  simp only at hlist
  rw [hlist]
end
end Go.Proofs.Ytoanigbjdfgjcaa.Wt
