/-
  What a law is handed, as data: slices of locks.
-/
import Derived.Test.YtlfdefjkfacngaaSeen
import Derived.Test.YtlfdefjkfacngaaLkMem
namespace Go.Proofs.Ytlfdefjkfacngaa.Lk
open Go.ChangeShapes Go.WideShapes Go.RowKit Go.Deep Go.Joins
set_option linter.unusedVariables false
section
variable {H : Type} {enc : TypeId × Value → H} {w : World} {base : Nat} {spare : Nat → Bool} {held : Bool}
theorem view_lks {fuel len cap : Nat} {a : Option Addr} {x : DataW H × List MemPlace} (h : DataW.trod enc Try.prog w base spare held fuel 48 [.slice a len cap] = some x) :
    ∃ ws : List LK, ws.length = len ∧ len ≤ maxLen ∧ LksAt w a ws := by
  obtain ⟨a', len', cap', L, hcs, hlen, hmx, hrow, hfs⟩ := row_view Try.underlying48 Try.underlying52 (by kernel_rfl) (by kernel_rfl) (by simp) h
  simp only [List.cons.injEq, Value.slice.injEq, and_true] at hcs
  obtain ⟨rfl, rfl, rfl⟩ := hcs
  obtain ⟨xs, h1, h2, h3⟩ := choose_list (α := LK) (Q := fun x => x.1.size ≤ maxLen) (f := lkCs) L fun r hr => by
    obtain ⟨hl, hf⟩ := hfs r hr
    obtain ⟨v0, y0, n0, e0, t0⟩ := hf 0 _ rfl
    obtain ⟨v1, y1, n1, e1, t1⟩ := hf 1 _ rfl
    obtain ⟨v2, y2, n2, e2, t2⟩ := hf 2 _ rfl
    obtain ⟨s0, k0, _, z0⟩ := DataW.trod_string Try.underlying9 t0
    obtain ⟨s1, k1, _⟩ := DataW.trod_int Try.underlying3 t1
    obtain ⟨s2, k2, _⟩ := DataW.trod_bool Try.underlying4 t2
    simp only [List.cons.injEq, and_true] at k0 k1 k2
    subst k0 k1 k2
    exact ⟨(s0, s1, s2), z0, list3 hl e0 e1 e2⟩
  refine ⟨xs, h1.trans hlen, hmx, ?_, by rw [h1, hlen]; exact hmx, h3⟩
  unfold LksB
  rw [h2]
  exact hrow.toB

theorem view_lock {fuel : Nat} {cs : Array Value} {x : DataW H × List MemPlace} (h : DataW.trod enc Try.prog w base spare held fuel 52 cs.toList = some x) :
    ∃ (s : ByteArray) (t : Int) (g : Bool), cs = #[.string s, .int .i64 t, .bool g] ∧ s.size ≤ maxLen ∧ (Lit.int .i64 t).wf = true := by
  obtain ⟨hl, hf⟩ := fields_view Try.underlying52 (by kernel_rfl) (by kernel_rfl) h
  obtain ⟨v0, y0, n0, e0, t0⟩ := hf 0 _ rfl
  obtain ⟨v1, y1, n1, e1, t1⟩ := hf 1 _ rfl
  obtain ⟨v2, y2, n2, e2, t2⟩ := hf 2 _ rfl
  obtain ⟨s0, k0, _, z0⟩ := DataW.trod_string Try.underlying9 t0
  obtain ⟨s1, k1, w1⟩ := DataW.trod_int Try.underlying3 t1
  obtain ⟨s2, k2, _⟩ := DataW.trod_bool Try.underlying4 t2
  simp only [List.cons.injEq, and_true] at k0 k1 k2
  subst k0 k1 k2
  have hlist := list3 hl e0 e1 e2
  refine ⟨s0, s1, s2, ?_, z0, w1.2⟩
  obtain ⟨l⟩ := cs
  simp only at hlist
  rw [hlist]
end
end Go.Proofs.Ytlfdefjkfacngaa.Lk
