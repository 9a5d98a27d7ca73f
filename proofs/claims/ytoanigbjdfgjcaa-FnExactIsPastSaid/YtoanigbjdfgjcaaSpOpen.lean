/-
  What the laws of chapter 2 are handed.
-/
import Derived.Test.YtoanigbjdfgjcaaSpLaws
import Derived.Below
import Derived.ChangeOld
import Derived.Lib.SmallJoins
import Derived.OpenShut
import Derived.ProofKit
import Derived.ShutString
import Derived.WalkKit
namespace Go.Proofs.Ytoanigbjdfgjcaa.Sp

open Go.ChangeShapes Go.WideShapes Go.ChangeAt Go.RowKit Go.Joins
set_option linter.unusedVariables false

theorem cellsLs : Try.prog.cellsOf 76 = 2 := by kernel_rfl
theorem cells3 : Try.prog.cellsOf 3 = 1 := by kernel_rfl
theorem cellsLc : Try.prog.cellsOf 81 = 1 := by kernel_rfl

section
variable {H : Type} {enc : TypeId × Value → H} {w : World} {base : Nat} {spare : Nat → Bool} {held : Bool}

set_option maxRecDepth 100000 in
theorem open_span {r : Reach} {b0 : Nat} {v : Value} {d : DataW H} {p : List MemPlace} (hv : Value.okWide Try.prog w r b0 76 v) (h : DataW.Trod enc Try.prog w base spare held 76 v d p) :
    ∃ a b : Int, v = .agg #[.int .i64 a, .int .i64 b] ∧ d = .agg [.lit (.int .i64 a), .lit (.int .i64 b)] ∧ p = [] ∧ (Lit.int .i64 a).wf = true ∧ (Lit.int .i64 b).wf = true := by
  obtain ⟨c0, c1, y0, y1, m, rfl, rfl, rfl, hy0, hy1⟩ := open_agg2 Try.underlying76 (by kernel_rfl) cellsLs hv h
  obtain ⟨a, e0, rfl, wa⟩ := DataW.trod_int Try.underlying3 hy0
  obtain ⟨b, e1, rfl, wb⟩ := DataW.trod_int Try.underlying3 hy1
  simp at e0 e1
  subst e0 e1
  exact ⟨a, b, rfl, rfl, rfl, wa, wb⟩

set_option maxRecDepth 100000 in
theorem shut_span {a b : Int} (wa : (Lit.int .i64 a).wf = true) (wb : (Lit.int .i64 b).wf = true) :
    DataW.Trod enc Try.prog w base spare held 76 (.agg #[.int .i64 a, .int .i64 b]) (.agg [.lit (.int .i64 a), .lit (.int .i64 b)]) [] :=
  shut_agg2 (y0 := (.lit (.int .i64 a), [])) (y1 := (.lit (.int .i64 b), [])) Try.underlying76 (by kernel_rfl) cellsLs ⟨1, by simp [DataW.trod, Try.underlying3, wa]⟩ ⟨1, by simp [DataW.trod, Try.underlying3, wb]⟩

set_option maxRecDepth 100000 in
theorem open_clock {r : Reach} {b0 : Nat} {v : Value} {d : DataW H} {p : List MemPlace} (hv : Value.okWide Try.prog w r b0 81 v) (h : DataW.Trod enc Try.prog w base spare held 81 v d p) :
    ∃ a : Int, v = .agg #[.int .i64 a] ∧ d = .agg [.lit (.int .i64 a)] ∧ p = [] ∧ (Lit.int .i64 a).wf = true := by
  obtain ⟨cs, rfl, hsz⟩ := okWide_struct Try.underlying81 hv
  obtain ⟨l⟩ := cs
  rw [cellsLc] at hsz
  obtain ⟨c0, rfl⟩ : ∃ c0, l = [c0] := by
    rcases l with _ | ⟨c, _ | ⟨c', l⟩⟩
    · simp at hsz
    · exact ⟨c, rfl⟩
    · simp at hsz
  obtain ⟨fuel, hf⟩ := h
  obtain ⟨y0, n, hx, _, h0⟩ := trod_struct1 Try.underlying81 hf
  simp only [Prod.mk.injEq] at hx
  obtain ⟨rfl, rfl⟩ := hx
  rw [cells3] at h0
  obtain ⟨a, e0, hy, wa⟩ := DataW.trod_int Try.underlying3 h0
  simp [Value.cells] at e0
  subst e0 hy
  exact ⟨a, rfl, rfl, rfl, wa⟩

set_option maxRecDepth 100000 in
theorem shut_clock {a : Int} (wa : (Lit.int .i64 a).wf = true) :
    DataW.Trod enc Try.prog w base spare held 81 (.agg #[.int .i64 a]) (.agg [.lit (.int .i64 a)]) [] := by
  have h := trod_struct1_mk (enc := enc) (w := w) (base := base) (spare := spare) (held := held) (n := 1) (cs := [.int .i64 a]) (y0 := (.lit (.int .i64 a), [])) Try.underlying81 (by simp [cellsLc])
    (by rw [cells3]; simp [DataW.trod, Try.underlying3, wa])
  exact ⟨2, by simpa [Value.cells] using h⟩
end
end Go.Proofs.Ytoanigbjdfgjcaa.Sp
