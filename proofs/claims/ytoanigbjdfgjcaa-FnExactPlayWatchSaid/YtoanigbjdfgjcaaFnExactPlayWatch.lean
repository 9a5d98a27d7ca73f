/-
  The exact law of PlayWatch, for all watches and acts that the law can be handed.
-/
import Derived.Test.YtoanigbjdfgjcaaRows
import Derived.Test.YtoanigbjdfgjcaaWtLh
import Derived.Test.YtoanigbjdfgjcaaWtSeen
import Derived.Test.YtoanigbjdfgjcaaJoin
import Derived.WalkKit
import Derived.ProofKit
import Derived.OpenShut
import Derived.ShutString
import Derived.ChangeOld
import Derived.Below
namespace Go.Proofs.Ytoanigbjdfgjcaa.fnExactPlayWatch
open Go.ChangeShapes Go.WideShapes Go.ChangeAt Go.RowKit
open Go.ChangeMaps (open_string shut_string)
set_option linter.unusedVariables false

theorem own : ownKnob Try.prog.godebug = none := by kernel_rfl
theorem laidOut : laidOutB Try.prog = true := by kernel_rfl
set_option maxRecDepth 100000 in
theorem lifted (os : Os) (started : os.Started) (H : Type) (enc : TypeId × Value → H) :
    ReturnsInHanded {} Try.checked os 12 .any (Rows.fnExactPlayWatchSpec.pre6 enc Try.prog Try.f12 Rows.fnExactPlayWatchRow.domain false) (Rows.fnExactPlayWatchSpec.post enc Try.prog Try.f12 false true false false) := by
  refine returnsInHanded_of_change (C := Try.checked) own started (by kernel_rfl) Try.func12
    (ChangeSpec.witness6 (enc := enc) (C := Try.checked) false ⟨#[], #[.agg #[.int .i64 0, .slice none 0 0, .slice none 0 0], .slice none 0 0], []⟩ 8 (by kernel_rfl) (by kernel_rfl) (by kernel_rfl) (by kernel_rfl)) ?_
  intro W base args ds gs before hval0 hW hcnd _
  have hval : ∀ (j : Nat) t v, Try.f12.params[j]? = some t → args[j]? = some v → Value.okWide Try.prog W .any base t v := hval0
  have hW' := hW
  obtain ⟨p, q, hA0, hV, rfl, hfz, hnd⟩ := hW
  have hA : DataW.TrodAll enc Try.prog W 0 (fun _ => true) true Try.f12.params.toList args.toList ds p := hA0
  rw [Try.params12] at hA hval
  obtain ⟨v0, vs0, d0, ds0, p0, q0, hargs, rfl, rfl, h0, r0⟩ := trodAll_cons hA
  obtain ⟨v1, vs1, d1, ds1, p1, q1, rfl, rfl, rfl, h1, r1⟩ := trodAll_cons r0
  obtain ⟨rfl, rfl, rfl⟩ := trodAll_nil r1
  obtain rfl : args = #[v0, v1] := by cases args; simp_all
  obtain ⟨rfl, rfl⟩ := trodVars_none hV
  obtain ⟨cs0, rfl, hz0⟩ := okWide_struct Try.underlying25 (hval 0 25 v0 rfl rfl)
  have k0 := h0
  have lt0 : ∀ x ∈ p0, x.block < W.heap.size := by obtain ⟨m, hm⟩ := k0; exact DataW.trod_lt m _ _ _ hm
  obtain ⟨xk0, xA0, xn0, xc0, xr0, xB0, xp0, xd0, xw0, rfl, e00, e01, e02, e03, e04, e05, e06⟩ := (by obtain ⟨fuel, hf⟩ := h0; exact Wt.view_watch (by simpa [Value.cells] using hf) : ∃ (tm : Int) (A : Option Addr) (n c : Nat) (is : List Int) (A' : Option Addr) (n' c' : Nat) (ls : List (Int × Int × Int)), cs0 = #[.int .i64 tm, .slice A n c, .slice A' n' c'] ∧ (Lit.int .i64 tm).wf = true ∧ is.length = n ∧ Wt.CksB W W.heap.size A is ∧ n ≤ maxLen ∧ ls.length = n' ∧ Wt.LesB W W.heap.size A' ls ∧ n' ≤ maxLen)
  obtain ⟨a1, len1, cap1, rfl⟩ := okWide_slice Try.underlying56 (hval 1 56 v1 rfl rfl)
  have k1 := h1
  have lt1 : ∀ x ∈ p1, x.block < W.heap.size := by obtain ⟨m, hm⟩ := k1; exact DataW.trod_lt m _ _ _ hm
  obtain ⟨xs1, e1, w1, c1⟩ := (by obtain ⟨fuel, hf⟩ := h1; exact Wt.view_acts (by simpa [Value.cells] using hf) : ∃ xs : List (Int × Int × Int), xs.length = len1 ∧ len1 ≤ maxLen ∧ Wt.LesB W W.heap.size a1 xs)
  clear hA0 hval0
  simp only [List.append_nil] at hW'
  refine (Wt.playWatch_walk (w := W) xk0 xA0 xn0 xc0 xr0 xB0 xp0 xd0 xw0 e01 e02 e03 e04 e05 e06 a1 len1 cap1 xs1 e1 w1 c1).mono fun e W' ⟨he, bel⟩ => ?_
  subst he
  exact ⟨_, rfl, _, _, _, [], _, [], hW', trodAll_mk1 (shut_bool Try.underlying4 _), (trodAll_cons_mk (Below.trod laidOut (by kernel_rfl) (of_decide_eq_true (by kernel_rfl)) k0 bel lt0) (trodAll_cons_mk (Below.trod laidOut (by kernel_rfl) (of_decide_eq_true (by kernel_rfl)) k1 bel lt1) trodAll_mk0)), rfl, bel.frame _, fun h => by cases h⟩

theorem joined : joinedFacts Try.pinned.checked.prog 12 Try.f12 Rows.fnExactPlayWatchSpec Rows.fnExactPlayWatchRow = true := by
  unfold joinedFacts
  rw [mayEnter1, lifts1, make1]
  kernel_rfl
theorem over : Rows.fnExactPlayWatchRow.holds Try.pinned (OpenSpec.ofChange Rows.fnExactPlayWatchSpec) :=
  OpenClaim.holds_of_wide 12 Try.f12 rfl rfl rfl rfl rfl rfl rfl ⟨rfl, rfl, rfl, rfl, rfl⟩ rfl rfl rfl rfl rfl (by kernel_rfl) Try.func12 joined
    (of_decide_eq_true (by kernel_rfl)) (by unfold Func.isWrapper; first | (rw [if_pos (by decide +kernel)]; kernel_rfl) | (rw [if_neg (by decide +kernel)]; exact ⟨rfl, rfl⟩))
    (fun os started H enc _ => lifted os started H enc)

/-- The statement. -/
theorem proved : Rows.FnExactPlayWatchSaid :=
  over
#print axioms proved
end Go.Proofs.Ytoanigbjdfgjcaa.fnExactPlayWatch
