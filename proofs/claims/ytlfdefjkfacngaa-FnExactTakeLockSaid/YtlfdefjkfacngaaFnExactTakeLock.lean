/-
  For every table of locks and every lock, valid or not, the program's TakeLock answers as the model's, in memory of its own, or they hold more than 2^20 locks and bytes; the table reads as before. No condition.
-/
import Derived.Test.YtlfdefjkfacngaaRows
import Derived.Test.YtlfdefjkfacngaaLkLd
import Derived.Test.YtlfdefjkfacngaaLkSeen
import Derived.Test.YtlfdefjkfacngaaJoin
import Derived.WalkKit
import Derived.ProofKit
import Derived.OpenShut
import Derived.ShutString
import Derived.ChangeOld
import Derived.Below
namespace Go.Proofs.Ytlfdefjkfacngaa.fnExactTakeLock
open Go.ChangeShapes Go.WideShapes Go.ChangeAt Go.RowKit
open Go.ChangeMaps (open_string shut_string)
set_option linter.unusedVariables false

theorem own : ownKnob Try.prog.godebug = none := by kernel_rfl
theorem laidOut : laidOutB Try.prog = true := by kernel_rfl
set_option maxRecDepth 100000 in
theorem lifted (os : Os) (started : os.Started) (H : Type) (enc : TypeId × Value → H) :
    ReturnsInHanded {} Try.checked os 7 .any (Rows.fnExactTakeLockSpec.pre6 enc Try.prog Try.f7 Rows.fnExactTakeLockRow.domain false) (Rows.fnExactTakeLockSpec.post enc Try.prog Try.f7 false true false false) := by
  refine returnsInHanded_of_change (C := Try.checked) own started (by kernel_rfl) Try.func7
    (ChangeSpec.witness6 (enc := enc) (C := Try.checked) false ⟨#[], #[.slice none 0 0, .agg #[.string ByteArray.empty, .int .i64 0, .bool false]], []⟩ 8 (by kernel_rfl) (by kernel_rfl) (by kernel_rfl) (by kernel_rfl)) ?_
  intro W base args ds gs before hval0 hW hcnd _
  have hval : ∀ (j : Nat) t v, Try.f7.params[j]? = some t → args[j]? = some v → Value.okWide Try.prog W .any base t v := hval0
  have hW' := hW
  obtain ⟨p, q, hA0, hV, rfl, hfz, hnd⟩ := hW
  have hA : DataW.TrodAll enc Try.prog W 0 (fun _ => true) true Try.f7.params.toList args.toList ds p := hA0
  rw [Try.params7] at hA hval
  obtain ⟨v0, vs0, d0, ds0, p0, q0, hargs, rfl, rfl, h0, r0⟩ := trodAll_cons hA
  obtain ⟨v1, vs1, d1, ds1, p1, q1, rfl, rfl, rfl, h1, r1⟩ := trodAll_cons r0
  obtain ⟨rfl, rfl, rfl⟩ := trodAll_nil r1
  obtain rfl : args = #[v0, v1] := by cases args; simp_all
  obtain ⟨rfl, rfl⟩ := trodVars_none hV
  obtain ⟨a0, len0, cap0, rfl⟩ := okWide_slice Try.underlying48 (hval 0 48 v0 rfl rfl)
  have k0 := h0
  have lt0 : ∀ x ∈ p0, x.block < W.heap.size := by obtain ⟨m, hm⟩ := k0; exact DataW.trod_lt m _ _ _ hm
  obtain ⟨xs0, e0, w0, c0⟩ : ∃ xs : List (ByteArray × Int × Bool), xs.length = len0 ∧ len0 ≤ maxLen ∧ Lk.LksAt W a0 xs := by
    obtain ⟨fuel, hf⟩ := h0
    exact Lk.view_lks (by simpa [Value.cells] using hf)
  obtain ⟨cs1, rfl, hz1⟩ := okWide_struct Try.underlying52 (hval 1 52 v1 rfl rfl)
  have k1 := h1
  have lt1 : ∀ x ∈ p1, x.block < W.heap.size := by obtain ⟨m, hm⟩ := k1; exact DataW.trod_lt m _ _ _ hm
  obtain ⟨xs1, xt1, xg1, rfl, e10, e11⟩ := (by obtain ⟨fuel, hf⟩ := h1; exact Lk.view_lock (by simpa [Value.cells] using hf) : ∃ (s : ByteArray) (t : Int) (g : Bool), cs1 = #[.string s, .int .i64 t, .bool g] ∧ s.size ≤ maxLen ∧ (Lit.int .i64 t).wf = true)
  clear hA0 hval0
  simp only [List.append_nil] at hW'
  refine (Lk.takeLock_walk (w := W) a0 len0 cap0 xs0 e0 c0 w0 xs1 xt1 xg1 e10 e11).mono fun e W' ⟨he, bel⟩ => ?_
  subst he
  exact ⟨_, rfl, _, _, _, [], _, [], hW', trodAll_mk1 (shut_bool Try.underlying4 _), (trodAll_cons_mk (Below.trod laidOut (by kernel_rfl) (of_decide_eq_true (by kernel_rfl)) k0 bel lt0) (trodAll_cons_mk (Below.trod laidOut (by kernel_rfl) (of_decide_eq_true (by kernel_rfl)) k1 bel lt1) trodAll_mk0)), rfl, bel.frame _, fun h => by cases h⟩

theorem joined : joinedFacts Try.pinned.checked.prog 7 Try.f7 Rows.fnExactTakeLockSpec Rows.fnExactTakeLockRow = true := by
  unfold joinedFacts
  rw [mayEnter1, lifts1, make1]
  kernel_rfl
theorem over : Rows.fnExactTakeLockRow.holds Try.pinned (OpenSpec.ofChange Rows.fnExactTakeLockSpec) :=
  OpenClaim.holds_of_wide 7 Try.f7 rfl rfl rfl rfl rfl rfl rfl ⟨rfl, rfl, rfl, rfl, rfl⟩ rfl rfl rfl rfl rfl (by kernel_rfl) Try.func7 joined
    (of_decide_eq_true (by kernel_rfl)) (by unfold Func.isWrapper; first | (rw [if_pos (by decide +kernel)]; kernel_rfl) | (rw [if_neg (by decide +kernel)]; exact ⟨rfl, rfl⟩))
    (fun os started H enc _ => lifted os started H enc)

/-- The statement. -/
theorem proved : Rows.FnExactTakeLockSaid :=
  over
#print axioms proved
end Go.Proofs.Ytlfdefjkfacngaa.fnExactTakeLock
