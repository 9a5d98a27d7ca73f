/-
  For every table of locks, all fixed transactions and every lock, valid or not, the program's AskLock answers as the model's, in memory of its own, or they hold more than 2^20 locks, numbers and bytes; the arguments read as before. No condition.
-/
import Derived.Test.YtlfdefjkfacngaaRows
import Derived.Test.YtlfdefjkfacngaaLkLe
import Derived.Test.YtlfdefjkfacngaaLkSeen
import Derived.Test.YtlfdefjkfacngaaNtSeen
import Derived.Test.YtlfdefjkfacngaaJoin
import Derived.WalkKit
import Derived.ProofKit
import Derived.OpenShut
import Derived.ShutString
import Derived.ChangeOld
import Derived.Below
namespace Go.Proofs.Ytlfdefjkfacngaa.fnExactAskLock
open Go.ChangeShapes Go.WideShapes Go.ChangeAt Go.RowKit
open Go.ChangeMaps (open_string shut_string)
set_option linter.unusedVariables false

theorem own : ownKnob Try.prog.godebug = none := by kernel_rfl
theorem laidOut : laidOutB Try.prog = true := by kernel_rfl
set_option maxRecDepth 100000 in
theorem lifted (os : Os) (started : os.Started) (H : Type) (enc : TypeId × Value → H) :
    ReturnsInHanded {} Try.checked os 6 .any (Rows.fnExactAskLockSpec.pre6 enc Try.prog Try.f6 Rows.fnExactAskLockRow.domain false) (Rows.fnExactAskLockSpec.post enc Try.prog Try.f6 false true false false) := by
  refine returnsInHanded_of_change (C := Try.checked) own started (by kernel_rfl) Try.func6
    (ChangeSpec.witness6 (enc := enc) (C := Try.checked) false ⟨#[], #[.slice none 0 0, .slice none 0 0, .agg #[.string ByteArray.empty, .int .i64 0, .bool false]], []⟩ 8 (by kernel_rfl) (by kernel_rfl) (by kernel_rfl) (by kernel_rfl)) ?_
  intro W base args ds gs before hval0 hW hcnd _
  have hval : ∀ (j : Nat) t v, Try.f6.params[j]? = some t → args[j]? = some v → Value.okWide Try.prog W .any base t v := hval0
  have hW' := hW
  obtain ⟨p, q, hA0, hV, rfl, hfz, hnd⟩ := hW
  have hA : DataW.TrodAll enc Try.prog W 0 (fun _ => true) true Try.f6.params.toList args.toList ds p := hA0
  rw [Try.params6] at hA hval
  obtain ⟨v0, vs0, d0, ds0, p0, q0, hargs, rfl, rfl, h0, r0⟩ := trodAll_cons hA
  obtain ⟨v1, vs1, d1, ds1, p1, q1, rfl, rfl, rfl, h1, r1⟩ := trodAll_cons r0
  obtain ⟨v2, vs2, d2, ds2, p2, q2, rfl, rfl, rfl, h2, r2⟩ := trodAll_cons r1
  obtain ⟨rfl, rfl, rfl⟩ := trodAll_nil r2
  obtain rfl : args = #[v0, v1, v2] := by cases args; simp_all
  obtain ⟨rfl, rfl⟩ := trodVars_none hV
  obtain ⟨a0, len0, cap0, rfl⟩ := okWide_slice Try.underlying48 (hval 0 48 v0 rfl rfl)
  have k0 := h0
  have lt0 : ∀ x ∈ p0, x.block < W.heap.size := by obtain ⟨m, hm⟩ := k0; exact DataW.trod_lt m _ _ _ hm
  obtain ⟨xs0, e0, w0, c0⟩ : ∃ xs : List (ByteArray × Int × Bool), xs.length = len0 ∧ len0 ≤ maxLen ∧ Lk.LksAt W a0 xs := by
    obtain ⟨fuel, hf⟩ := h0
    exact Lk.view_lks (by simpa [Value.cells] using hf)
  obtain ⟨a1, len1, cap1, rfl⟩ := okWide_slice Try.underlying25 (hval 1 25 v1 rfl rfl)
  have k1 := h1
  have lt1 : ∀ x ∈ p1, x.block < W.heap.size := by obtain ⟨m, hm⟩ := k1; exact DataW.trod_lt m _ _ _ hm
  obtain ⟨xs1, e1, w1, c1⟩ := (by obtain ⟨fuel, hf⟩ := h1; exact Nt.view_ints (by simpa [Value.cells] using hf) : ∃ xs : List Int, xs.length = len1 ∧ len1 ≤ maxLen ∧ Nt.IntsB W W.heap.size a1 xs)
  obtain ⟨cs2, rfl, hz2⟩ := okWide_struct Try.underlying52 (hval 2 52 v2 rfl rfl)
  have k2 := h2
  have lt2 : ∀ x ∈ p2, x.block < W.heap.size := by obtain ⟨m, hm⟩ := k2; exact DataW.trod_lt m _ _ _ hm
  obtain ⟨xs2, xt2, xg2, rfl, e20, e21⟩ := (by obtain ⟨fuel, hf⟩ := h2; exact Lk.view_lock (by simpa [Value.cells] using hf) : ∃ (s : ByteArray) (t : Int) (g : Bool), cs2 = #[.string s, .int .i64 t, .bool g] ∧ s.size ≤ maxLen ∧ (Lit.int .i64 t).wf = true)
  clear hA0 hval0
  simp only [List.append_nil] at hW'
  refine (Lk.askLock_walk (w := W) a0 len0 cap0 xs0 e0 c0 w0 a1 len1 cap1 xs1 e1 w1 c1 xs2 xt2 xg2 e20 e21).mono fun e W' ⟨he, bel⟩ => ?_
  subst he
  exact ⟨_, rfl, _, _, _, [], _, [], hW', trodAll_mk1 (shut_bool Try.underlying4 _), (trodAll_cons_mk (Below.trod laidOut (by kernel_rfl) (of_decide_eq_true (by kernel_rfl)) k0 bel lt0) (trodAll_cons_mk (Below.trod laidOut (by kernel_rfl) (of_decide_eq_true (by kernel_rfl)) k1 bel lt1) (trodAll_cons_mk (Below.trod laidOut (by kernel_rfl) (of_decide_eq_true (by kernel_rfl)) k2 bel lt2) trodAll_mk0))), rfl, bel.frame _, fun h => by cases h⟩

theorem joined : joinedFacts Try.pinned.checked.prog 6 Try.f6 Rows.fnExactAskLockSpec Rows.fnExactAskLockRow = true := by
  unfold joinedFacts
  rw [mayEnter1, lifts1, make1]
  kernel_rfl
theorem over : Rows.fnExactAskLockRow.holds Try.pinned (OpenSpec.ofChange Rows.fnExactAskLockSpec) :=
  OpenClaim.holds_of_wide 6 Try.f6 rfl rfl rfl rfl rfl rfl rfl ⟨rfl, rfl, rfl, rfl, rfl⟩ rfl rfl rfl rfl rfl (by kernel_rfl) Try.func6 joined
    (of_decide_eq_true (by kernel_rfl)) (by unfold Func.isWrapper; first | (rw [if_pos (by decide +kernel)]; kernel_rfl) | (rw [if_neg (by decide +kernel)]; exact ⟨rfl, rfl⟩))
    (fun os started H enc _ => lifted os started H enc)

/-- The statement. -/
theorem proved : Rows.FnExactAskLockSaid :=
  over
#print axioms proved
end Go.Proofs.Ytlfdefjkfacngaa.fnExactAskLock
