/-
  FnExactIsFair: for every poll that the law is handed, the program says whether it is fair as the model does, and leaves it as it was. No condition.
-/
import Derived.Test.YtojplmjoipjabaaRows
import Derived.Test.YtojplmjoipjabaaPoLc
import Derived.Test.YtojplmjoipjabaaPoSeen
import Derived.WalkKit
import Derived.ProofKit
import Derived.OpenShut
import Derived.ShutString
import Derived.ChangeOld
import Derived.Below
namespace Go.Proofs.Ytojplmjoipjabaa.fnExactIsFair
open Go.ChangeShapes Go.WideShapes Go.ChangeAt Go.RowKit
open Go.ChangeMaps (open_string shut_string)
set_option linter.unusedVariables false

theorem own : ownKnob Try.prog.godebug = none := by kernel_rfl
theorem laidOut : laidOutB Try.prog = true := by kernel_rfl
set_option maxRecDepth 100000 in
theorem lifted (os : Os) (started : os.Started) (H : Type) (enc : TypeId × Value → H) :
    ReturnsInHanded {} Try.checked os 7 .any (Rows.fnExactIsFairSpec.pre6 enc Try.prog Try.f7 Rows.fnExactIsFairRow.domain false) (Rows.fnExactIsFairSpec.post enc Try.prog Try.f7 false true false false) := by
  refine returnsInHanded_of_change (C := Try.checked) own started (by kernel_rfl) Try.func7
    (ChangeSpec.witness6 (enc := enc) (C := Try.checked) false ⟨#[], #[.agg #[.slice none 0 0, .int .i64 0, .slice none 0 0, .int .i64 0, .slice none 0 0, .slice none 0 0]], []⟩ 8 (by kernel_rfl) (by kernel_rfl) (by kernel_rfl) (by kernel_rfl)) ?_
  intro W base args ds gs before hval0 hW hcnd _
  have hval : ∀ (j : Nat) t v, Try.f7.params[j]? = some t → args[j]? = some v → Value.okWide Try.prog W .any base t v := hval0
  have hW' := hW
  obtain ⟨p, q, hA0, hV, rfl, hfz, hnd⟩ := hW
  have hA : DataW.TrodAll enc Try.prog W 0 (fun _ => true) true Try.f7.params.toList args.toList ds p := hA0
  rw [Try.params7] at hA hval
  obtain ⟨v0, vs0, d0, ds0, p0, q0, hargs, rfl, rfl, h0, r0⟩ := trodAll_cons hA
  obtain ⟨rfl, rfl, rfl⟩ := trodAll_nil r0
  obtain rfl : args = #[v0] := by cases args; simp_all
  obtain ⟨rfl, rfl⟩ := trodVars_none hV
  obtain ⟨cs0, rfl, hz0⟩ := okWide_struct Try.underlying29 (hval 0 29 v0 rfl rfl)
  have k0 := h0
  have lt0 : ∀ x ∈ p0, x.block < W.heap.size := by obtain ⟨m, hm⟩ := k0; exact DataW.trod_lt m _ _ _ hm
  obtain ⟨xA0, xn0, xc0, xv0, xk0, xt0, xB0, xm0, xd0, xi0, xC0, xp0, xe0, xl0, xD0, xq0, xf0, xw0, rfl, e00, e01, e02, e03, e04, e05, e06, e07, e08, e09, e010, e011⟩ := (by obtain ⟨fuel, hf⟩ := h0; exact Po.view_poll (by simpa [Value.cells] using hf) : ∃ (A : Option Addr) (n c : Nat) (hs : List ((Bool × Int × Int × Bool) × Option Addr × Nat × List Int)) (now far : Int) (A1 : Option Addr) (n1 c1 : Nat) (is : List Int) (A2 : Option Addr) (n2 c2 : Nat) (ls : List (Int × Int × Int × ByteArray)) (A3 : Option Addr) (n3 c3 : Nat) (ws : List (Int × Int)), cs0 = #[.slice A n c, .int .i64 now, .slice A1 n1 c1, .int .i64 far, .slice A2 n2 c2, .slice A3 n3 c3] ∧ hs.length = n ∧ Po.VotB W W.heap.size A hs ∧ Po.VtMax hs ∧ is.length = n1 ∧ Nt.IntsB W W.heap.size A1 is ∧ n1 ≤ maxLen ∧ ls.length = n2 ∧ Nt.LetsB W W.heap.size A2 ls ∧ Nt.LMax ls ∧ ws.length = n3 ∧ Po.WonB W W.heap.size A3 ws ∧ n3 ≤ maxLen)
  clear hA0 hval0
  simp only [List.append_nil] at hW'
  refine (Po.isFair_walk (w := W) xA0 xn0 xc0 xv0 xk0 xt0 xB0 xm0 xd0 xi0 xC0 xp0 xe0 xl0 xD0 xq0 xf0 xw0 e00 e01 e02 e03 e04 e05 e06 e07 e08 e09 e010 e011).mono fun e W' ⟨he, bel⟩ => ?_
  subst he
  exact ⟨_, rfl, _, _, _, [], _, [], hW', trodAll_mk1 (shut_bool Try.underlying4 _), (trodAll_cons_mk (Below.trod laidOut (by kernel_rfl) (of_decide_eq_true (by kernel_rfl)) k0 bel lt0) trodAll_mk0), rfl, bel.frame _, fun h => by cases h⟩

theorem over : Rows.fnExactIsFairRow.holds Try.pinned (OpenSpec.ofChange Rows.fnExactIsFairSpec) :=
  OpenClaim.holds_of_wide 7 Try.f7 rfl rfl rfl rfl rfl rfl rfl ⟨rfl, rfl, rfl, rfl, rfl⟩ rfl rfl rfl rfl rfl (by kernel_rfl) Try.func7 (by kernel_rfl)
    (of_decide_eq_true (by kernel_rfl)) (by unfold Func.isWrapper; first | (rw [if_pos (by decide +kernel)]; kernel_rfl) | (rw [if_neg (by decide +kernel)]; exact ⟨rfl, rfl⟩))
    (fun os started H enc _ => lifted os started H enc)

/-- The statement. -/
theorem proved : Rows.FnExactIsFairSaid :=
  over
#print axioms proved
end Go.Proofs.Ytojplmjoipjabaa.fnExactIsFair
