/-
  FnExactEntryBytes: for every entry, valid or not, the program's EntryBytes answers as the model's, or the entry holds more than 2^20 elements and bytes; the entry reads as before. No condition.
-/
import Derived.Test.YtkhndofplebcaaaRows
import Derived.Test.YtkhndofplebcaaaHsLa
import Derived.Test.YtkhndofplebcaaaHsSeen
import Derived.Test.YtkhndofplebcaaaJoin
import Derived.WalkKit
import Derived.ProofKit
import Derived.OpenShut
import Derived.ShutString
import Derived.ChangeOld
import Derived.Below
namespace Go.Proofs.Ytkhndofplebcaaa.fnExactEntryBytes
open Go.ChangeShapes Go.WideShapes Go.ChangeAt Go.RowKit
open Go.ChangeMaps (open_string shut_string)
set_option linter.unusedVariables false

theorem own : ownKnob Try.prog.godebug = none := by kernel_rfl
theorem laidOut : laidOutB Try.prog = true := by kernel_rfl
set_option maxRecDepth 100000 in
theorem lifted (os : Os) (started : os.Started) (H : Type) (enc : TypeId × Value → H) :
    ReturnsInHanded {} Try.checked os 3 .any (Rows.fnExactEntryBytesSpec.pre6 enc Try.prog Try.f3 Rows.fnExactEntryBytesRow.domain false) (Rows.fnExactEntryBytesSpec.post enc Try.prog Try.f3 false true false false) := by
  refine returnsInHanded_of_change (C := Try.checked) own started (by kernel_rfl) Try.func3
    (ChangeSpec.witness6 (enc := enc) (C := Try.checked) false ⟨#[], #[.agg #[.int .i64 0, .int .i64 0, .int .i64 0, .int .i64 0, .int .i64 0, .slice none 0 0, .slice none 0 0, .bool false]], []⟩ 8 (by kernel_rfl) (by kernel_rfl) (by kernel_rfl) (by kernel_rfl)) ?_
  intro W base args ds gs before hval0 hW hcnd _
  have hval : ∀ (j : Nat) t v, Try.f3.params[j]? = some t → args[j]? = some v → Value.okWide Try.prog W .any base t v := hval0
  have hW' := hW
  obtain ⟨p, q, hA0, hV, rfl, hfz, hnd⟩ := hW
  have hA : DataW.TrodAll enc Try.prog W 0 (fun _ => true) true Try.f3.params.toList args.toList ds p := hA0
  rw [Try.params3] at hA hval
  obtain ⟨v0, vs0, d0, ds0, p0, q0, hargs, rfl, rfl, h0, r0⟩ := trodAll_cons hA
  obtain ⟨rfl, rfl, rfl⟩ := trodAll_nil r0
  obtain rfl : args = #[v0] := by cases args; simp_all
  obtain ⟨rfl, rfl⟩ := trodVars_none hV
  obtain ⟨cs0, rfl, hz0⟩ := okWide_struct Try.underlying27 (hval 0 27 v0 rfl rfl)
  have k0 := h0
  have lt0 : ∀ x ∈ p0, x.block < W.heap.size := by obtain ⟨m, hm⟩ := k0; exact DataW.trod_lt m _ _ _ hm
  obtain ⟨xz0, xk0, xt0, xm0, xl0, xy0, xA0, xn0, xc0, xr0, xB0, xp0, xd0, xw0, rfl, e00, e01, e02, e03, e04, e05⟩ := (by obtain ⟨fuel, hf⟩ := h0; exact Hs.view_ent (by simpa [Value.cells] using hf) : ∃ (tm k t x l : Int) (y : Bool) (Ar : Option Addr) (nr cr : Nat) (rs : List ByteArray) (Aw : Option Addr) (nw cw : Nat) (ws : List (ByteArray × ByteArray × Bool)), cs0 = #[.int .i64 tm, .int .i64 k, .int .i64 t, .int .i64 x, .int .i64 l, .slice Ar nr cr, .slice Aw nw cw, .bool y] ∧ rs.length = nr ∧ StrsB W W.heap.size Ar rs ∧ SMax rs ∧ ws.length = nw ∧ WritesB W W.heap.size Aw ws ∧ WMax ws)
  clear hA0 hval0
  simp only [List.append_nil] at hW'
  refine (Hs.entryBytes_walk (w := W) xz0 xk0 xt0 xm0 xl0 xy0 xA0 xn0 xc0 xr0 xB0 xp0 xd0 xw0 e00 e01 e02 e03 e04 e05).mono fun e W' ⟨he, bel⟩ => ?_
  subst he
  exact ⟨_, rfl, _, _, _, [], _, [], hW', trodAll_mk1 (shut_bool Try.underlying4 _), (trodAll_cons_mk (Below.trod laidOut (by kernel_rfl) (of_decide_eq_true (by kernel_rfl)) k0 bel lt0) trodAll_mk0), rfl, bel.frame _, fun h => by cases h⟩

theorem joined : joinedFacts Try.pinned.checked.prog 3 Try.f3 Rows.fnExactEntryBytesSpec Rows.fnExactEntryBytesRow = true := by
  unfold joinedFacts
  rw [mayEnter1, lifts1, make1]
  kernel_rfl
theorem over : Rows.fnExactEntryBytesRow.holds Try.pinned (OpenSpec.ofChange Rows.fnExactEntryBytesSpec) :=
  OpenClaim.holds_of_wide 3 Try.f3 rfl rfl rfl rfl rfl rfl rfl ⟨rfl, rfl, rfl, rfl, rfl⟩ rfl rfl rfl rfl rfl (by kernel_rfl) Try.func3 joined
    (of_decide_eq_true (by kernel_rfl)) (by unfold Func.isWrapper; first | (rw [if_pos (by decide +kernel)]; kernel_rfl) | (rw [if_neg (by decide +kernel)]; exact ⟨rfl, rfl⟩))
    (fun os started H enc _ => lifted os started H enc)

/-- The statement. -/
theorem proved : Rows.FnExactEntryBytesSaid :=
  over
#print axioms proved
end Go.Proofs.Ytkhndofplebcaaa.fnExactEntryBytes
