/-
  The walk of the law FnExactNumberIn.
-/
import Derived.Test.YtgdofgcggblajaaNumR
namespace Go.Proofs.Ytgdofgcggblajaa
open Go.RowKit
set_option linter.unusedVariables false

set_option maxRecDepth 100000 in
set_option maxHeartbeats 2000000 in
theorem numberIn_walk (w : World) (s : ByteArray) (hm : s.size ≤ maxLen) :
    Calls Try.prog 4 #[.string s] w fun e w' => e = .returned (.bool true) ∧ Below w.heap.size w w' := by
  by_cases hs : s.size ≤ 1048576
  · have hsi : ¬ (1048576 : Int) < (s.size : Int) := by omega
    have HS := Lib.hid (specNumberIn_any s w hs)
    have HI := Lib.hid (fun W => implNumberIn_any s W hs)
    obtain ⟨v, hv⟩ : ∃ v, v = (numR s).1 := ⟨_, rfl⟩
    obtain ⟨f, hf⟩ : ∃ f, f = (numR s).2 := ⟨_, rfl⟩
    rw [← hv, ← hf] at HS HI
    clear hv hf
    go_enter Try.func4, Try.ntmps4
    go_wp2_with fail
    refine HS.out.mono ?_
    rintro e w1 ⟨rfl, n, rfl⟩
    go_wp2_with fail
    refine (HI.out _).mono ?_
    rintro e w2 ⟨rfl, hb⟩
    have HB := Lib.hid (Below.trans (b := w.drewN n) (below_drewN (Below.refl w.heap.size w) n) (hb.mono (below_drewN (Below.refl w.heap.size w) n).size))
    clear hb
    cases f <;>
    · go_wp2
      go_ret
      exact ⟨rfl, HB.out⟩
  · have hsi : (1048576 : Int) < (s.size : Int) := by omega
    go_enter Try.func4, Try.ntmps4
    go_wp2
    go_ret
    exact ⟨rfl, Below.refl _ _⟩
end Go.Proofs.Ytgdofgcggblajaa
