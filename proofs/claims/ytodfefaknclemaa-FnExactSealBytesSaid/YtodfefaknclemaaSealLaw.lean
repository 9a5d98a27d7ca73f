/-
  The walk of the law FnExactSealBytes.
-/
import Derived.Test.YtodfefaknclemaaSeal
namespace Go.Proofs.Ytodfefaknclemaa
open Go.RowKit

set_option maxHeartbeats 400000 in
theorem sealWalk (s : ByteArray) (w0 : s.size ≤ maxLen) (w : World) :
    Calls Try.prog 12 #[.string s] w fun e w' => e = .returned (.bool true) ∧ Below w.heap.size w w' := by
  have w0' := w0
  unfold maxLen at w0'
  by_cases h1 : 1048576 < s.size
  · go_enter Try.func12, Try.ntmps12
    go_wp2
    go_ret
    exact ⟨rfl, Below.refl _ _⟩
  · by_cases h2 : s.size ≤ 5997
    · go_enter Try.func12, Try.ntmps12
      go_wp2_with fail
      refine (specSeal_yes s _ h2).mono ?_
      rintro e w1 ⟨rfl, hb1⟩
      go_wp2_with fail
      refine (implSeal_yes s _ h2).mono ?_
      rintro e w2 ⟨rfl, hb2⟩
      go_wp2
      go_ret
      exact ⟨rfl, hb1.trans (hb2.mono hb1.size)⟩
    · have h3 : 5997 < s.size := by omega
      go_enter Try.func12, Try.ntmps12
      go_wp2_with fail
      refine (specSeal_no s _ w0 h3).mono ?_
      rintro e w' ⟨rfl, rfl⟩
      go_wp2_with fail
      refine (implSeal_no s _ w0 h3).mono ?_
      rintro e w' ⟨rfl, rfl⟩
      go_wp2
      go_ret
      exact ⟨rfl, Below.refl _ _⟩
end Go.Proofs.Ytodfefaknclemaa
