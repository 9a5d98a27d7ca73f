/-
  Contracts for what a write may hold: goodContent and l3Write.
-/
import Derived.Test.YtkhndofplebcaaaMade
import Derived.Test.YtkhndofplebcaaaPre
namespace Go.Proofs.Ytkhndofplebcaaa
open Go.RowKit CM
set_option linter.unusedVariables false

theorem goodContent_any (v : ByteArray) (g : Bool) (w : World) (hs : v.size ≤ 1048576) :
    Calls Try.prog 178 #[.string v, .bool g] w fun e w' => e = .returned (.bool (contB v g)) ∧ w = w' := by
  cases g with
  | true =>
    obtain ⟨r, hr⟩ : ∃ r, r = v.toList.isEmpty := ⟨_, rfl⟩
    rw [contB_gone, ← hr]
    by_cases h0 : v.toList = []
    · obtain rfl : r = true := by rw [hr, h0]; rfl
      clear hr
      go_enter Try.func178, Try.ntmps178
      go_wp2
      go_ret
      exact ⟨by simp, rfl⟩
    · obtain rfl : r = false := by rw [hr]; simpa using h0
      clear hr
      go_enter Try.func178, Try.ntmps178
      go_wp2
      go_ret
      exact ⟨by simp [h0], rfl⟩
  | false =>
    have HC := Lib.hid (fun W => goodVal_any v W hs)
    rw [contB_there]
    go_enter Try.func178, Try.ntmps178
    go_wp2_with fail
    refine (HC.out _).mono ?_
    rintro e w' ⟨rfl, rfl⟩
    go_wp2
    go_ret
    exact ⟨rfl, rfl⟩

/-- The model's check of a write. -/
def wrB (k v : ByteArray) (g : Bool) : Bool := keyB k && contB v g
set_option maxHeartbeats 400000 in
theorem l3Write_any (k v : ByteArray) (g : Bool) (w : World) (hk : k.size ≤ 1048576) (hv : v.size ≤ 1048576) :
    Calls Try.prog 127 #[.string k, .string v, .bool g] w fun e w' => e = .returned (.bool (wrB k v g)) ∧ ∃ n, w' = w.drewN n := by
  have HK := Lib.hid (fun W => l3Key_any k W hk)
  have HV := Lib.hid (fun W => l3Val_any v W hv)
  have HR := Lib.hid (show wrB k v g = (keyB k && contB v g) from rfl)
  cases h1 : keyB k with
  | false =>
    rw [h1] at HK
    rw [HR.out, h1]
    clear h1
    go_enter Try.func127, Try.ntmps127
    go_wp2_with fail
    refine (HK.out _).mono ?_
    rintro e w' ⟨rfl, n, rfl⟩
    go_wp2
    go_ret
    exact ⟨rfl, n, rfl⟩
  | true =>
    rw [h1] at HK
    rw [HR.out, h1, Bool.true_and]
    clear h1
    cases h2 : valB v with
    | false =>
      rw [h2] at HV
      rw [show contB v g = false by unfold contB; rw [h2]; rfl]
      clear h2
      go_enter Try.func127, Try.ntmps127
      go_wp2_with fail
      refine (HK.out _).mono ?_
      rintro e w' ⟨rfl, n, rfl⟩
      go_wp2_with fail
      refine (HV.out _).mono ?_
      rintro e w' ⟨rfl, m, rfl⟩
      go_wp2
      go_ret
      exact ⟨rfl, _, rfl⟩
    | true =>
      have HV2 := Lib.hid h2
      rw [h2] at HV
      clear h2
      cases g with
      | false =>
        rw [contB_there, HV2.out]
        go_enter Try.func127, Try.ntmps127
        go_wp2_with fail
        refine (HK.out _).mono ?_
        rintro e w' ⟨rfl, n, rfl⟩
        go_wp2_with fail
        refine (HV.out _).mono ?_
        rintro e w' ⟨rfl, m, rfl⟩
        go_wp2
        go_ret
        exact ⟨rfl, _, rfl⟩
      | true =>
        have HG := Lib.hid (contB_gone v)
        by_cases h0 : v.toList = []
        · rw [HG.out, show v.toList.isEmpty = true by simp [h0]]
          go_enter Try.func127, Try.ntmps127
          go_wp2_with fail
          refine (HK.out _).mono ?_
          rintro e w' ⟨rfl, n, rfl⟩
          go_wp2_with fail
          refine (HV.out _).mono ?_
          rintro e w' ⟨rfl, m, rfl⟩
          go_wp2
          go_ret
          exact ⟨by simp, _, rfl⟩
        · rw [HG.out, show v.toList.isEmpty = false by simpa using h0]
          go_enter Try.func127, Try.ntmps127
          go_wp2_with fail
          refine (HK.out _).mono ?_
          rintro e w' ⟨rfl, n, rfl⟩
          go_wp2_with fail
          refine (HV.out _).mono ?_
          rintro e w' ⟨rfl, m, rfl⟩
          go_wp2
          go_ret
          exact ⟨by simp [h0], _, rfl⟩
end Go.Proofs.Ytkhndofplebcaaa
