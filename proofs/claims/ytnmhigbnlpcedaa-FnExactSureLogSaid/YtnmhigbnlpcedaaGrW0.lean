/-
  What the walks of exact laws over groups share.
-/
import Derived.Test.YtnmhigbnlpcedaaGrSz
import Derived.Test.YtnmhigbnlpcedaaGrTo
import Derived.Test.YtnmhigbnlpcedaaGrEq
import Derived.Test.YtnmhigbnlpcedaaBel
namespace Go.Proofs.Ytnmhigbnlpcedaa.Gr
open Go.RowKit CM
set_option linter.unusedVariables false

theorem glen {gs : List RH} {vs : List RD} {n : Nat} (hd : gs.map rdat = vs) (hv : vs.length = n) : gs.length = n := by rw [← hv, ← hd, List.length_map]
theorem gsmall {gs : List RH} {vs : List RD} (hd : gs.map rdat = vs) (h : RpSmall vs) : RpSmall (gs.map rdat) := by rw [hd]; exact h
theorem ToGPost_un (hs : List RH) (n : Nat) (tm ld : Int) (w : World) : ToGPost hs n tm ld w = fun e w' => ∃ (g : Nat) (gs : List RH), e = .returned (.agg #[.slice (some ⟨g, 0, none⟩) n n, .int .i64 tm, .int .i64 ld]) ∧ gs.map rdat = hs.map rdat ∧ OwnK KR w' w.heap.size w'.heap.size (some ⟨g, 0, none⟩) n gs ∧ Below w.heap.size w w' := rfl
theorem below_d0 {w w1 : World} (h : Below w.drew.heap.size w.drew w1) : Below w.heap.size w w1 := ⟨h.1, h.2, h.3, h.4, fun k hk => h.5 k hk⟩
theorem eqGroup_own {w : World} {lo1 hi1 lo2 hi2 d1 d2 n : Nat} {C1 C2 : Option Addr} {gs1 gs2 : List RH} {vs : List RD} (tm ld : Int) (o1 : OwnK KR w lo1 hi1 C1 d1 gs1) (o2 : OwnK KR w lo2 hi2 C2 d2 gs2) (hd1 : gs1.map rdat = vs) (hd2 : gs2.map rdat = vs) (hv : vs.length = n) (h1 : hi1 ≤ w.heap.size) (h2 : hi2 ≤ w.heap.size) (hs : RpSmall vs) :
    Calls Try.prog 15 #[.agg #[.slice C1 n d1, .int .i64 tm, .int .i64 ld], .agg #[.slice C2 n d2, .int .i64 tm, .int .i64 ld]] w fun e w' => e = .returned (.bool true) ∧ Below w.heap.size w w' :=
  eqGroup_same C1 C2 n d1 d2 tm ld gs1 gs2 w.heap.size w (glen hd1 hv) (hd2.trans hd1.symm) (o1.rows.mono h1) (o2.rows.mono h2) (gsmall hd1 hs) (Nat.le_refl _)
end Go.Proofs.Ytnmhigbnlpcedaa.Gr
