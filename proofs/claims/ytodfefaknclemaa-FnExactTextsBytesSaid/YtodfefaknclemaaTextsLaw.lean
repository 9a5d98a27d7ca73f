/-
  The walk of the law FnExactTextsBytes.
-/
import Derived.Test.YtodfefaknclemaaTexts
namespace Go.Proofs.Ytodfefaknclemaa
open Go.RowKit

set_option maxRecDepth 100000 in
set_option maxHeartbeats 1000000 in
theorem textsWalk (A : Option Addr) (n c : Nat) (xs : List ByteArray) (hn : xs.length = n) (hl : n ≤ maxLen) (hx : ∀ k (h : k < xs.length), xs[k].size ≤ maxLen) (w : World) (h : StrsAt w A xs) :
    Calls Try.prog 9 #[.slice A n c] w fun e w' => e = .returned (.bool true) ∧ Below w.heap.size w w' := by
  have HN := Lib.hid hn
  have HS := Lib.hid h
  have HZ := Lib.hid (sz_any A n c xs w hn h hl hx)
  clear h hx hl hn
  go_enter Try.func9, Try.ntmps9
  go_wp2_with fail
  refine HZ.out.mono ?_
  rintro e w' ⟨r, rfl, rfl, hr1, hr2⟩
  have HR2 := Lib.hid hr2
  clear hr2
  by_cases hr0 : r < 0
  · go_wp2
    go_ret
    exact ⟨rfl, Below.refl _ _⟩
  · obtain ⟨hl, hx⟩ := HR2.out (by omega)
    have hl' : n ≤ 1048576 := by rw [← HN.out]; exact hl
    have HX := Lib.hid hx
    clear hl hx HR2
    go_wp2_with fail
    refine (to_any A n c xs _ HN.out HS.out hl').mono ?_
    rintro e w1 ⟨g1, rfl, hg1, hf1, hb1⟩
    have HG1 := Lib.hid hg1
    clear hg1
    have hs1 := HS.out.below hb1
    by_cases hg : Good xs
    · have HGD := Lib.hid hg
      clear hg
      go_wp2_with fail
      refine (specTexts_good _ _ _ xs _ rfl hf1.strs HGD.out).mono ?_
      rintro e w2 ⟨rfl, hb2⟩
      have hs2 := hs1.below hb2
      go_wp2_with fail
      refine (to_any A n c xs _ HN.out hs2 hl').mono ?_
      rintro e w3 ⟨g3, rfl, hg3, hf3, hb3⟩
      have hs3 := hs2.below hb3
      have hx3 := hf3.strs
      have HG3 := Lib.hid hg3
      clear hg3
      go_wp2_with fail
      refine (implTexts_good _ _ _ xs _ rfl hx3 HGD.out).mono ?_
      rintro e w4 ⟨rfl, hb4⟩
      have hs4 := hs3.below hb4
      have hx4 := hx3.below hb4
      go_wp2_with fail
      refine (to_any A n c xs _ HN.out hs4 hl').mono ?_
      rintro e w5 ⟨g5, rfl, hg5, hf5, hb5⟩
      have hx5 := hx4.below hb5
      have HG5 := Lib.hid hg5
      clear hg5
      go_wp2_with fail
      refine (eq_any _ _ _ _ _ xs _ rfl hx5 hf5.strs (by rw [HN.out]; exact hl')).mono ?_
      rintro e w6 ⟨rfl, m, rfl⟩
      go_wp2
      go_ret
      have hb12 := hb1.trans (hb2.mono hb1.size)
      have hb13 := hb12.trans (hb3.mono hb12.size)
      have hb14 := hb13.trans (hb4.mono hb13.size)
      have hb15 := hb14.trans (hb5.mono hb14.size)
      exact ⟨rfl, ⟨hb15.os, hb15.tape, hb15.output, hb15.size, hb15.block⟩⟩
    · have HGD := Lib.hid hg
      clear hg
      go_wp2_with fail
      refine (specTexts_bad _ _ _ xs _ rfl hf1.strs (by rw [HN.out]; exact hl') HX.out HGD.out).mono ?_
      rintro e w2 ⟨rfl, rfl⟩
      go_wp2_with fail
      refine (to_any A n c xs _ HN.out hs1 hl').mono ?_
      rintro e w3 ⟨g3, rfl, hg3, hf3, hb3⟩
      have hs3 := hs1.below hb3
      have hx3 := hf3.strs
      have HG3 := Lib.hid hg3
      clear hg3
      go_wp2_with fail
      refine (implTexts_bad _ _ _ xs _ rfl hx3 (by rw [HN.out]; exact hl') HX.out HGD.out).mono ?_
      rintro e w4 ⟨rfl, hb4⟩
      have hs4 := hs3.below hb4
      have hx4 := hx3.below hb4
      go_wp2_with fail
      refine (to_any A n c xs _ HN.out hs4 hl').mono ?_
      rintro e w5 ⟨g5, rfl, hg5, hf5, hb5⟩
      have hx5 := hx4.below hb5
      have HG5 := Lib.hid hg5
      clear hg5
      go_wp2_with fail
      refine (eq_any _ _ _ _ _ xs _ rfl hx5 hf5.strs (by rw [HN.out]; exact hl')).mono ?_
      rintro e w6 ⟨rfl, m, rfl⟩
      go_wp2
      go_ret
      have hb13 := hb1.trans (hb3.mono hb1.size)
      have hb14 := hb13.trans (hb4.mono hb13.size)
      have hb15 := hb14.trans (hb5.mono hb14.size)
      exact ⟨rfl, ⟨hb15.os, hb15.tape, hb15.output, hb15.size, hb15.block⟩⟩
end Go.Proofs.Ytodfefaknclemaa
