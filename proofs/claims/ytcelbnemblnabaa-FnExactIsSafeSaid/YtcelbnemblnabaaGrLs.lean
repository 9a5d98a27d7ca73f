/-
  The walk of the exact law IsSafe.
-/
import Derived.Test.YtcelbnemblnabaaGrW
import Derived.Test.YtcelbnemblnabaaGrSure
import Derived.Test.YtcelbnemblnabaaGrSafI
import Derived.Test.YtcelbnemblnabaaGrSafM
namespace Go.Proofs.Ytcelbnemblnabaa.Gr
open Go.RowKit CM
set_option linter.unusedVariables false
set_option linter.unusedSimpArgs false

set_option maxRecDepth 100000 in
set_option maxHeartbeats 16000000 in
theorem isSafe_walk (w : World) (A : Option Addr) (n c : Nat) (tm ld : Int) (hs : List RH) (hn : hs.length = n) (hR : RowsB KR w w.heap.size A hs) (hmx : RpMax hs)  :
    Calls Try.prog 3 #[.agg #[.slice A n c, .int .i64 tm, .int .i64 ld]] w fun e w' => e = .returned (.bool true) ∧ Below w.heap.size w w' := by
  have hb0 := below1 w (.cells #[.slice A n c, .int .i64 tm, .int .i64 ld] 24)
  have hk0 := heap_alloc_new w (.cells #[.slice A n c, .int .i64 tm, .int .i64 ld] 24)
  have HZ := Lib.hid (fun W (hW' : Below w.heap.size w W) => szGroup_any A n c tm ld hs w.heap.size W hn (hR.below hW') hW'.size hmx)
  by_cases h : szAll szR hs ≤ 1048576
  · rw [remI_yes h] at HZ
    have hs0 : (0 : Int) ≤ ((1048576 : Nat) : Int) - ((szAll szR hs : Nat) : Int) := by omega
    obtain ⟨q0, hq0⟩ : ∃ q0, q0 = ((1048576 : Nat) : Int) - ((szAll szR hs : Nat) : Int) := ⟨_, rfl⟩
    rw [← hq0] at HZ hs0
    have hsm := rpsmall_of h
    have ht := fun W (hW' : Below w.heap.size w W) => toGroup_any A n c tm ld hs w.heap.size W hn (hR.below hW') hW'.size hsm
    simp only [ToGPost_un] at ht
    obtain ⟨vs, hvs⟩ : ∃ vs, vs = hs.map rdat := ⟨_, rfl⟩
    rw [← hvs] at hsm
    simp only [← hvs] at ht
    have HT := Lib.hid ht
    have HSM := Lib.hid hsm
    have HVL := Lib.hid (show vs.length = n by rw [hvs, List.length_map]; exact hn)
    clear hvs hsm ht
    have hspec := fun (W : World) (C : Option Addr) (d lo hi : Nat) (gs : List RH) (hd : gs.map rdat = vs) (ho : OwnK KR W lo hi C d gs) (hh : hi ≤ W.heap.size) => by have h9 := specIsSafe_any C n d tm ld gs W.heap.size W (glen hd HVL.out) (ho.rows.mono hh) (Nat.le_refl _) (gsmall hd HSM.out); rw [hd] at h9; exact h9
    have himpl := fun (W : World) (C : Option Addr) (d lo hi : Nat) (gs : List RH) (hd : gs.map rdat = vs) (ho : OwnK KR W lo hi C d gs) (hh : hi ≤ W.heap.size) => by have h9 := implIsSafe_any C n d tm ld gs W.heap.size W (glen hd HVL.out) (ho.rows.mono hh) (Nat.le_refl _) (gsmall hd HSM.out) (fun r hr => cap_of (ho.2.1 r hr).1); rw [hd] at h9; exact h9
    obtain ⟨ok, hr⟩ : ∃ r, r = safeB tm ld vs := ⟨_, rfl⟩
    simp only [← hr] at hspec himpl
    have HS := Lib.hid hspec
    have HI := Lib.hid himpl
    clear hspec himpl hr
    have HB0 := Lib.hid hb0
    have bA_0 := Lib.hid hk0
    clear h hn hR hmx hq0 hk0
    go_enter Try.func3, Try.ntmps3
    go_wp2_with fail
    refine (HZ.out _ hb0).mono ?_
    rintro e w1 ⟨rfl, ha1⟩
    have h00 := hb0.size
    clear hb0
    have HB1 := Lib.hid (HB0.out.trans (ha1.mono HB0.out.size))
    have hz1 := ha1.size
    have bA_1 := Lib.hid ((ha1.block (w.heap.size) (lt_blk bA_0.out)).trans bA_0.out)
    clear ha1
    have hA1 := lt_blk bA_1.out
    have bA10 := cell_of_row _ _ 0 _ 24 (0, 0) bA_1.out
    have bA11 := cell_of_row _ _ 1 _ 24 (0, 0) bA_1.out
    have bA12 := cell_of_row _ _ 2 _ 24 (0, 0) bA_1.out
    have bA1l := lt_blk bA_1.out
    go_wp2_with fail
    refine (HT.out _ HB1.out).mono ?_
    rintro e w2 ⟨A2, gs2, rfl, hgd2, hop2, ha2⟩
    clear bA10 bA11 bA12 bA1l
    have HB2 := Lib.hid (HB1.out.trans (ha2.mono HB1.out.size))
    have hz2 := ha2.size
    have bA_2 := Lib.hid ((ha2.block (w.heap.size) (lt_blk bA_1.out)).trans bA_1.out)
    clear ha2
    have t2o_2 := Lib.hid hop2
    have HGD2 := Lib.hid hgd2
    clear hop2 hgd2
    go_wp2_with fail
    refine (HS.out _ (some ⟨A2, 0, none⟩) n _ _ gs2 HGD2.out t2o_2.out (by omega)).mono ?_
    rintro e w3 ⟨rfl, ha3⟩
    have HB3 := Lib.hid (HB2.out.trans (ha3.mono HB2.out.size))
    have hz3 := ha3.size
    have bA_3 := Lib.hid ((ha3.block (w.heap.size) (lt_blk bA_2.out)).trans bA_2.out)
    have t2o_3 := Lib.hid (t2o_2.out.since ha3)
    clear ha3
    have bA30 := cell_of_row _ _ 0 _ 24 (0, 0) bA_3.out
    have bA31 := cell_of_row _ _ 1 _ 24 (0, 0) bA_3.out
    have bA32 := cell_of_row _ _ 2 _ 24 (0, 0) bA_3.out
    have bA3l := lt_blk bA_3.out
    go_wp2_with fail
    refine (HT.out _ HB3.out).mono ?_
    rintro e w4 ⟨A4, gs4, rfl, hgd4, hop4, ha4⟩
    clear bA30 bA31 bA32 bA3l
    have HB4 := Lib.hid (HB3.out.trans (ha4.mono HB3.out.size))
    have hz4 := ha4.size
    have bA_4 := Lib.hid ((ha4.block (w.heap.size) (lt_blk bA_3.out)).trans bA_3.out)
    clear ha4
    have Xo_4 := Lib.hid hop4
    have HGD4 := Lib.hid hgd4
    clear hop4 hgd4
    have bA40 := cell_of_row _ _ 0 _ 24 (0, 0) bA_4.out
    have bA41 := cell_of_row _ _ 1 _ 24 (0, 0) bA_4.out
    have bA42 := cell_of_row _ _ 2 _ 24 (0, 0) bA_4.out
    have bA4l := lt_blk bA_4.out
    go_wp2_with fail
    obtain ⟨V4, hV4⟩ : ∃ V4, V4 = w4.alloc (.cells #[.slice (some ⟨A4, 0, none⟩) n n, .int .i64 tm, .int .i64 ld] 29) := ⟨_, rfl⟩
    have haV4 := below1 w4 (.cells #[.slice (some ⟨A4, 0, none⟩) n n, .int .i64 tm, .int .i64 ld] 29)
    have hnV4 := heap_alloc_new w4 (.cells #[.slice (some ⟨A4, 0, none⟩) n n, .int .i64 tm, .int .i64 ld] 29)
    rw [← hV4] at haV4 hnV4 ⊢
    have hsV4 : V4.heap.size = w4.heap.size + 1 := by rw [hV4]; simp
    clear bA40 bA41 bA42 bA4l
    clear hV4
    have HBV4 := Lib.hid (HB4.out.trans (haV4.mono HB4.out.size))
    have bA_V4 := Lib.hid ((haV4.block (w.heap.size) (lt_blk bA_4.out)).trans bA_4.out)
    have Xo_V4 := Lib.hid (Xo_4.out.since haV4)
    have bX_V4 := Lib.hid hnV4
    clear haV4 hnV4
    refine (HI.out _ (some ⟨A4, 0, none⟩) n _ _ gs4 HGD4.out Xo_V4.out (by omega)).mono ?_
    rintro e w5 ⟨rfl, ha5⟩
    have HB5 := Lib.hid (HBV4.out.trans (ha5.mono HBV4.out.size))
    have hz5 := ha5.size
    have bA_5 := Lib.hid ((ha5.block (w.heap.size) (lt_blk bA_V4.out)).trans bA_V4.out)
    have bX_5 := Lib.hid ((ha5.block (w4.heap.size) (lt_blk bX_V4.out)).trans bX_V4.out)
    have Xo_5 := Lib.hid (Xo_V4.out.since ha5)
    clear ha5
    have bA50 := cell_of_row _ _ 0 _ 24 (0, 0) bA_5.out
    have bA51 := cell_of_row _ _ 1 _ 24 (0, 0) bA_5.out
    have bA52 := cell_of_row _ _ 2 _ 24 (0, 0) bA_5.out
    have bA5l := lt_blk bA_5.out
    have bX50 := cell_of_row _ _ 0 _ 29 (0, 0) bX_5.out
    have bX51 := cell_of_row _ _ 1 _ 29 (0, 0) bX_5.out
    have bX52 := cell_of_row _ _ 2 _ 29 (0, 0) bX_5.out
    have bX5l := lt_blk bX_5.out
    go_wp2_with fail
    have s0 : w5.cell? ⟨w.heap.size, 0, none⟩ = some (.slice A n c) := bA50
    have s1 : w5.cell? ⟨w.heap.size, 1, none⟩ = some (.int .i64 tm) := bA51
    have s2 : w5.cell? ⟨w.heap.size, 2, none⟩ = some (.int .i64 ld) := bA52
    have s3 : w5.cell? ⟨w4.heap.size, 0, none⟩ = some (.slice (some ⟨A4, 0, none⟩) n n) := bX50
    have s4 : w5.cell? ⟨w4.heap.size, 1, none⟩ = some (.int .i64 tm) := bX51
    have s5 : w5.cell? ⟨w4.heap.size, 2, none⟩ = some (.int .i64 ld) := bX52
    have sA : w.heap.size < w5.heap.size := bA5l
    have sX : w4.heap.size < w5.heap.size := bX5l
    clear bA50 bA51 bA52 bA5l bX50 bX51 bX52 bX5l
    have HS0 : w5.drew.cell? ⟨w.heap.size, 0, none⟩ = some (.slice A n c) ∧ w5.drew.cell? ⟨w.heap.size, 1, none⟩ = some (.int .i64 tm) ∧ w5.drew.cell? ⟨w.heap.size, 2, none⟩ = some (.int .i64 ld) ∧ w5.drew.cell? ⟨w4.heap.size, 0, none⟩ = some (.slice (some ⟨A4, 0, none⟩) n n) ∧ w5.drew.cell? ⟨w4.heap.size, 1, none⟩ = some (.int .i64 tm) ∧ w5.drew.cell? ⟨w4.heap.size, 2, none⟩ = some (.int .i64 ld) := ⟨s0, s1, s2, s3, s4, s5⟩
    have HTQ := Lib.hid (fun W (hW' : Below w5.heap.size w5 W) => HT.out W (HB5.out.trans (hW'.mono HB5.out.size)))
    have HEQ := Lib.hid (fun (W : World) (C : Option Addr) (d lo : Nat) (gs : List RH) (hd : gs.map rdat = vs) (hW' : Below w5.heap.size w5 W) (ho : OwnK KR W lo W.heap.size C d gs) => eqGroup_own tm ld (Xo_5.out.since hW') ho HGD4.out hd HVL.out (by have := hW'.size; omega) (Nat.le_refl _) HSM.out)
    have hbel := Below.refl w5.heap.size w5
    go_region_held3 (fun w' => w'.cell? ⟨w.heap.size, 0, none⟩ = some (.slice A n c) ∧ w'.cell? ⟨w.heap.size, 1, none⟩ = some (.int .i64 tm) ∧ w'.cell? ⟨w.heap.size, 2, none⟩ = some (.int .i64 ld) ∧ w'.cell? ⟨w4.heap.size, 0, none⟩ = some (.slice (some ⟨A4, 0, none⟩) n n) ∧ w'.cell? ⟨w4.heap.size, 1, none⟩ = some (.int .i64 tm) ∧ w'.cell? ⟨w4.heap.size, 2, none⟩ = some (.int .i64 ld))
      (first | with_reducible exact HS0 | with_reducible exact ⟨kept2 hQ1 s0 sA, kept2 hQ1 s1 sA, kept2 hQ1 s2 sA, kept2 hQ1 s3 sX, kept2 hQ1 s4 sX, kept2 hQ1 s5 sX⟩ | with_reducible exact ⟨kept2 hQ2 s0 sA, kept2 hQ2 s1 sA, kept2 hQ2 s2 sA, kept2 hQ2 s3 sX, kept2 hQ2 s4 sX, kept2 hQ2 s5 sX⟩ | fail)
      (first
        | (go_at_call 6; (with_reducible refine (HTQ.out _ hbel.drew).mono ?_); rintro e v1 ⟨A5, gs5, rfl, hgd5, hop5, hv1⟩; have hQ1 : Below w5.heap.size w5 v1 := below_d0 hv1)
        | (go_at_call 8; (with_reducible refine (HEQ.out v1 (some ⟨A5, 0, none⟩) n _ gs5 hgd5 hQ1 hop5).mono ?_); rintro e w6 ⟨rfl, hv2⟩; have hQ2 : Below w5.heap.size w5 w6 := hQ1.trans (hv2.mono hQ1.size))
        | fail)
    have ha6 := hQ2
    clear hv1 hv2 hQ1 hQ2 hop5 hgd5 HS0 s0 s1 s2 s3 s4 s5 sA sX HTQ HEQ hbel
    try (rename_i hh7; clear hh7)
    have HB6 := Lib.hid (HB5.out.trans (ha6.mono HB5.out.size))
    have hz6 := ha6.size
    have bA_6 := Lib.hid ((ha6.block (w.heap.size) (lt_blk bA_5.out)).trans bA_5.out)
    have bX_6 := Lib.hid ((ha6.block (w4.heap.size) (lt_blk bX_5.out)).trans bX_5.out)
    have Xo_6 := Lib.hid (Xo_5.out.since ha6)
    clear ha6
    go_wp2
    go_ret
    exact ⟨rfl, HB6.out⟩
  · rw [remI_no (show 1048576 < szAll szR hs by omega)] at HZ
    clear h hn hR hmx hk0
    go_enter Try.func3, Try.ntmps3
    go_wp2_with fail
    refine (HZ.out _ hb0).mono ?_
    rintro e w1 ⟨rfl, ha1⟩
    have HB := Lib.hid (hb0.trans (ha1.mono hb0.size))
    clear ha1
    go_wp2
    go_ret
    exact ⟨rfl, HB.out⟩
end Go.Proofs.Ytcelbnemblnabaa.Gr
