/-
  The walk of the exact law CopyTo.
-/
import Derived.Test.YtkhndofplebcaaaGrCt
import Derived.Test.YtkhndofplebcaaaGrCpS
import Derived.Test.YtkhndofplebcaaaGrCpI
namespace Go.Proofs.Ytkhndofplebcaaa.Gr
open Go.RowKit CM
set_option linter.unusedVariables false
set_option linter.unusedSimpArgs false

set_option maxRecDepth 100000 in
set_option maxHeartbeats 16000000 in
theorem copyTo_walk (w : World) (A : Option Addr) (n c : Nat) (tm ld : Int) (hs : List RH) (hn : hs.length = n) (hR : RowsB KR w w.heap.size A hs) (hmx : RpMax hs) (r : Int) (hwr : (Lit.int .i64 r).wf = true) :
    Calls Try.prog 7 #[.agg #[.slice A n c, .int .i64 tm, .int .i64 ld], .int .i64 r] w fun e w' => e = .returned (.bool true) ∧ Below w.heap.size w w' := by
  have hb0 := below1 w (.cells #[.slice A n c, .int .i64 tm, .int .i64 ld] 56)
  have hk0 := heap_alloc_new w (.cells #[.slice A n c, .int .i64 tm, .int .i64 ld] 56)
  have HZ := Lib.hid (fun W (hW' : Below w.heap.size w W) => szGroup_any A n c tm ld hs w.heap.size W hn (hR.below hW') hW'.size hmx)
  by_cases h : szAll szR hs ≤ 1048576
  · rw [remI_yes h] at HZ
    have hs0 : (0 : Int) ≤ ((1048576 : Nat) : Int) - ((szAll szR hs : Nat) : Int) := by omega
    obtain ⟨q0, hq0⟩ : ∃ q0, q0 = ((1048576 : Nat) : Int) - ((szAll szR hs : Nat) : Int) := ⟨_, rfl⟩
    rw [← hq0] at HZ hs0
    have hsm := rpsmall_of h
    have ht := fun W (hW' : Below w.heap.size w W) => toGroup_any A n c tm ld hs w.heap.size W hn (hR.below hW') hW'.size hsm
    simp only [ToGPost_un] at ht
    have hszv := aftG_small (hs := hs) h
    obtain ⟨vs, hvs⟩ : ∃ vs, vs = hs.map rdat := ⟨_, rfl⟩
    rw [← hvs] at hsm
    simp only [← hvs] at ht hszv
    have HT := Lib.hid ht
    have HSM := Lib.hid hsm
    have HVL := Lib.hid (show vs.length = n by rw [hvs, List.length_map]; exact hn)
    have HSV := Lib.hid hszv
    clear hvs hsm ht hszv
    have hspec := fun (W : World) (C : Option Addr) (d lo hi : Nat) (gs : List RH) (hd : gs.map rdat = vs) (ho : OwnK KR W lo hi C d gs) (hh : hi ≤ W.heap.size) => by have h9 := specCopyTo_any C n d tm ld r gs W.heap.size W (glen hd HVL.out) (ho.rows.mono hh) (Nat.le_refl _) (gsmall hd HSM.out); rw [hd] at h9; exact h9
    have himpl := fun (W : World) (C : Option Addr) (d lo hi : Nat) (gs : List RH) (hd : gs.map rdat = vs) (ho : OwnK KR W lo hi C d gs) (hh : hi ≤ W.heap.size) => by have h9 := implCopyTo_any C n d tm ld r gs W.heap.size W (glen hd HVL.out) (ho.rows.mono hh) (Nat.le_refl _) (gsmall hd HSM.out); rw [hd] at h9; exact h9
    have hasz := cpyA_sz (tm := tm) (ld := ld) (r := r) (rs := vs)
    obtain ⟨⟨l, at_, al, ok⟩, hr⟩ : ∃ ans9, ans9 = cpyA tm ld vs r := ⟨_, rfl⟩
    rw [← hr] at hasz
    simp only [← hr, GAPost_un] at hspec himpl
    simp only at hasz
    obtain ⟨na, hna⟩ : ∃ na, na = l.length := ⟨_, rfl⟩
    simp only [← hna] at hspec himpl
    have HNA := Lib.hid hna.symm
    have HASZ := Lib.hid hasz
    have HS := Lib.hid hspec
    have HI := Lib.hid himpl
    clear hspec himpl hr hna hasz
    have HB0 := Lib.hid hb0
    have bA_0 := Lib.hid hk0
    clear h hn hR hmx hq0 hk0
    go_enter Try.func7, Try.ntmps7
    go_wp2_with fail
    refine (HZ.out _ hb0).mono ?_
    rintro e w1 ⟨rfl, ha1⟩
    have h00 := hb0.size
    clear hb0
    have HB1 := Lib.hid (HB0.out.trans (ha1.mono HB0.out.size))
    have hz1 := ha1.size
    have bA_1 := Lib.hid ((ha1.block (w.heap.size) (lt_blk bA_0.out)).trans bA_0.out)
    clear ha1
    have hA1 := lt_blk bA_1.out
    have bA10 := cell_of_row _ _ 0 _ 56 (0, 0) bA_1.out
    have bA11 := cell_of_row _ _ 1 _ 56 (0, 0) bA_1.out
    have bA12 := cell_of_row _ _ 2 _ 56 (0, 0) bA_1.out
    have bA1l := lt_blk bA_1.out
    go_wp2_with fail
    refine (HT.out _ HB1.out).mono ?_
    rintro e w2 ⟨A2, gs2, rfl, hgd2, hop2, ha2⟩
    clear bA10 bA11 bA12 bA1l
    have HB2 := Lib.hid (HB1.out.trans (ha2.mono HB1.out.size))
    have hz2 := ha2.size
    have bA_2 := Lib.hid ((ha2.block (w.heap.size) (lt_blk bA_1.out)).trans bA_1.out)
    clear ha2
    have t2o_2 := Lib.hid hop2
    have HGD2 := Lib.hid hgd2
    clear hop2 hgd2
    go_wp2_with fail
    (with_reducible refine (HS.out _ (some ⟨A2, 0, none⟩) n _ _ gs2 HGD2.out t2o_2.out (by omega)).mono ?_)
    rintro e w3 ⟨E3, d3, gs3, rfl, hgd3, hop3, ha3⟩
    have HB3 := Lib.hid (HB2.out.trans (ha3.mono HB2.out.size))
    have hz3 := ha3.size
    have bA_3 := Lib.hid ((ha3.block (w.heap.size) (lt_blk bA_2.out)).trans bA_2.out)
    have t2o_3 := Lib.hid (t2o_2.out.since ha3)
    clear ha3
    have Wo_3 := Lib.hid hop3
    have HGD3 := Lib.hid hgd3
    clear hop3 hgd3
    have bA30 := cell_of_row _ _ 0 _ 56 (0, 0) bA_3.out
    have bA31 := cell_of_row _ _ 1 _ 56 (0, 0) bA_3.out
    have bA32 := cell_of_row _ _ 2 _ 56 (0, 0) bA_3.out
    have bA3l := lt_blk bA_3.out
    go_wp2_with fail
    obtain ⟨V3, hV3⟩ : ∃ V3, V3 = w3.alloc (.cells #[.slice E3 na d3, .int .i64 at_, .int .i64 al] 45) := ⟨_, rfl⟩
    have haV3 := below1 w3 (.cells #[.slice E3 na d3, .int .i64 at_, .int .i64 al] 45)
    have hnV3 := heap_alloc_new w3 (.cells #[.slice E3 na d3, .int .i64 at_, .int .i64 al] 45)
    rw [← hV3] at haV3 hnV3 ⊢
    have hsV3 : V3.heap.size = w3.heap.size + 1 := by rw [hV3]; simp
    clear bA30 bA31 bA32 bA3l
    clear hV3
    have HBV3 := Lib.hid (HB3.out.trans (haV3.mono HB3.out.size))
    have bA_V3 := Lib.hid ((haV3.block (w.heap.size) (lt_blk bA_3.out)).trans bA_3.out)
    have Wo_V3 := Lib.hid (Wo_3.out.since haV3)
    have bW_V3 := Lib.hid hnV3
    clear haV3 hnV3
    refine (HT.out _ HBV3.out).mono ?_
    rintro e w4 ⟨A4, gs4, rfl, hgd4, hop4, ha4⟩
    have HB4 := Lib.hid (HBV3.out.trans (ha4.mono HBV3.out.size))
    have hz4 := ha4.size
    have bA_4 := Lib.hid ((ha4.block (w.heap.size) (lt_blk bA_V3.out)).trans bA_V3.out)
    have bW_4 := Lib.hid ((ha4.block (w3.heap.size) (lt_blk bW_V3.out)).trans bW_V3.out)
    have Wo_4 := Lib.hid (Wo_V3.out.since ha4)
    clear ha4
    have Xo_4 := Lib.hid hop4
    have HGD4 := Lib.hid hgd4
    clear hop4 hgd4
    have bA40 := cell_of_row _ _ 0 _ 56 (0, 0) bA_4.out
    have bA41 := cell_of_row _ _ 1 _ 56 (0, 0) bA_4.out
    have bA42 := cell_of_row _ _ 2 _ 56 (0, 0) bA_4.out
    have bA4l := lt_blk bA_4.out
    have bW40 := cell_of_row _ _ 0 _ 45 (0, 0) bW_4.out
    have bW41 := cell_of_row _ _ 1 _ 45 (0, 0) bW_4.out
    have bW42 := cell_of_row _ _ 2 _ 45 (0, 0) bW_4.out
    have bW4l := lt_blk bW_4.out
    go_wp2_with fail
    obtain ⟨V4, hV4⟩ : ∃ V4, V4 = w4.alloc (.cells #[.slice (some ⟨A4, 0, none⟩) n n, .int .i64 tm, .int .i64 ld] 45) := ⟨_, rfl⟩
    have haV4 := below1 w4 (.cells #[.slice (some ⟨A4, 0, none⟩) n n, .int .i64 tm, .int .i64 ld] 45)
    have hnV4 := heap_alloc_new w4 (.cells #[.slice (some ⟨A4, 0, none⟩) n n, .int .i64 tm, .int .i64 ld] 45)
    rw [← hV4] at haV4 hnV4 ⊢
    have hsV4 : V4.heap.size = w4.heap.size + 1 := by rw [hV4]; simp
    clear bA40 bA41 bA42 bA4l bW40 bW41 bW42 bW4l
    clear hV4
    have HBV4 := Lib.hid (HB4.out.trans (haV4.mono HB4.out.size))
    have bA_V4 := Lib.hid ((haV4.block (w.heap.size) (lt_blk bA_4.out)).trans bA_4.out)
    have bW_V4 := Lib.hid ((haV4.block (w3.heap.size) (lt_blk bW_4.out)).trans bW_4.out)
    have Wo_V4 := Lib.hid (Wo_4.out.since haV4)
    have Xo_V4 := Lib.hid (Xo_4.out.since haV4)
    have bX_V4 := Lib.hid hnV4
    clear haV4 hnV4
    (with_reducible refine (HI.out _ (some ⟨A4, 0, none⟩) n _ _ gs4 HGD4.out Xo_V4.out (by omega)).mono ?_)
    rintro e w5 ⟨E5, d5, gs5, rfl, hgd5, hop5, ha5⟩
    have HB5 := Lib.hid (HBV4.out.trans (ha5.mono HBV4.out.size))
    have hz5 := ha5.size
    have bA_5 := Lib.hid ((ha5.block (w.heap.size) (lt_blk bA_V4.out)).trans bA_V4.out)
    have bW_5 := Lib.hid ((ha5.block (w3.heap.size) (lt_blk bW_V4.out)).trans bW_V4.out)
    have bX_5 := Lib.hid ((ha5.block (w4.heap.size) (lt_blk bX_V4.out)).trans bX_V4.out)
    have Wo_5 := Lib.hid (Wo_V4.out.since ha5)
    have Xo_5 := Lib.hid (Xo_V4.out.since ha5)
    clear ha5
    have Go_5 := Lib.hid hop5
    have HGD5 := Lib.hid hgd5
    clear hop5 hgd5
    have bW50 := cell_of_row _ _ 0 _ 45 (0, 0) bW_5.out
    have bW51 := cell_of_row _ _ 1 _ 45 (0, 0) bW_5.out
    have bW52 := cell_of_row _ _ 2 _ 45 (0, 0) bW_5.out
    have bW5l := lt_blk bW_5.out
    go_wp2_with fail
    obtain ⟨V5, hV5⟩ : ∃ V5, V5 = w5.alloc (.cells #[.slice E5 na d5, .int .i64 at_, .int .i64 al] 45) := ⟨_, rfl⟩
    have haV5 := below1 w5 (.cells #[.slice E5 na d5, .int .i64 at_, .int .i64 al] 45)
    have hnV5 := heap_alloc_new w5 (.cells #[.slice E5 na d5, .int .i64 at_, .int .i64 al] 45)
    rw [← hV5] at haV5 hnV5 ⊢
    have hsV5 : V5.heap.size = w5.heap.size + 1 := by rw [hV5]; simp
    clear bW50 bW51 bW52 bW5l
    clear hV5
    have HBV5 := Lib.hid (HB5.out.trans (haV5.mono HB5.out.size))
    have bA_V5 := Lib.hid ((haV5.block (w.heap.size) (lt_blk bA_5.out)).trans bA_5.out)
    have bW_V5 := Lib.hid ((haV5.block (w3.heap.size) (lt_blk bW_5.out)).trans bW_5.out)
    have bX_V5 := Lib.hid ((haV5.block (w4.heap.size) (lt_blk bX_5.out)).trans bX_5.out)
    have Wo_V5 := Lib.hid (Wo_5.out.since haV5)
    have Xo_V5 := Lib.hid (Xo_5.out.since haV5)
    have Go_V5 := Lib.hid (Go_5.out.since haV5)
    have bG_V5 := Lib.hid hnV5
    clear haV5 hnV5
    have bAV50 := cell_of_row _ _ 0 _ 56 (0, 0) bA_V5.out
    have bAV51 := cell_of_row _ _ 1 _ 56 (0, 0) bA_V5.out
    have bAV52 := cell_of_row _ _ 2 _ 56 (0, 0) bA_V5.out
    have bAV5l := lt_blk bA_V5.out
    have bXV50 := cell_of_row _ _ 0 _ 45 (0, 0) bX_V5.out
    have bXV51 := cell_of_row _ _ 1 _ 45 (0, 0) bX_V5.out
    have bXV52 := cell_of_row _ _ 2 _ 45 (0, 0) bX_V5.out
    have bXV5l := lt_blk bX_V5.out
    have HE6 := Lib.hid (eqGroup_own at_ al Go_V5.out Wo_V5.out HGD5.out HGD3.out HNA.out (by omega) (by omega) (rpSmall_sz HASZ.out))
    (with_reducible refine HE6.out.mono ?_)
    rintro e w6 ⟨rfl, ha6⟩
    clear bAV50 bAV51 bAV52 bAV5l bXV50 bXV51 bXV52 bXV5l
    have HB6 := Lib.hid (HBV5.out.trans (ha6.mono HBV5.out.size))
    have hz6 := ha6.size
    have bA_6 := Lib.hid ((ha6.block (w.heap.size) (lt_blk bA_V5.out)).trans bA_V5.out)
    have bW_6 := Lib.hid ((ha6.block (w3.heap.size) (lt_blk bW_V5.out)).trans bW_V5.out)
    have bX_6 := Lib.hid ((ha6.block (w4.heap.size) (lt_blk bX_V5.out)).trans bX_V5.out)
    have bG_6 := Lib.hid ((ha6.block (w5.heap.size) (lt_blk bG_V5.out)).trans bG_V5.out)
    have Wo_6 := Lib.hid (Wo_V5.out.since ha6)
    have Xo_6 := Lib.hid (Xo_V5.out.since ha6)
    have Go_6 := Lib.hid (Go_V5.out.since ha6)
    clear ha6
    clear HE6
    have bA60 := cell_of_row _ _ 0 _ 56 (0, 0) bA_6.out
    have bA61 := cell_of_row _ _ 1 _ 56 (0, 0) bA_6.out
    have bA62 := cell_of_row _ _ 2 _ 56 (0, 0) bA_6.out
    have bA6l := lt_blk bA_6.out
    have bX60 := cell_of_row _ _ 0 _ 45 (0, 0) bX_6.out
    have bX61 := cell_of_row _ _ 1 _ 45 (0, 0) bX_6.out
    have bX62 := cell_of_row _ _ 2 _ 45 (0, 0) bX_6.out
    have bX6l := lt_blk bX_6.out
    go_wp2_with fail
    have s0 : w6.cell? ⟨w.heap.size, 0, none⟩ = some (.slice A n c) := bA60
    have s1 : w6.cell? ⟨w.heap.size, 1, none⟩ = some (.int .i64 tm) := bA61
    have s2 : w6.cell? ⟨w.heap.size, 2, none⟩ = some (.int .i64 ld) := bA62
    have s3 : w6.cell? ⟨w4.heap.size, 0, none⟩ = some (.slice (some ⟨A4, 0, none⟩) n n) := bX60
    have s4 : w6.cell? ⟨w4.heap.size, 1, none⟩ = some (.int .i64 tm) := bX61
    have s5 : w6.cell? ⟨w4.heap.size, 2, none⟩ = some (.int .i64 ld) := bX62
    have sA : w.heap.size < w6.heap.size := bA6l
    have sX : w4.heap.size < w6.heap.size := bX6l
    clear bA60 bA61 bA62 bA6l bX60 bX61 bX62 bX6l
    have HS0 : w6.drew.cell? ⟨w.heap.size, 0, none⟩ = some (.slice A n c) ∧ w6.drew.cell? ⟨w.heap.size, 1, none⟩ = some (.int .i64 tm) ∧ w6.drew.cell? ⟨w.heap.size, 2, none⟩ = some (.int .i64 ld) ∧ w6.drew.cell? ⟨w4.heap.size, 0, none⟩ = some (.slice (some ⟨A4, 0, none⟩) n n) ∧ w6.drew.cell? ⟨w4.heap.size, 1, none⟩ = some (.int .i64 tm) ∧ w6.drew.cell? ⟨w4.heap.size, 2, none⟩ = some (.int .i64 ld) := ⟨s0, s1, s2, s3, s4, s5⟩
    have HTQ := Lib.hid (fun W (hW' : Below w6.heap.size w6 W) => HT.out W (HB6.out.trans (hW'.mono HB6.out.size)))
    have HEQ := Lib.hid (fun (W : World) (C : Option Addr) (d lo : Nat) (gs : List RH) (hd : gs.map rdat = vs) (hW' : Below w6.heap.size w6 W) (ho : OwnK KR W lo W.heap.size C d gs) => eqGroup_own tm ld (Xo_6.out.since hW') ho HGD4.out hd HVL.out (by have := hW'.size; omega) (Nat.le_refl _) HSM.out)
    have hbel := Below.refl w6.heap.size w6
    go_region_held3 (fun w' => w'.cell? ⟨w.heap.size, 0, none⟩ = some (.slice A n c) ∧ w'.cell? ⟨w.heap.size, 1, none⟩ = some (.int .i64 tm) ∧ w'.cell? ⟨w.heap.size, 2, none⟩ = some (.int .i64 ld) ∧ w'.cell? ⟨w4.heap.size, 0, none⟩ = some (.slice (some ⟨A4, 0, none⟩) n n) ∧ w'.cell? ⟨w4.heap.size, 1, none⟩ = some (.int .i64 tm) ∧ w'.cell? ⟨w4.heap.size, 2, none⟩ = some (.int .i64 ld))
      (first | with_reducible exact HS0 | with_reducible exact ⟨kept2 hQ1 s0 sA, kept2 hQ1 s1 sA, kept2 hQ1 s2 sA, kept2 hQ1 s3 sX, kept2 hQ1 s4 sX, kept2 hQ1 s5 sX⟩ | with_reducible exact ⟨kept2 hQ2 s0 sA, kept2 hQ2 s1 sA, kept2 hQ2 s2 sA, kept2 hQ2 s3 sX, kept2 hQ2 s4 sX, kept2 hQ2 s5 sX⟩ | fail)
      (first
        | (go_at_call 26; (with_reducible refine (HTQ.out _ hbel.drew).mono ?_); rintro e v1 ⟨A6, gs6, rfl, hgd6, hop6, hv1⟩; have hQ1 : Below w6.heap.size w6 v1 := below_d0 hv1)
        | (go_at_call 29; (with_reducible refine (HEQ.out v1 (some ⟨A6, 0, none⟩) n _ gs6 hgd6 hQ1 hop6).mono ?_); rintro e w7 ⟨rfl, hv2⟩; have hQ2 : Below w6.heap.size w6 w7 := hQ1.trans (hv2.mono hQ1.size))
        | fail)
    have ha7 := hQ2
    clear hv1 hv2 hQ1 hQ2 hop6 hgd6 HS0 s0 s1 s2 s3 s4 s5 sA sX HTQ HEQ hbel
    try (rename_i hh7; clear hh7)
    have HB7 := Lib.hid (HB6.out.trans (ha7.mono HB6.out.size))
    have hz7 := ha7.size
    have bA_7 := Lib.hid ((ha7.block (w.heap.size) (lt_blk bA_6.out)).trans bA_6.out)
    have bW_7 := Lib.hid ((ha7.block (w3.heap.size) (lt_blk bW_6.out)).trans bW_6.out)
    have bX_7 := Lib.hid ((ha7.block (w4.heap.size) (lt_blk bX_6.out)).trans bX_6.out)
    have bG_7 := Lib.hid ((ha7.block (w5.heap.size) (lt_blk bG_6.out)).trans bG_6.out)
    have Wo_7 := Lib.hid (Wo_6.out.since ha7)
    have Xo_7 := Lib.hid (Xo_6.out.since ha7)
    have Go_7 := Lib.hid (Go_6.out.since ha7)
    clear ha7
    have bX70 := cell_of_row _ _ 0 _ 45 (0, 0) bX_7.out
    have bX71 := cell_of_row _ _ 1 _ 45 (0, 0) bX_7.out
    have bX72 := cell_of_row _ _ 2 _ 45 (0, 0) bX_7.out
    have bX7l := lt_blk bX_7.out
    have bW70 := cell_of_row _ _ 0 _ 45 (0, 0) bW_7.out
    have bW71 := cell_of_row _ _ 1 _ 45 (0, 0) bW_7.out
    have bW72 := cell_of_row _ _ 2 _ 45 (0, 0) bW_7.out
    have bW7l := lt_blk bW_7.out
    have bG70 := cell_of_row _ _ 0 _ 45 (0, 0) bG_7.out
    have bG71 := cell_of_row _ _ 1 _ 45 (0, 0) bG_7.out
    have bG72 := cell_of_row _ _ 2 _ 45 (0, 0) bG_7.out
    have bG7l := lt_blk bG_7.out
    have HMX := Lib.hid (markR_ok HGD4.out (Nat.le_trans HSV.out (by omega)))
    have HM8 := Lib.hid (markGroup_any (some ⟨A4, 0, none⟩) n n _ _ tm ld gs4 w7 (glen HGD4.out HVL.out) Xo_7.out (by omega) HMX.out)
    obtain ⟨mx, hmx'⟩ : ∃ mx, mx = aft nxR 1 gs4 := ⟨_, rfl⟩
    rw [← hmx'] at HM8
    have hmx0 : (0 : Int) ≤ (mx : Int) := by omega
    clear hmx'
    go_wp2_with fail
    (with_reducible refine HM8.out.mono ?_)
    rintro e w8 ⟨rfl, hmi8, hmm8⟩
    clear bX70 bX71 bX72 bX7l bW70 bW71 bW72 bW7l bG70 bG71 bG72 bG7l
    have hz8 := hmm8.2.2.2.1
    have HB8 := Lib.hid (HB7.out.trans ((hmm8.below (by omega)).mono (by omega)))
    have bA_8 := Lib.hid ((hmm8.2.2.2.2 (w.heap.size) (lt_blk bA_7.out) (by omega)).trans bA_7.out)
    have bW_8 := Lib.hid ((hmm8.2.2.2.2 (w3.heap.size) (lt_blk bW_7.out) (by omega)).trans bW_7.out)
    have bX_8 := Lib.hid ((hmm8.2.2.2.2 (w4.heap.size) (lt_blk bX_7.out) (by omega)).trans bX_7.out)
    have bG_8 := Lib.hid ((hmm8.2.2.2.2 (w5.heap.size) (lt_blk bG_7.out) (by omega)).trans bG_7.out)
    have Wo_8 := Lib.hid (Wo_7.out.mid hmm8 (by omega))
    have Go_8 := Lib.hid (Go_7.out.mid hmm8 (by omega))
    have Xo_8 := Lib.hid hmi8
    clear hmi8
    clear hmm8 HM8
    have bX80 := cell_of_row _ _ 0 _ 45 (0, 0) bX_8.out
    have bX81 := cell_of_row _ _ 1 _ 45 (0, 0) bX_8.out
    have bX82 := cell_of_row _ _ 2 _ 45 (0, 0) bX_8.out
    have bX8l := lt_blk bX_8.out
    have bW80 := cell_of_row _ _ 0 _ 45 (0, 0) bW_8.out
    have bW81 := cell_of_row _ _ 1 _ 45 (0, 0) bW_8.out
    have bW82 := cell_of_row _ _ 2 _ 45 (0, 0) bW_8.out
    have bW8l := lt_blk bW_8.out
    have bG80 := cell_of_row _ _ 0 _ 45 (0, 0) bG_8.out
    have bG81 := cell_of_row _ _ 1 _ 45 (0, 0) bG_8.out
    have bG82 := cell_of_row _ _ 2 _ 45 (0, 0) bG_8.out
    have bG8l := lt_blk bG_8.out
    have HE9 := Lib.hid (eqGroup_own at_ al Go_8.out Wo_8.out HGD5.out HGD3.out HNA.out (by omega) (by omega) (rpSmall_sz HASZ.out))
    go_wp2_with fail
    (with_reducible refine HE9.out.mono ?_)
    rintro e w9 ⟨rfl, ha9⟩
    clear bX80 bX81 bX82 bX8l bW80 bW81 bW82 bW8l bG80 bG81 bG82 bG8l
    have HB9 := Lib.hid (HB8.out.trans (ha9.mono HB8.out.size))
    have hz9 := ha9.size
    have bA_9 := Lib.hid ((ha9.block (w.heap.size) (lt_blk bA_8.out)).trans bA_8.out)
    have bW_9 := Lib.hid ((ha9.block (w3.heap.size) (lt_blk bW_8.out)).trans bW_8.out)
    have bX_9 := Lib.hid ((ha9.block (w4.heap.size) (lt_blk bX_8.out)).trans bX_8.out)
    have bG_9 := Lib.hid ((ha9.block (w5.heap.size) (lt_blk bG_8.out)).trans bG_8.out)
    have Wo_9 := Lib.hid (Wo_8.out.since ha9)
    have Go_9 := Lib.hid (Go_8.out.since ha9)
    clear ha9
    clear HE9
    have HMK := Lib.hid (markR_ok HGD5.out (Nat.le_trans HASZ.out (by omega)))
    obtain ⟨mg, hmg⟩ : ∃ mg, mg = aft nxR 1 gs5 := ⟨_, rfl⟩
    have HMG := Lib.hid hmg.symm
    have hmg0 : (0 : Int) ≤ (mg : Int) := by omega
    clear hmg
    have HM10 := Lib.hid (markGroup_any E5 na d5 _ _ at_ al gs5 w9 (glen HGD5.out HNA.out) Go_9.out (by omega) HMK.out)
    rw [HMG.out] at HM10
    have bW90 := cell_of_row _ _ 0 _ 45 (0, 0) bW_9.out
    have bW91 := cell_of_row _ _ 1 _ 45 (0, 0) bW_9.out
    have bW92 := cell_of_row _ _ 2 _ 45 (0, 0) bW_9.out
    have bW9l := lt_blk bW_9.out
    have bG90 := cell_of_row _ _ 0 _ 45 (0, 0) bG_9.out
    have bG91 := cell_of_row _ _ 1 _ 45 (0, 0) bG_9.out
    have bG92 := cell_of_row _ _ 2 _ 45 (0, 0) bG_9.out
    have bG9l := lt_blk bG_9.out
    go_wp2_with fail
    (with_reducible refine HM10.out.mono ?_)
    rintro e w10 ⟨rfl, hmi10, hmm10⟩
    clear bW90 bW91 bW92 bW9l bG90 bG91 bG92 bG9l
    have hz10 := hmm10.2.2.2.1
    have HB10 := Lib.hid (HB9.out.trans ((hmm10.below (by omega)).mono (by omega)))
    have bA_10 := Lib.hid ((hmm10.2.2.2.2 (w.heap.size) (lt_blk bA_9.out) (by omega)).trans bA_9.out)
    have bW_10 := Lib.hid ((hmm10.2.2.2.2 (w3.heap.size) (lt_blk bW_9.out) (by omega)).trans bW_9.out)
    have bX_10 := Lib.hid ((hmm10.2.2.2.2 (w4.heap.size) (lt_blk bX_9.out) (by omega)).trans bX_9.out)
    have bG_10 := Lib.hid ((hmm10.2.2.2.2 (w5.heap.size) (lt_blk bG_9.out) (by omega)).trans bG_9.out)
    have Wo_10 := Lib.hid (Wo_9.out.mid hmm10 (by omega))
    have Go_10 := Lib.hid hmi10
    clear hmi10
    clear hmm10 HM10
    have bW100 := cell_of_row _ _ 0 _ 45 (0, 0) bW_10.out
    have bW101 := cell_of_row _ _ 1 _ 45 (0, 0) bW_10.out
    have bW102 := cell_of_row _ _ 2 _ 45 (0, 0) bW_10.out
    have bW10l := lt_blk bW_10.out
    have bG100 := cell_of_row _ _ 0 _ 45 (0, 0) bG_10.out
    have bG101 := cell_of_row _ _ 1 _ 45 (0, 0) bG_10.out
    have bG102 := cell_of_row _ _ 2 _ 45 (0, 0) bG_10.out
    have bG10l := lt_blk bG_10.out
    have HH11 := Lib.hid (heldGroup_any E5 na d5 _ at_ al gs5 w10 (glen HGD5.out HNA.out) Go_10.out.rows (by omega) HMK.out)
    rw [HMG.out] at HH11
    go_wp2_with fail
    (with_reducible refine HH11.out.mono ?_)
    rintro e w11 ⟨rfl, ha11⟩
    clear bW100 bW101 bW102 bW10l bG100 bG101 bG102 bG10l
    have HB11 := Lib.hid (HB10.out.trans (ha11.mono HB10.out.size))
    have hz11 := ha11.size
    have bA_11 := Lib.hid ((ha11.block (w.heap.size) (lt_blk bA_10.out)).trans bA_10.out)
    have bW_11 := Lib.hid ((ha11.block (w3.heap.size) (lt_blk bW_10.out)).trans bW_10.out)
    have bX_11 := Lib.hid ((ha11.block (w4.heap.size) (lt_blk bX_10.out)).trans bX_10.out)
    have bG_11 := Lib.hid ((ha11.block (w5.heap.size) (lt_blk bG_10.out)).trans bG_10.out)
    have Wo_11 := Lib.hid (Wo_10.out.since ha11)
    have Go_11 := Lib.hid (Go_10.out.since ha11)
    clear ha11
    clear HH11
    have bA110 := cell_of_row _ _ 0 _ 56 (0, 0) bA_11.out
    have bA111 := cell_of_row _ _ 1 _ 56 (0, 0) bA_11.out
    have bA112 := cell_of_row _ _ 2 _ 56 (0, 0) bA_11.out
    have bA11l := lt_blk bA_11.out
    have bW110 := cell_of_row _ _ 0 _ 45 (0, 0) bW_11.out
    have bW111 := cell_of_row _ _ 1 _ 45 (0, 0) bW_11.out
    have bW112 := cell_of_row _ _ 2 _ 45 (0, 0) bW_11.out
    have bW11l := lt_blk bW_11.out
    have bG110 := cell_of_row _ _ 0 _ 45 (0, 0) bG_11.out
    have bG111 := cell_of_row _ _ 1 _ 45 (0, 0) bG_11.out
    have bG112 := cell_of_row _ _ 2 _ 45 (0, 0) bG_11.out
    have bG11l := lt_blk bG_11.out
    go_wp2_with fail
    refine (HT.out _ HB11.out).mono ?_
    rintro e w12 ⟨A12, gs12, rfl, hgd12, hop12, ha12⟩
    clear bA110 bA111 bA112 bA11l bW110 bW111 bW112 bW11l bG110 bG111 bG112 bG11l
    have HB12 := Lib.hid (HB11.out.trans (ha12.mono HB11.out.size))
    have hz12 := ha12.size
    have bA_12 := Lib.hid ((ha12.block (w.heap.size) (lt_blk bA_11.out)).trans bA_11.out)
    have bW_12 := Lib.hid ((ha12.block (w3.heap.size) (lt_blk bW_11.out)).trans bW_11.out)
    have bX_12 := Lib.hid ((ha12.block (w4.heap.size) (lt_blk bX_11.out)).trans bX_11.out)
    have bG_12 := Lib.hid ((ha12.block (w5.heap.size) (lt_blk bG_11.out)).trans bG_11.out)
    have Wo_12 := Lib.hid (Wo_11.out.since ha12)
    have Go_12 := Lib.hid (Go_11.out.since ha12)
    clear ha12
    have Zo_12 := Lib.hid hop12
    have HGD12 := Lib.hid hgd12
    clear hop12 hgd12
    go_wp2_with fail
    (with_reducible refine (HI.out _ (some ⟨A12, 0, none⟩) n _ _ gs12 HGD12.out Zo_12.out (by omega)).mono ?_)
    rintro e w13 ⟨E13, d13, gs13, rfl, hgd13, hop13, ha13⟩
    have HB13 := Lib.hid (HB12.out.trans (ha13.mono HB12.out.size))
    have hz13 := ha13.size
    have bA_13 := Lib.hid ((ha13.block (w.heap.size) (lt_blk bA_12.out)).trans bA_12.out)
    have bW_13 := Lib.hid ((ha13.block (w3.heap.size) (lt_blk bW_12.out)).trans bW_12.out)
    have bX_13 := Lib.hid ((ha13.block (w4.heap.size) (lt_blk bX_12.out)).trans bX_12.out)
    have bG_13 := Lib.hid ((ha13.block (w5.heap.size) (lt_blk bG_12.out)).trans bG_12.out)
    have Wo_13 := Lib.hid (Wo_12.out.since ha13)
    have Go_13 := Lib.hid (Go_12.out.since ha13)
    have Zo_13 := Lib.hid (Zo_12.out.since ha13)
    clear ha13
    have Ho_13 := Lib.hid hop13
    have HGD13 := Lib.hid hgd13
    clear hop13 hgd13
    have bW130 := cell_of_row _ _ 0 _ 45 (0, 0) bW_13.out
    have bW131 := cell_of_row _ _ 1 _ 45 (0, 0) bW_13.out
    have bW132 := cell_of_row _ _ 2 _ 45 (0, 0) bW_13.out
    have bW13l := lt_blk bW_13.out
    go_wp2_with fail
    obtain ⟨V13, hV13⟩ : ∃ V13, V13 = w13.alloc (.cells #[.slice E13 na d13, .int .i64 at_, .int .i64 al] 45) := ⟨_, rfl⟩
    have haV13 := below1 w13 (.cells #[.slice E13 na d13, .int .i64 at_, .int .i64 al] 45)
    have hnV13 := heap_alloc_new w13 (.cells #[.slice E13 na d13, .int .i64 at_, .int .i64 al] 45)
    rw [← hV13] at haV13 hnV13 ⊢
    have hsV13 : V13.heap.size = w13.heap.size + 1 := by rw [hV13]; simp
    clear bW130 bW131 bW132 bW13l
    clear hV13
    have HBV13 := Lib.hid (HB13.out.trans (haV13.mono HB13.out.size))
    have bA_V13 := Lib.hid ((haV13.block (w.heap.size) (lt_blk bA_13.out)).trans bA_13.out)
    have bW_V13 := Lib.hid ((haV13.block (w3.heap.size) (lt_blk bW_13.out)).trans bW_13.out)
    have bX_V13 := Lib.hid ((haV13.block (w4.heap.size) (lt_blk bX_13.out)).trans bX_13.out)
    have bG_V13 := Lib.hid ((haV13.block (w5.heap.size) (lt_blk bG_13.out)).trans bG_13.out)
    have Wo_V13 := Lib.hid (Wo_13.out.since haV13)
    have Go_V13 := Lib.hid (Go_13.out.since haV13)
    have Ho_V13 := Lib.hid (Ho_13.out.since haV13)
    have bH_V13 := Lib.hid hnV13
    clear haV13 hnV13
    have HE14 := Lib.hid (eqGroup_own at_ al Ho_V13.out Wo_V13.out HGD13.out HGD3.out HNA.out (by omega) (by omega) (rpSmall_sz HASZ.out))
    (with_reducible refine HE14.out.mono ?_)
    rintro e w14 ⟨rfl, ha14⟩
    have HB14 := Lib.hid (HBV13.out.trans (ha14.mono HBV13.out.size))
    have hz14 := ha14.size
    have bA_14 := Lib.hid ((ha14.block (w.heap.size) (lt_blk bA_V13.out)).trans bA_V13.out)
    have bW_14 := Lib.hid ((ha14.block (w3.heap.size) (lt_blk bW_V13.out)).trans bW_V13.out)
    have bX_14 := Lib.hid ((ha14.block (w4.heap.size) (lt_blk bX_V13.out)).trans bX_V13.out)
    have bG_14 := Lib.hid ((ha14.block (w5.heap.size) (lt_blk bG_V13.out)).trans bG_V13.out)
    have bH_14 := Lib.hid ((ha14.block (w13.heap.size) (lt_blk bH_V13.out)).trans bH_V13.out)
    have Wo_14 := Lib.hid (Wo_V13.out.since ha14)
    have Go_14 := Lib.hid (Go_V13.out.since ha14)
    have Ho_14 := Lib.hid (Ho_V13.out.since ha14)
    clear ha14
    clear HE14
    have bG140 := cell_of_row _ _ 0 _ 45 (0, 0) bG_14.out
    have bG141 := cell_of_row _ _ 1 _ 45 (0, 0) bG_14.out
    have bG142 := cell_of_row _ _ 2 _ 45 (0, 0) bG_14.out
    have bG14l := lt_blk bG_14.out
    have HH15 := Lib.hid (heldGroup_any E5 na d5 _ at_ al gs5 w14 (glen HGD5.out HNA.out) Go_14.out.rows (by omega) HMK.out)
    rw [HMG.out] at HH15
    go_wp2_with fail
    (with_reducible refine HH15.out.mono ?_)
    rintro e w15 ⟨rfl, ha15⟩
    clear bG140 bG141 bG142 bG14l
    have HB15 := Lib.hid (HB14.out.trans (ha15.mono HB14.out.size))
    have hz15 := ha15.size
    have bA_15 := Lib.hid ((ha15.block (w.heap.size) (lt_blk bA_14.out)).trans bA_14.out)
    have bW_15 := Lib.hid ((ha15.block (w3.heap.size) (lt_blk bW_14.out)).trans bW_14.out)
    have bX_15 := Lib.hid ((ha15.block (w4.heap.size) (lt_blk bX_14.out)).trans bX_14.out)
    have bG_15 := Lib.hid ((ha15.block (w5.heap.size) (lt_blk bG_14.out)).trans bG_14.out)
    have bH_15 := Lib.hid ((ha15.block (w13.heap.size) (lt_blk bH_14.out)).trans bH_14.out)
    have Wo_15 := Lib.hid (Wo_14.out.since ha15)
    have Go_15 := Lib.hid (Go_14.out.since ha15)
    have Ho_15 := Lib.hid (Ho_14.out.since ha15)
    clear ha15
    clear HH15
    go_wp2
    go_ret
    exact ⟨rfl, HB15.out⟩
  · rw [remI_no (show 1048576 < szAll szR hs by omega)] at HZ
    clear h hn hR hmx hk0
    go_enter Try.func7, Try.ntmps7
    go_wp2_with fail
    refine (HZ.out _ hb0).mono ?_
    rintro e w1 ⟨rfl, ha1⟩
    have HB := Lib.hid (hb0.trans (ha1.mono hb0.size))
    clear ha1
    go_wp2
    go_ret
    exact ⟨rfl, HB.out⟩
end Go.Proofs.Ytkhndofplebcaaa.Gr
