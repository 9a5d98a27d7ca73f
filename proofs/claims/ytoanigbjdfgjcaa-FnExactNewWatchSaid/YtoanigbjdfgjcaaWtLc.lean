/-
  The walk of the exact law NewWatch.
-/
import Derived.Test.YtoanigbjdfgjcaaWtL0
import Derived.Test.YtoanigbjdfgjcaaWtF2
import Derived.Deep.RegionHeld3
import Derived.Deep.DeepCutAuto
namespace Go.Proofs.Ytoanigbjdfgjcaa.Wt
open Go.RowKit
set_option linter.unusedVariables false
set_option linter.unusedSimpArgs false

set_option maxRecDepth 100000 in
set_option maxHeartbeats 8000000 in
theorem newWatch_walk (w : World) (A : Option Addr) (n c : Nat) (is : List Int) (hn : is.length = n) (hln : n ≤ maxLen) (hA : CksB w w.heap.size A is)  :
    Calls Try.prog 4 #[.slice A n c] w fun e w' => e = .returned (.bool true) ∧ Below w.heap.size w w' := by
  by_cases h : n ≤ 1048576
  · have hz := fun W => szClockS_any A n c 1048576 W hln (Nat.le_refl _)
    rw [remI_yes h, show ((1048576 : Nat) : Int) = 1048576 from rfl] at hz
    have hs0 : (0 : Int) ≤ 1048576 - (n : Int) := by omega
    obtain ⟨q0, hq0⟩ : ∃ q0, q0 = 1048576 - (n : Int) := ⟨_, rfl⟩
    rw [← hq0] at hz hs0
    have HZ := Lib.hid hz
    clear hz hq0
    have ht := fun W (hW : Below w.heap.size w W) => toClockS_any A n c is w.heap.size W hn (hA.below hW) hW.size h
    unfold ToCk at ht
    have HT := Lib.hid ht
    clear ht
    have hspec := fun (W : World) (C : Option Addr) (d lo hi : Nat) (hoi : OwnCk W lo hi C d is) (hh : hi ≤ W.heap.size) => specNewWatch_any C n d is W.heap.size W hn (hoi.cks.mono hh) (Nat.le_refl _) h
    have himpl := fun (W : World) (C : Option Addr) (d lo hi : Nat) (hoi : OwnCk W lo hi C d is) (hh : hi ≤ W.heap.size) => implNewWatch_any C n d is W.heap.size W hn (hoi.cks.mono hh) (Nat.le_refl _) h
    have hsm : (newW is).2.1.length ≤ 1048576 ∧ (newW is).2.2.1.length ≤ 2000000 := ifW_small
    obtain ⟨⟨an, ai, al, ok⟩, hr⟩ : ∃ r, r = newW is := ⟨_, rfl⟩
    rw [← hr] at hsm
    simp only [← hr] at hspec himpl
    simp only [WAPost_un] at hspec himpl
    simp only at hsm
    obtain ⟨ni, hni⟩ : ∃ ni, ni = ai.length := ⟨_, rfl⟩
    obtain ⟨nl, hnl⟩ : ∃ nl, nl = al.length := ⟨_, rfl⟩
    rw [← hni, ← hnl] at hsm
    simp only [← hni, ← hnl] at hspec himpl
    obtain ⟨hsm1, hsm2⟩ := hsm
    have HS := Lib.hid hspec
    have HI := Lib.hid himpl
    have HNI := Lib.hid hni.symm
    have HNL := Lib.hid hnl.symm
    have HN := Lib.hid hn
    have m1 : (0 : Int) ≤ ((1 + n : Nat) : Int) := by omega
    have m2 : (0 : Int) ≤ ((1 + ni + 3 * nl : Nat) : Int) := by omega
    obtain ⟨mx, hmxx⟩ : ∃ mx, mx = 1 + n := ⟨_, rfl⟩
    obtain ⟨mg, hmgg⟩ : ∃ mg, mg = 1 + ni + 3 * nl := ⟨_, rfl⟩
    rw [← hmxx] at m1
    rw [← hmgg] at m2
    have HMX := Lib.hid hmxx.symm
    have HMG := Lib.hid hmgg.symm
    have HB0 := Lib.hid (Below.refl w.heap.size w)
    clear hspec himpl hr hni hnl hA hn hln hmxx hmgg
    go_enter Try.func4, Try.ntmps4
    go_wp2_with fail
    refine (HZ.out _).mono ?_
    rintro e w0 ⟨rfl, rfl⟩
    go_wp2_with fail
    refine (HT.out _ HB0.out).mono ?_
    rintro e w1 ⟨A1, rfl, hoi1, ha1⟩
    have HB1 := Lib.hid (HB0.out.trans (ha1.mono HB0.out.size))
    have hz1 := ha1.size
    clear ha1
    have t1i_1 := Lib.hid hoi1
    clear hoi1
    have h00 := HB0.out.size
    go_wp2_with fail
    refine (HS.out _ (some ⟨A1, 0, none⟩) n _ _ t1i_1.out (by omega)).mono ?_
    rintro e w2 ⟨A2, c2, D2, d2, rfl, hoi2, hol2, ha2⟩
    have HB2 := Lib.hid (HB1.out.trans (ha2.mono HB1.out.size))
    have hz2 := ha2.size
    have t1i_2 := Lib.hid (t1i_1.out.since ha2 (by omega))
    clear ha2
    have Wi_2 := Lib.hid hoi2
    have Wl_2 := Lib.hid hol2
    clear hoi2 hol2
    go_wp2_with fail
    obtain ⟨V2, hV2⟩ : ∃ V2, V2 = w2.alloc (.cells #[.int .i64 an, .slice A2 ni c2, .slice D2 nl d2] 31) := ⟨_, rfl⟩
    have haV2 := below1 w2 (.cells #[.int .i64 an, .slice A2 ni c2, .slice D2 nl d2] 31)
    have hnV2 := heap_alloc_new w2 (.cells #[.int .i64 an, .slice A2 ni c2, .slice D2 nl d2] 31)
    rw [← hV2] at haV2 hnV2 ⊢
    have hsV2 : V2.heap.size = w2.heap.size + 1 := by rw [hV2]; simp
    have HBV2 := Lib.hid (HB2.out.trans (haV2.mono HB2.out.size))
    have Wi_V2 := Lib.hid (Wi_2.out.since haV2 (by omega))
    have Wl_V2 := Lib.hid (Wl_2.out.since haV2 (by omega))
    have bW_V2 := Lib.hid hnV2
    have hzV2 := haV2.size
    clear hV2 haV2 hnV2
    refine (HT.out _ HBV2.out).mono ?_
    rintro e w3 ⟨A3, rfl, hoi3, ha3⟩
    have HB3 := Lib.hid (HBV2.out.trans (ha3.mono HBV2.out.size))
    have hz3 := ha3.size
    have bW_3 := Lib.hid ((ha3.block (w2.heap.size) (lt_blk bW_V2.out)).trans bW_V2.out)
    have Wi_3 := Lib.hid (Wi_V2.out.since ha3 (by omega))
    have Wl_3 := Lib.hid (Wl_V2.out.since ha3 (by omega))
    clear ha3
    have Xi_3 := Lib.hid hoi3
    clear hoi3
    go_wp2_with fail
    refine (HI.out _ (some ⟨A3, 0, none⟩) n _ _ Xi_3.out (by omega)).mono ?_
    rintro e w4 ⟨A4, c4, D4, d4, rfl, hoi4, hol4, ha4⟩
    have HB4 := Lib.hid (HB3.out.trans (ha4.mono HB3.out.size))
    have hz4 := ha4.size
    have bW_4 := Lib.hid ((ha4.block (w2.heap.size) (lt_blk bW_3.out)).trans bW_3.out)
    have Wi_4 := Lib.hid (Wi_3.out.since ha4 (by omega))
    have Wl_4 := Lib.hid (Wl_3.out.since ha4 (by omega))
    have Xi_4 := Lib.hid (Xi_3.out.since ha4 (by omega))
    clear ha4
    have Gi_4 := Lib.hid hoi4
    have Gl_4 := Lib.hid hol4
    clear hoi4 hol4
    have bW40 := cell_of_row _ _ 0 _ 31 (0, 0) bW_4.out
    have bW41 := cell_of_row _ _ 1 _ 31 (0, 0) bW_4.out
    have bW42 := cell_of_row _ _ 2 _ 31 (0, 0) bW_4.out
    have bW4l := lt_blk bW_4.out
    go_wp2_with fail
    obtain ⟨V4, hV4⟩ : ∃ V4, V4 = w4.alloc (.cells #[.int .i64 an, .slice A4 ni c4, .slice D4 nl d4] 31) := ⟨_, rfl⟩
    have haV4 := below1 w4 (.cells #[.int .i64 an, .slice A4 ni c4, .slice D4 nl d4] 31)
    have hnV4 := heap_alloc_new w4 (.cells #[.int .i64 an, .slice A4 ni c4, .slice D4 nl d4] 31)
    rw [← hV4] at haV4 hnV4 ⊢
    have hsV4 : V4.heap.size = w4.heap.size + 1 := by rw [hV4]; simp
    clear bW40 bW41 bW42 bW4l
    have HBV4 := Lib.hid (HB4.out.trans (haV4.mono HB4.out.size))
    have bW_V4 := Lib.hid ((haV4.block (w2.heap.size) (lt_blk bW_4.out)).trans bW_4.out)
    have Wi_V4 := Lib.hid (Wi_4.out.since haV4 (by omega))
    have Wl_V4 := Lib.hid (Wl_4.out.since haV4 (by omega))
    have Xi_V4 := Lib.hid (Xi_4.out.since haV4 (by omega))
    have Gi_V4 := Lib.hid (Gi_4.out.since haV4 (by omega))
    have Gl_V4 := Lib.hid (Gl_4.out.since haV4 (by omega))
    have bG_V4 := Lib.hid hnV4
    have hzV4 := haV4.size
    clear hV4 haV4 hnV4
    have HE5 := Lib.hid (eqWatch_same an A4 D4 A2 D2 ni c4 nl d4 c2 d2 ai al V4.heap.size V4 HNI.out HNL.out (Gi_V4.out.cks.mono (by omega)) (Gl_V4.out.les.mono (by omega)) (Wi_V4.out.cks.mono (by omega)) (Wl_V4.out.les.mono (by omega)) (Nat.le_refl _) (by omega) (by omega))
    refine HE5.out.mono ?_
    rintro e w5 ⟨rfl, ha5⟩
    have HB5 := Lib.hid (HBV4.out.trans (ha5.mono HBV4.out.size))
    have hz5 := ha5.size
    have bW_5 := Lib.hid ((ha5.block (w2.heap.size) (lt_blk bW_V4.out)).trans bW_V4.out)
    have bG_5 := Lib.hid ((ha5.block (w4.heap.size) (lt_blk bG_V4.out)).trans bG_V4.out)
    have Wi_5 := Lib.hid (Wi_V4.out.since ha5 (by omega))
    have Wl_5 := Lib.hid (Wl_V4.out.since ha5 (by omega))
    have Xi_5 := Lib.hid (Xi_V4.out.since ha5 (by omega))
    have Gi_5 := Lib.hid (Gi_V4.out.since ha5 (by omega))
    have Gl_5 := Lib.hid (Gl_V4.out.since ha5 (by omega))
    clear ha5
    clear HE5
    go_wp2_with fail
    refine (HT.out _ HB5.out).mono ?_
    rintro e w6 ⟨A6, rfl, hoi6, ha6⟩
    have HB6 := Lib.hid (HB5.out.trans (ha6.mono HB5.out.size))
    have hz6 := ha6.size
    have bW_6 := Lib.hid ((ha6.block (w2.heap.size) (lt_blk bW_5.out)).trans bW_5.out)
    have bG_6 := Lib.hid ((ha6.block (w4.heap.size) (lt_blk bG_5.out)).trans bG_5.out)
    have Wi_6 := Lib.hid (Wi_5.out.since ha6 (by omega))
    have Wl_6 := Lib.hid (Wl_5.out.since ha6 (by omega))
    have Xi_6 := Lib.hid (Xi_5.out.since ha6 (by omega))
    have Gi_6 := Lib.hid (Gi_5.out.since ha6 (by omega))
    have Gl_6 := Lib.hid (Gl_5.out.since ha6 (by omega))
    clear ha6
    have t6i_6 := Lib.hid hoi6
    clear hoi6
    have HE7 := Lib.hid (eqClockS_same (some ⟨A3, 0, none⟩) (some ⟨A6, 0, none⟩) n n n is w6.heap.size w6 HN.out (Xi_6.out.cks.mono (by omega)) (t6i_6.out.cks.mono (by omega)) (Nat.le_refl _) (by omega))
    go_wp2_with fail
    refine HE7.out.mono ?_
    rintro e w7 ⟨rfl, ha7⟩
    have HB7 := Lib.hid (HB6.out.trans (ha7.mono HB6.out.size))
    have hz7 := ha7.size
    have bW_7 := Lib.hid ((ha7.block (w2.heap.size) (lt_blk bW_6.out)).trans bW_6.out)
    have bG_7 := Lib.hid ((ha7.block (w4.heap.size) (lt_blk bG_6.out)).trans bG_6.out)
    have Wi_7 := Lib.hid (Wi_6.out.since ha7 (by omega))
    have Wl_7 := Lib.hid (Wl_6.out.since ha7 (by omega))
    have Xi_7 := Lib.hid (Xi_6.out.since ha7 (by omega))
    have Gi_7 := Lib.hid (Gi_6.out.since ha7 (by omega))
    have Gl_7 := Lib.hid (Gl_6.out.since ha7 (by omega))
    have t6i_7 := Lib.hid (t6i_6.out.since ha7 (by omega))
    clear ha7
    clear HE7
    have HM8 := Lib.hid (markClockS_any (some ⟨A3, 0, none⟩) n n 1 _ _ is w7 HN.out Xi_7.out (Nat.le_refl _) (by omega))
    rw [HMX.out] at HM8
    go_wp2_with fail
    refine HM8.out.mono ?_
    rintro e w8 ⟨rfl, hmi8, hma8⟩
    have hmm8 := hma8.mid (own_rangeW Xi_7.out)
    clear hma8
    have hz8 := hmm8.2.2.2.1
    have HB8 := Lib.hid (HB7.out.trans ((hmm8.below (by omega)).mono (by omega)))
    have bW_8 := Lib.hid ((hmm8.2.2.2.2 (w2.heap.size) (lt_blk bW_7.out) (by omega)).trans bW_7.out)
    have bG_8 := Lib.hid ((hmm8.2.2.2.2 (w4.heap.size) (lt_blk bG_7.out) (by omega)).trans bG_7.out)
    have Wi_8 := Lib.hid (Wi_7.out.mid hmm8 (by omega))
    have Wl_8 := Lib.hid (Wl_7.out.mid hmm8 (by omega))
    have Gi_8 := Lib.hid (Gi_7.out.mid hmm8 (by omega))
    have Gl_8 := Lib.hid (Gl_7.out.mid hmm8 (by omega))
    have Xi_8 := Lib.hid hmi8
    clear hmi8
    clear hmm8 HM8
    have bW80 := cell_of_row _ _ 0 _ 31 (0, 0) bW_8.out
    have bW81 := cell_of_row _ _ 1 _ 31 (0, 0) bW_8.out
    have bW82 := cell_of_row _ _ 2 _ 31 (0, 0) bW_8.out
    have bW8l := lt_blk bW_8.out
    have bG80 := cell_of_row _ _ 0 _ 31 (0, 0) bG_8.out
    have bG81 := cell_of_row _ _ 1 _ 31 (0, 0) bG_8.out
    have bG82 := cell_of_row _ _ 2 _ 31 (0, 0) bG_8.out
    have bG8l := lt_blk bG_8.out
    have HE9 := Lib.hid (eqWatch_same an A4 D4 A2 D2 ni c4 nl d4 c2 d2 ai al w8.heap.size w8 HNI.out HNL.out (Gi_8.out.cks.mono (by omega)) (Gl_8.out.les.mono (by omega)) (Wi_8.out.cks.mono (by omega)) (Wl_8.out.les.mono (by omega)) (Nat.le_refl _) (by omega) (by omega))
    go_wp2_with fail
    refine HE9.out.mono ?_
    rintro e w9 ⟨rfl, ha9⟩
    clear bW80 bW81 bW82 bW8l bG80 bG81 bG82 bG8l
    have HB9 := Lib.hid (HB8.out.trans (ha9.mono HB8.out.size))
    have hz9 := ha9.size
    have bW_9 := Lib.hid ((ha9.block (w2.heap.size) (lt_blk bW_8.out)).trans bW_8.out)
    have bG_9 := Lib.hid ((ha9.block (w4.heap.size) (lt_blk bG_8.out)).trans bG_8.out)
    have Wi_9 := Lib.hid (Wi_8.out.since ha9 (by omega))
    have Wl_9 := Lib.hid (Wl_8.out.since ha9 (by omega))
    have Gi_9 := Lib.hid (Gi_8.out.since ha9 (by omega))
    have Gl_9 := Lib.hid (Gl_8.out.since ha9 (by omega))
    clear ha9
    clear HE9
    have bG90 := cell_of_row _ _ 0 _ 31 (0, 0) bG_9.out
    have bG91 := cell_of_row _ _ 1 _ 31 (0, 0) bG_9.out
    have bG92 := cell_of_row _ _ 2 _ 31 (0, 0) bG_9.out
    have bG9l := lt_blk bG_9.out
    have HM10 := Lib.hid (markWatch_any an A4 D4 ni c4 nl d4 1 _ _ ai al w9 HNI.out HNL.out Gi_9.out Gl_9.out (by omega) (by omega) (Nat.le_refl _) (by omega))
    rw [HMG.out] at HM10
    go_wp2_with fail
    refine HM10.out.mono ?_
    rintro e w10 ⟨rfl, hmi10, hml10, hmm10⟩
    clear bG90 bG91 bG92 bG9l
    have hz10 := hmm10.2.2.2.1
    have HB10 := Lib.hid (HB9.out.trans ((hmm10.below (by omega)).mono (by omega)))
    have bW_10 := Lib.hid ((hmm10.2.2.2.2 (w2.heap.size) (lt_blk bW_9.out) (by omega)).trans bW_9.out)
    have bG_10 := Lib.hid ((hmm10.2.2.2.2 (w4.heap.size) (lt_blk bG_9.out) (by omega)).trans bG_9.out)
    have Wi_10 := Lib.hid (Wi_9.out.mid hmm10 (by omega))
    have Wl_10 := Lib.hid (Wl_9.out.mid hmm10 (by omega))
    have Gi_10 := Lib.hid hmi10
    clear hmi10
    have Gl_10 := Lib.hid hml10
    clear hml10
    clear hmm10 HM10
    have bG100 := cell_of_row _ _ 0 _ 31 (0, 0) bG_10.out
    have bG101 := cell_of_row _ _ 1 _ 31 (0, 0) bG_10.out
    have bG102 := cell_of_row _ _ 2 _ 31 (0, 0) bG_10.out
    have bG10l := lt_blk bG_10.out
    have HH11 := Lib.hid (heldWatch_any an A4 D4 ni c4 nl d4 1 w10.heap.size w10 (OwnCk.cks Gi_10.out |>.mono (by omega)) (OwnLe.les Gl_10.out |>.mono (by omega)) (Nat.le_refl _) (Nat.le_refl _) (by omega))
    rw [HMG.out] at HH11
    go_wp2_with fail
    refine HH11.out.mono ?_
    rintro e w11 ⟨rfl, ha11⟩
    clear bG100 bG101 bG102 bG10l
    have HB11 := Lib.hid (HB10.out.trans (ha11.mono HB10.out.size))
    have hz11 := ha11.size
    have bW_11 := Lib.hid ((ha11.block (w2.heap.size) (lt_blk bW_10.out)).trans bW_10.out)
    have bG_11 := Lib.hid ((ha11.block (w4.heap.size) (lt_blk bG_10.out)).trans bG_10.out)
    have Wi_11 := Lib.hid (Wi_10.out.since ha11 (by omega))
    have Wl_11 := Lib.hid (Wl_10.out.since ha11 (by omega))
    have Gi_11 := Lib.hid (Gi_10.out.since ha11 (by omega))
    have Gl_11 := Lib.hid (Gl_10.out.since ha11 (by omega))
    clear ha11
    clear HH11
    go_wp2_with fail
    refine (HT.out _ HB11.out).mono ?_
    rintro e w12 ⟨A12, rfl, hoi12, ha12⟩
    have HB12 := Lib.hid (HB11.out.trans (ha12.mono HB11.out.size))
    have hz12 := ha12.size
    have bW_12 := Lib.hid ((ha12.block (w2.heap.size) (lt_blk bW_11.out)).trans bW_11.out)
    have bG_12 := Lib.hid ((ha12.block (w4.heap.size) (lt_blk bG_11.out)).trans bG_11.out)
    have Wi_12 := Lib.hid (Wi_11.out.since ha12 (by omega))
    have Wl_12 := Lib.hid (Wl_11.out.since ha12 (by omega))
    have Gi_12 := Lib.hid (Gi_11.out.since ha12 (by omega))
    have Gl_12 := Lib.hid (Gl_11.out.since ha12 (by omega))
    clear ha12
    have Zi_12 := Lib.hid hoi12
    clear hoi12
    go_wp2_with fail
    refine (HI.out _ (some ⟨A12, 0, none⟩) n _ _ Zi_12.out (by omega)).mono ?_
    rintro e w13 ⟨A13, c13, D13, d13, rfl, hoi13, hol13, ha13⟩
    have HB13 := Lib.hid (HB12.out.trans (ha13.mono HB12.out.size))
    have hz13 := ha13.size
    have bW_13 := Lib.hid ((ha13.block (w2.heap.size) (lt_blk bW_12.out)).trans bW_12.out)
    have bG_13 := Lib.hid ((ha13.block (w4.heap.size) (lt_blk bG_12.out)).trans bG_12.out)
    have Wi_13 := Lib.hid (Wi_12.out.since ha13 (by omega))
    have Wl_13 := Lib.hid (Wl_12.out.since ha13 (by omega))
    have Gi_13 := Lib.hid (Gi_12.out.since ha13 (by omega))
    have Gl_13 := Lib.hid (Gl_12.out.since ha13 (by omega))
    have Zi_13 := Lib.hid (Zi_12.out.since ha13 (by omega))
    clear ha13
    have Hi_13 := Lib.hid hoi13
    have Hl_13 := Lib.hid hol13
    clear hoi13 hol13
    have bW130 := cell_of_row _ _ 0 _ 31 (0, 0) bW_13.out
    have bW131 := cell_of_row _ _ 1 _ 31 (0, 0) bW_13.out
    have bW132 := cell_of_row _ _ 2 _ 31 (0, 0) bW_13.out
    have bW13l := lt_blk bW_13.out
    have bG130 := cell_of_row _ _ 0 _ 31 (0, 0) bG_13.out
    have bG131 := cell_of_row _ _ 1 _ 31 (0, 0) bG_13.out
    have bG132 := cell_of_row _ _ 2 _ 31 (0, 0) bG_13.out
    have bG13l := lt_blk bG_13.out
    go_wp2_with fail
    obtain ⟨V13, hV13⟩ : ∃ V13, V13 = w13.alloc (.cells #[.int .i64 an, .slice A13 ni c13, .slice D13 nl d13] 31) := ⟨_, rfl⟩
    have haV13 := below1 w13 (.cells #[.int .i64 an, .slice A13 ni c13, .slice D13 nl d13] 31)
    have hnV13 := heap_alloc_new w13 (.cells #[.int .i64 an, .slice A13 ni c13, .slice D13 nl d13] 31)
    rw [← hV13] at haV13 hnV13 ⊢
    have hsV13 : V13.heap.size = w13.heap.size + 1 := by rw [hV13]; simp
    clear bW130 bW131 bW132 bW13l bG130 bG131 bG132 bG13l
    have HBV13 := Lib.hid (HB13.out.trans (haV13.mono HB13.out.size))
    have bW_V13 := Lib.hid ((haV13.block (w2.heap.size) (lt_blk bW_13.out)).trans bW_13.out)
    have bG_V13 := Lib.hid ((haV13.block (w4.heap.size) (lt_blk bG_13.out)).trans bG_13.out)
    have Wi_V13 := Lib.hid (Wi_13.out.since haV13 (by omega))
    have Wl_V13 := Lib.hid (Wl_13.out.since haV13 (by omega))
    have Gi_V13 := Lib.hid (Gi_13.out.since haV13 (by omega))
    have Gl_V13 := Lib.hid (Gl_13.out.since haV13 (by omega))
    have Hi_V13 := Lib.hid (Hi_13.out.since haV13 (by omega))
    have Hl_V13 := Lib.hid (Hl_13.out.since haV13 (by omega))
    have bH_V13 := Lib.hid hnV13
    have hzV13 := haV13.size
    clear hV13 haV13 hnV13
    have HE14 := Lib.hid (eqWatch_same an A13 D13 A2 D2 ni c13 nl d13 c2 d2 ai al V13.heap.size V13 HNI.out HNL.out (Hi_V13.out.cks.mono (by omega)) (Hl_V13.out.les.mono (by omega)) (Wi_V13.out.cks.mono (by omega)) (Wl_V13.out.les.mono (by omega)) (Nat.le_refl _) (by omega) (by omega))
    refine HE14.out.mono ?_
    rintro e w14 ⟨rfl, ha14⟩
    have HB14 := Lib.hid (HBV13.out.trans (ha14.mono HBV13.out.size))
    have hz14 := ha14.size
    have bW_14 := Lib.hid ((ha14.block (w2.heap.size) (lt_blk bW_V13.out)).trans bW_V13.out)
    have bG_14 := Lib.hid ((ha14.block (w4.heap.size) (lt_blk bG_V13.out)).trans bG_V13.out)
    have bH_14 := Lib.hid ((ha14.block (w13.heap.size) (lt_blk bH_V13.out)).trans bH_V13.out)
    have Wi_14 := Lib.hid (Wi_V13.out.since ha14 (by omega))
    have Wl_14 := Lib.hid (Wl_V13.out.since ha14 (by omega))
    have Gi_14 := Lib.hid (Gi_V13.out.since ha14 (by omega))
    have Gl_14 := Lib.hid (Gl_V13.out.since ha14 (by omega))
    have Hi_14 := Lib.hid (Hi_V13.out.since ha14 (by omega))
    have Hl_14 := Lib.hid (Hl_V13.out.since ha14 (by omega))
    clear ha14
    clear HE14
    have bG140 := cell_of_row _ _ 0 _ 31 (0, 0) bG_14.out
    have bG141 := cell_of_row _ _ 1 _ 31 (0, 0) bG_14.out
    have bG142 := cell_of_row _ _ 2 _ 31 (0, 0) bG_14.out
    have bG14l := lt_blk bG_14.out
    have HH15 := Lib.hid (heldWatch_any an A4 D4 ni c4 nl d4 1 w14.heap.size w14 (OwnCk.cks Gi_14.out |>.mono (by omega)) (OwnLe.les Gl_14.out |>.mono (by omega)) (Nat.le_refl _) (Nat.le_refl _) (by omega))
    rw [HMG.out] at HH15
    go_wp2_with fail
    refine HH15.out.mono ?_
    rintro e w15 ⟨rfl, ha15⟩
    clear bG140 bG141 bG142 bG14l
    have HB15 := Lib.hid (HB14.out.trans (ha15.mono HB14.out.size))
    have hz15 := ha15.size
    have bW_15 := Lib.hid ((ha15.block (w2.heap.size) (lt_blk bW_14.out)).trans bW_14.out)
    have bG_15 := Lib.hid ((ha15.block (w4.heap.size) (lt_blk bG_14.out)).trans bG_14.out)
    have bH_15 := Lib.hid ((ha15.block (w13.heap.size) (lt_blk bH_14.out)).trans bH_14.out)
    have Wi_15 := Lib.hid (Wi_14.out.since ha15 (by omega))
    have Wl_15 := Lib.hid (Wl_14.out.since ha15 (by omega))
    have Gi_15 := Lib.hid (Gi_14.out.since ha15 (by omega))
    have Gl_15 := Lib.hid (Gl_14.out.since ha15 (by omega))
    have Hi_15 := Lib.hid (Hi_14.out.since ha15 (by omega))
    have Hl_15 := Lib.hid (Hl_14.out.since ha15 (by omega))
    clear ha15
    clear HH15
    go_wp2
    go_ret
    exact ⟨rfl, HB15.out⟩
  · have hz := fun W => szClockS_any A n c 1048576 W hln (Nat.le_refl _)
    rw [remI_no (by omega), show ((1048576 : Nat) : Int) = 1048576 from rfl] at hz
    have HZ := Lib.hid hz
    clear hz h hA hln hn
    go_enter Try.func4, Try.ntmps4
    go_wp2_with fail
    refine (HZ.out _).mono ?_
    rintro e w0 ⟨rfl, rfl⟩
    go_wp2
    go_ret
    exact ⟨rfl, Below.refl _ _⟩
end Go.Proofs.Ytoanigbjdfgjcaa.Wt
