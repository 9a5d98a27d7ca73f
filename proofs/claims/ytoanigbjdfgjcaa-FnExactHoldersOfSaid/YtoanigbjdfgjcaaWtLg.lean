/-
  The walk of the exact law HoldersOf.
-/
import Derived.Test.YtoanigbjdfgjcaaWtL0
import Derived.Test.YtoanigbjdfgjcaaWtF8
import Derived.Test.YtoanigbjdfgjcaaNtEq
import Derived.Test.YtoanigbjdfgjcaaNtMk
import Derived.Deep.RegionHeld3
import Derived.Deep.DeepCutAuto
namespace Go.Proofs.Ytoanigbjdfgjcaa.Wt
open Go.RowKit Nt
set_option linter.unusedVariables false
set_option linter.unusedSimpArgs false

theorem holdersW_small {tm : Int} {is : List Int} {ls : List (Int × Int × Int)} : (holdersW tm is ls).1.length ≤ 1048576 := by
  unfold holdersW
  cases e : wchB tm is ls with
  | false => simp
  | true =>
    have h1 := (wchB_true e).2.1.2
    have h2 := holders_len (tm := tm) (cs := is) (ls := ls) is.length
    simp only [cond_true]
    omega

set_option maxRecDepth 100000 in
set_option maxHeartbeats 8000000 in
theorem holdersOf_walk (w : World) (tm : Int) (A : Option Addr) (n c : Nat) (is : List Int) (A' : Option Addr) (n' c' : Nat) (ls : List (Int × Int × Int)) (hn : is.length = n) (hA : CksB w w.heap.size A is) (hln : n ≤ maxLen) (hn' : ls.length = n') (hL : LesB w w.heap.size A' ls) (hmx : n' ≤ maxLen)  :
    Calls Try.prog 10 #[.agg #[.int .i64 tm, .slice A n c, .slice A' n' c']] w fun e w' => e = .returned (.bool true) ∧ Below w.heap.size w w' := by
  have hb0 := below1 w (.cells #[.int .i64 tm, .slice A n c, .slice A' n' c'] 25)
  have hk0 := heap_alloc_new w (.cells #[.int .i64 tm, .slice A n c, .slice A' n' c'] 25)
  have HZ := Lib.hid (fun W (hW : Below w.heap.size w W) => szWatchW_any tm A A' n c n' c' W hln hmx)
  by_cases h : n + n' ≤ 1048576
  · rw [remI_yes h] at HZ
    have hs0 : (0 : Int) ≤ ((1048576 : Nat) : Int) - ((n + n' : Nat) : Int) := by omega
    obtain ⟨q0, hq0⟩ : ∃ q0, q0 = ((1048576 : Nat) : Int) - ((n + n' : Nat) : Int) := ⟨_, rfl⟩
    rw [← hq0] at HZ hs0
    have hn1 : n ≤ 1048576 := by omega
    have hn2 : n' ≤ 1048576 := by omega
    have ht := fun W (hW : Below w.heap.size w W) => toWatch_any tm A A' n c n' c' is ls w.heap.size W hn hn' (hA.below hW) (hL.below hW) hW.size hn1 hn2
    unfold WtV at ht
    simp only [hn, hn'] at ht
    have HT := Lib.hid ht
    clear ht
    have hspec := fun (W : World) (C C' : Option Addr) (d d' lo hi : Nat) (hoi : OwnCk W lo hi C d is) (hol : OwnLe W lo hi C' d' ls) (hh : hi ≤ W.heap.size) => specHoldersOf_any tm C C' n d n' d' is ls W.heap.size W hn hn' (hoi.cks.mono hh) (hol.les.mono hh) (Nat.le_refl _) hn2
    have himpl := fun (W : World) (C C' : Option Addr) (d d' lo hi : Nat) (hoi : OwnCk W lo hi C d is) (hol : OwnLe W lo hi C' d' ls) (hh : hi ≤ W.heap.size) => implHoldersOf_any tm C C' n d n' d' is ls W.heap.size W hn hn' (hoi.cks.mono hh) (hol.les.mono hh) (Nat.le_refl _) hn2
    have hsm : (holdersW tm is ls).1.length ≤ 1048576 := holdersW_small
    obtain ⟨⟨ai, ok⟩, hr⟩ : ∃ r, r = holdersW tm is ls := ⟨_, rfl⟩
    rw [← hr] at hsm
    simp only [← hr] at hspec himpl
    simp only [HoPost_un] at hspec himpl
    simp only at hsm
    obtain ⟨ni, hni⟩ : ∃ ni, ni = ai.length := ⟨_, rfl⟩
    rw [← hni] at hsm
    simp only [← hni] at hspec himpl
    have HS := Lib.hid hspec
    have HI := Lib.hid himpl
    have HNI := Lib.hid hni.symm
    have HN := Lib.hid hn
    have HN' := Lib.hid hn'
    have m1 : (0 : Int) ≤ ((1 + n + 3 * n' : Nat) : Int) := by omega
    have m2 : (0 : Int) ≤ ((1 + ni : Nat) : Int) := by omega
    obtain ⟨mx, hmxx⟩ : ∃ mx, mx = 1 + n + 3 * n' := ⟨_, rfl⟩
    obtain ⟨mg, hmgg⟩ : ∃ mg, mg = 1 + ni := ⟨_, rfl⟩
    rw [← hmxx] at m1
    rw [← hmgg] at m2
    have HMX := Lib.hid hmxx.symm
    have HMG := Lib.hid hmgg.symm
    have HB0 := Lib.hid hb0
    have bA_0 := Lib.hid hk0
    clear hspec himpl hr hni h hA hL hmx hn hn' hln hq0 hmxx hmgg hk0
    go_enter Try.func10, Try.ntmps10
    go_wp2_with fail
    refine (HZ.out _ hb0).mono ?_
    rintro e w1 ⟨rfl, ha1⟩
    have h00 := hb0.size
    have h01 : w.heap.size + 1 ≤ (w.alloc (.cells #[.int .i64 tm, .slice A n c, .slice A' n' c'] 25)).heap.size := by simp
    clear hb0
    have HB1 := Lib.hid (HB0.out.trans (ha1.mono HB0.out.size))
    have hz1 := ha1.size
    have bA_1 := Lib.hid ((ha1.block (w.heap.size) (lt_blk bA_0.out)).trans bA_0.out)
    clear ha1
    have bA10 := cell_of_row _ _ 0 _ 25 (0, 0) bA_1.out
    have bA11 := cell_of_row _ _ 1 _ 25 (0, 0) bA_1.out
    have bA12 := cell_of_row _ _ 2 _ 25 (0, 0) bA_1.out
    have bA1l := lt_blk bA_1.out
    go_wp2_with fail
    refine (HT.out _ HB1.out).mono ?_
    rintro e w2 ⟨A2, c2, D2, d2, rfl, hoi2, hol2, ha2⟩
    clear bA10 bA11 bA12 bA1l
    have HB2 := Lib.hid (HB1.out.trans (ha2.mono HB1.out.size))
    have hz2 := ha2.size
    have bA_2 := Lib.hid ((ha2.block (w.heap.size) (lt_blk bA_1.out)).trans bA_1.out)
    clear ha2
    have t2i_2 := Lib.hid hoi2
    have t2l_2 := Lib.hid hol2
    clear hoi2 hol2
    go_wp2_with fail
    refine (HS.out _ A2 D2 c2 d2 _ _ t2i_2.out t2l_2.out (by omega)).mono ?_
    rintro e w3 ⟨A3, c3, rfl, hoi3, ha3⟩
    have HB3 := Lib.hid (HB2.out.trans (ha3.mono HB2.out.size))
    have hz3 := ha3.size
    have bA_3 := Lib.hid ((ha3.block (w.heap.size) (lt_blk bA_2.out)).trans bA_2.out)
    have t2i_3 := Lib.hid (t2i_2.out.since ha3 (by omega))
    have t2l_3 := Lib.hid (t2l_2.out.since ha3 (by omega))
    clear ha3
    have Wi_3 := Lib.hid hoi3
    clear hoi3
    have bA30 := cell_of_row _ _ 0 _ 25 (0, 0) bA_3.out
    have bA31 := cell_of_row _ _ 1 _ 25 (0, 0) bA_3.out
    have bA32 := cell_of_row _ _ 2 _ 25 (0, 0) bA_3.out
    have bA3l := lt_blk bA_3.out
    go_wp2_with fail
    refine (HT.out _ HB3.out).mono ?_
    rintro e w4 ⟨A4, c4, D4, d4, rfl, hoi4, hol4, ha4⟩
    clear bA30 bA31 bA32 bA3l
    have HB4 := Lib.hid (HB3.out.trans (ha4.mono HB3.out.size))
    have hz4 := ha4.size
    have bA_4 := Lib.hid ((ha4.block (w.heap.size) (lt_blk bA_3.out)).trans bA_3.out)
    have Wi_4 := Lib.hid (Wi_3.out.since ha4 (by omega))
    clear ha4
    have Xi_4 := Lib.hid hoi4
    have Xl_4 := Lib.hid hol4
    clear hoi4 hol4
    have bA40 := cell_of_row _ _ 0 _ 25 (0, 0) bA_4.out
    have bA41 := cell_of_row _ _ 1 _ 25 (0, 0) bA_4.out
    have bA42 := cell_of_row _ _ 2 _ 25 (0, 0) bA_4.out
    have bA4l := lt_blk bA_4.out
    go_wp2_with fail
    obtain ⟨V4, hV4⟩ : ∃ V4, V4 = w4.alloc (.cells #[.int .i64 tm, .slice A4 n c4, .slice D4 n' d4] 31) := ⟨_, rfl⟩
    have haV4 := below1 w4 (.cells #[.int .i64 tm, .slice A4 n c4, .slice D4 n' d4] 31)
    have hnV4 := heap_alloc_new w4 (.cells #[.int .i64 tm, .slice A4 n c4, .slice D4 n' d4] 31)
    rw [← hV4] at haV4 hnV4 ⊢
    have hsV4 : V4.heap.size = w4.heap.size + 1 := by rw [hV4]; simp
    clear bA40 bA41 bA42 bA4l
    have HBV4 := Lib.hid (HB4.out.trans (haV4.mono HB4.out.size))
    have bA_V4 := Lib.hid ((haV4.block (w.heap.size) (lt_blk bA_4.out)).trans bA_4.out)
    have Wi_V4 := Lib.hid (Wi_4.out.since haV4 (by omega))
    have Xi_V4 := Lib.hid (Xi_4.out.since haV4 (by omega))
    have Xl_V4 := Lib.hid (Xl_4.out.since haV4 (by omega))
    have bX_V4 := Lib.hid hnV4
    have hzV4 := haV4.size
    clear hV4 haV4 hnV4
    refine (HI.out _ A4 D4 c4 d4 _ _ Xi_V4.out Xl_V4.out (by omega)).mono ?_
    rintro e w5 ⟨A5, c5, rfl, hoi5, ha5⟩
    have HB5 := Lib.hid (HBV4.out.trans (ha5.mono HBV4.out.size))
    have hz5 := ha5.size
    have bA_5 := Lib.hid ((ha5.block (w.heap.size) (lt_blk bA_V4.out)).trans bA_V4.out)
    have bX_5 := Lib.hid ((ha5.block (w4.heap.size) (lt_blk bX_V4.out)).trans bX_V4.out)
    have Wi_5 := Lib.hid (Wi_V4.out.since ha5 (by omega))
    have Xi_5 := Lib.hid (Xi_V4.out.since ha5 (by omega))
    have Xl_5 := Lib.hid (Xl_V4.out.since ha5 (by omega))
    clear ha5
    have Gi_5 := Lib.hid hoi5
    clear hoi5
    have HE6 := Lib.hid (eqIntS_same A5 A3 ni c5 c3 ai w5.heap.size w5 HNI.out (Gi_5.out.ints.mono (by omega)) (Wi_5.out.ints.mono (by omega)) (Nat.le_refl _) (by omega))
    go_wp2_with fail
    refine HE6.out.mono ?_
    rintro e w6 ⟨rfl, ha6⟩
    have HB6 := Lib.hid (HB5.out.trans (ha6.mono HB5.out.size))
    have hz6 := ha6.size
    have bA_6 := Lib.hid ((ha6.block (w.heap.size) (lt_blk bA_5.out)).trans bA_5.out)
    have bX_6 := Lib.hid ((ha6.block (w4.heap.size) (lt_blk bX_5.out)).trans bX_5.out)
    have Wi_6 := Lib.hid (Wi_5.out.since ha6 (by omega))
    have Xi_6 := Lib.hid (Xi_5.out.since ha6 (by omega))
    have Xl_6 := Lib.hid (Xl_5.out.since ha6 (by omega))
    have Gi_6 := Lib.hid (Gi_5.out.since ha6 (by omega))
    clear ha6
    clear HE6
    have bA60 := cell_of_row _ _ 0 _ 25 (0, 0) bA_6.out
    have bA61 := cell_of_row _ _ 1 _ 25 (0, 0) bA_6.out
    have bA62 := cell_of_row _ _ 2 _ 25 (0, 0) bA_6.out
    have bA6l := lt_blk bA_6.out
    have bX60 := cell_of_row _ _ 0 _ 31 (0, 0) bX_6.out
    have bX61 := cell_of_row _ _ 1 _ 31 (0, 0) bX_6.out
    have bX62 := cell_of_row _ _ 2 _ 31 (0, 0) bX_6.out
    have bX6l := lt_blk bX_6.out
    go_wp2_with fail
    have s0 : w6.cell? ⟨w.heap.size, 0, none⟩ = some (.int .i64 tm) := bA60
    have s1 : w6.cell? ⟨w.heap.size, 1, none⟩ = some (.slice A n c) := bA61
    have s2 : w6.cell? ⟨w.heap.size, 2, none⟩ = some (.slice A' n' c') := bA62
    have s3 : w6.cell? ⟨w4.heap.size, 0, none⟩ = some (.int .i64 tm) := bX60
    have s4 : w6.cell? ⟨w4.heap.size, 1, none⟩ = some (.slice A4 n c4) := bX61
    have s5 : w6.cell? ⟨w4.heap.size, 2, none⟩ = some (.slice D4 n' d4) := bX62
    have sA : w.heap.size < w6.heap.size := bA6l
    have sX : w4.heap.size < w6.heap.size := bX6l
    clear bA60 bA61 bA62 bA6l bX60 bX61 bX62 bX6l
    have HS0 : w6.drew.cell? ⟨w.heap.size, 0, none⟩ = some (.int .i64 tm) ∧ w6.drew.cell? ⟨w.heap.size, 1, none⟩ = some (.slice A n c) ∧ w6.drew.cell? ⟨w.heap.size, 2, none⟩ = some (.slice A' n' c') ∧ w6.drew.cell? ⟨w4.heap.size, 0, none⟩ = some (.int .i64 tm) ∧ w6.drew.cell? ⟨w4.heap.size, 1, none⟩ = some (.slice A4 n c4) ∧ w6.drew.cell? ⟨w4.heap.size, 2, none⟩ = some (.slice D4 n' d4) := ⟨s0, s1, s2, s3, s4, s5⟩
    have HTQ := Lib.hid (fun W (hW : Below w6.heap.size w6 W) => HT.out W (HB6.out.trans (hW.mono HB6.out.size)))
    have HEQ := Lib.hid (fun (W : World) (C D : Option Addr) (cc dd lo : Nat) (hW : Below w6.heap.size w6 W) (hoi : OwnCk W lo W.heap.size C cc is) (hol : OwnLe W lo W.heap.size D dd ls) => eqWatch_same tm A4 D4 C D n c4 n' d4 cc dd is ls W.heap.size W HN.out HN'.out ((Xi_6.out.since hW (by omega)).cks.mono (by have := hW.size; omega)) ((Xl_6.out.since hW (by omega)).les.mono (by have := hW.size; omega)) hoi.cks hol.les (Nat.le_refl _) (by omega) (by omega))
    have hbel := Below.refl w6.heap.size w6
    go_region_held3 (fun w' => w'.cell? ⟨w.heap.size, 0, none⟩ = some (.int .i64 tm) ∧ w'.cell? ⟨w.heap.size, 1, none⟩ = some (.slice A n c) ∧ w'.cell? ⟨w.heap.size, 2, none⟩ = some (.slice A' n' c') ∧ w'.cell? ⟨w4.heap.size, 0, none⟩ = some (.int .i64 tm) ∧ w'.cell? ⟨w4.heap.size, 1, none⟩ = some (.slice A4 n c4) ∧ w'.cell? ⟨w4.heap.size, 2, none⟩ = some (.slice D4 n' d4))
      (first | with_reducible exact HS0 | with_reducible exact ⟨kept2 hQ1 s0 sA, kept2 hQ1 s1 sA, kept2 hQ1 s2 sA, kept2 hQ1 s3 sX, kept2 hQ1 s4 sX, kept2 hQ1 s5 sX⟩ | with_reducible exact ⟨kept2 hQ2 s0 sA, kept2 hQ2 s1 sA, kept2 hQ2 s2 sA, kept2 hQ2 s3 sX, kept2 hQ2 s4 sX, kept2 hQ2 s5 sX⟩ | fail)
      (first
        | (go_at_call 21; (with_reducible refine (HTQ.out _ hbel.drew).mono ?_); rintro e v1 ⟨A6, c6, D6, d6, rfl, hoi6, hol6, hv1⟩; have hQ1 : Below w6.heap.size w6 v1 := below_d0W hv1)
        | (go_at_call 23; (with_reducible refine (HEQ.out v1 A6 D6 c6 d6 _ hQ1 hoi6 hol6).mono ?_); rintro e w7 ⟨rfl, hv2⟩; have hQ2 : Below w6.heap.size w6 w7 := hQ1.trans (hv2.mono hQ1.size))
        | fail)
    have ha7 := hQ2
    clear hv1 hv2 hQ1 hQ2 hoi6 hol6 HS0 s0 s1 s2 s3 s4 s5 sA sX HTQ HEQ hbel
    try (rename_i hh7; clear hh7)
    have HB7 := Lib.hid (HB6.out.trans (ha7.mono HB6.out.size))
    have hz7 := ha7.size
    have bA_7 := Lib.hid ((ha7.block (w.heap.size) (lt_blk bA_6.out)).trans bA_6.out)
    have bX_7 := Lib.hid ((ha7.block (w4.heap.size) (lt_blk bX_6.out)).trans bX_6.out)
    have Wi_7 := Lib.hid (Wi_6.out.since ha7 (by omega))
    have Xi_7 := Lib.hid (Xi_6.out.since ha7 (by omega))
    have Xl_7 := Lib.hid (Xl_6.out.since ha7 (by omega))
    have Gi_7 := Lib.hid (Gi_6.out.since ha7 (by omega))
    clear ha7
    have bX70 := cell_of_row _ _ 0 _ 31 (0, 0) bX_7.out
    have bX71 := cell_of_row _ _ 1 _ 31 (0, 0) bX_7.out
    have bX72 := cell_of_row _ _ 2 _ 31 (0, 0) bX_7.out
    have bX7l := lt_blk bX_7.out
    have HM8 := Lib.hid (markWatch_any tm A4 D4 n c4 n' d4 1 _ _ is ls w7 HN.out HN'.out Xi_7.out Xl_7.out (by omega) (by omega) (Nat.le_refl _) (by omega))
    rw [HMX.out] at HM8
    go_wp2_with fail
    refine HM8.out.mono ?_
    rintro e w8 ⟨rfl, hmi8, hml8, hmm8⟩
    clear bX70 bX71 bX72 bX7l
    have hz8 := hmm8.2.2.2.1
    have HB8 := Lib.hid (HB7.out.trans ((hmm8.below (by omega)).mono (by omega)))
    have bA_8 := Lib.hid ((hmm8.2.2.2.2 (w.heap.size) (lt_blk bA_7.out) (by omega)).trans bA_7.out)
    have bX_8 := Lib.hid ((hmm8.2.2.2.2 (w4.heap.size) (lt_blk bX_7.out) (by omega)).trans bX_7.out)
    have Wi_8 := Lib.hid (Wi_7.out.mid hmm8 (by omega))
    have Gi_8 := Lib.hid (Gi_7.out.mid hmm8 (by omega))
    clear hmi8 hml8 hmm8 HM8
    have HE9 := Lib.hid (eqIntS_same A5 A3 ni c5 c3 ai w8.heap.size w8 HNI.out (Gi_8.out.ints.mono (by omega)) (Wi_8.out.ints.mono (by omega)) (Nat.le_refl _) (by omega))
    go_wp2_with fail
    refine HE9.out.mono ?_
    rintro e w9 ⟨rfl, ha9⟩
    have HB9 := Lib.hid (HB8.out.trans (ha9.mono HB8.out.size))
    have hz9 := ha9.size
    have bA_9 := Lib.hid ((ha9.block (w.heap.size) (lt_blk bA_8.out)).trans bA_8.out)
    have Wi_9 := Lib.hid (Wi_8.out.since ha9 (by omega))
    have Gi_9 := Lib.hid (Gi_8.out.since ha9 (by omega))
    clear ha9
    clear HE9
    have HM10 := Lib.hid (markIntS_any A5 ni c5 1 _ _ ai w9 HNI.out Gi_9.out (Nat.le_refl _) (by omega))
    rw [HMG.out] at HM10
    go_wp2_with fail
    refine HM10.out.mono ?_
    rintro e w10 ⟨rfl, hmi10, hma10⟩
    have hmm10 := hma10.mid (own_rangeW Gi_9.out)
    have hz10 := hmm10.2.2.2.1
    have HB10 := Lib.hid (HB9.out.trans ((hmm10.below (by omega)).mono (by omega)))
    have bA_10 := Lib.hid ((hmm10.2.2.2.2 (w.heap.size) (lt_blk bA_9.out) (by omega)).trans bA_9.out)
    have Wi_10 := Lib.hid (Wi_9.out.mid hmm10 (by omega))
    have Gi_10 := Lib.hid hmi10
    clear hmi10 hmm10 hma10 HM10
    have HH11 := Lib.hid (heldIntS_any A5 ni c5 1 w10.heap.size w10 (OwnI.ints Gi_10.out |>.mono (by omega)) (Nat.le_refl _) (Nat.le_refl _) (by omega))
    rw [HMG.out] at HH11
    go_wp2_with fail
    refine HH11.out.mono ?_
    rintro e w11 ⟨rfl, rfl⟩
    clear HH11
    have bA100 := cell_of_row _ _ 0 _ 25 (0, 0) bA_10.out
    have bA101 := cell_of_row _ _ 1 _ 25 (0, 0) bA_10.out
    have bA102 := cell_of_row _ _ 2 _ 25 (0, 0) bA_10.out
    have bA10l := lt_blk bA_10.out
    go_wp2_with fail
    refine (HT.out _ HB10.out).mono ?_
    rintro e w12 ⟨A12, c12, D12, d12, rfl, hoi12, hol12, ha12⟩
    clear bA100 bA101 bA102 bA10l
    have HB12 := Lib.hid (HB10.out.trans (ha12.mono HB10.out.size))
    have hz12 := ha12.size
    have bA_12 := Lib.hid ((ha12.block (w.heap.size) (lt_blk bA_10.out)).trans bA_10.out)
    have Wi_12 := Lib.hid (Wi_10.out.since ha12 (by omega))
    have Gi_12 := Lib.hid (Gi_10.out.since ha12 (by omega))
    clear ha12
    have Zi_12 := Lib.hid hoi12
    have Zl_12 := Lib.hid hol12
    clear hoi12 hol12
    go_wp2_with fail
    refine (HI.out _ A12 D12 c12 d12 _ _ Zi_12.out Zl_12.out (by omega)).mono ?_
    rintro e w13 ⟨A13, c13, rfl, hoi13, ha13⟩
    have HB13 := Lib.hid (HB12.out.trans (ha13.mono HB12.out.size))
    have hz13 := ha13.size
    have bA_13 := Lib.hid ((ha13.block (w.heap.size) (lt_blk bA_12.out)).trans bA_12.out)
    have Wi_13 := Lib.hid (Wi_12.out.since ha13 (by omega))
    have Gi_13 := Lib.hid (Gi_12.out.since ha13 (by omega))
    have Zi_13 := Lib.hid (Zi_12.out.since ha13 (by omega))
    have Zl_13 := Lib.hid (Zl_12.out.since ha13 (by omega))
    clear ha13
    have Hi_13 := Lib.hid hoi13
    clear hoi13
    have HE14 := Lib.hid (eqIntS_same A13 A3 ni c13 c3 ai w13.heap.size w13 HNI.out (Hi_13.out.ints.mono (by omega)) (Wi_13.out.ints.mono (by omega)) (Nat.le_refl _) (by omega))
    go_wp2_with fail
    refine HE14.out.mono ?_
    rintro e w14 ⟨rfl, ha14⟩
    have HB14 := Lib.hid (HB13.out.trans (ha14.mono HB13.out.size))
    have hz14 := ha14.size
    have bA_14 := Lib.hid ((ha14.block (w.heap.size) (lt_blk bA_13.out)).trans bA_13.out)
    have Wi_14 := Lib.hid (Wi_13.out.since ha14 (by omega))
    have Gi_14 := Lib.hid (Gi_13.out.since ha14 (by omega))
    have Hi_14 := Lib.hid (Hi_13.out.since ha14 (by omega))
    clear ha14
    clear HE14
    have HH15 := Lib.hid (heldIntS_any A5 ni c5 1 w14.heap.size w14 (OwnI.ints Gi_14.out |>.mono (by omega)) (Nat.le_refl _) (Nat.le_refl _) (by omega))
    rw [HMG.out] at HH15
    go_wp2_with fail
    refine HH15.out.mono ?_
    rintro e w15 ⟨rfl, rfl⟩
    clear HH15
    go_wp2
    go_ret
    exact ⟨rfl, HB14.out⟩
  · rw [remI_no (show 1048576 < n + n' by omega)] at HZ
    clear h hn hA hln hn' hL hmx
    go_enter Try.func10, Try.ntmps10
    go_wp2_with fail
    refine (HZ.out _ hb0).mono ?_
    rintro e w1 ⟨rfl, ha1⟩
    have HB := Lib.hid (hb0.trans (ha1.mono hb0.size))
    clear ha1
    go_wp2
    go_ret
    exact ⟨rfl, HB.out⟩
end Go.Proofs.Ytoanigbjdfgjcaa.Wt
