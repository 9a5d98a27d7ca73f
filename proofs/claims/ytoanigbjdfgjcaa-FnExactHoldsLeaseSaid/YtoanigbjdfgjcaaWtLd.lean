/-
  The walks of the exact laws HoldsLease, WhenFree.
-/
import Derived.Test.YtoanigbjdfgjcaaWtL0
import Derived.Test.YtoanigbjdfgjcaaWtF5
import Derived.Deep.RegionHeld3
import Derived.Deep.DeepCutAuto
namespace Go.Proofs.Ytoanigbjdfgjcaa.Wt
open Go.RowKit
set_option linter.unusedVariables false
set_option linter.unusedSimpArgs false

set_option maxRecDepth 100000 in
set_option maxHeartbeats 8000000 in
theorem holdsLease_walk (w : World) (tm : Int) (A : Option Addr) (n c : Nat) (is : List Int) (A' : Option Addr) (n' c' : Nat) (ls : List (Int × Int × Int)) (hn : is.length = n) (hA : CksB w w.heap.size A is) (hln : n ≤ maxLen) (hn' : ls.length = n') (hL : LesB w w.heap.size A' ls) (hmx : n' ≤ maxLen) (a : Int) (hwa : (Lit.int .i64 a).wf = true) :
    Calls Try.prog 9 #[.agg #[.int .i64 tm, .slice A n c, .slice A' n' c'], .int .i64 a] w fun e w' => e = .returned (.bool true) ∧ Below w.heap.size w w' := by
  have hb0 := below1 w (.cells #[.int .i64 tm, .slice A n c, .slice A' n' c'] 25)
  have hk0 := heap_alloc_new w (.cells #[.int .i64 tm, .slice A n c, .slice A' n' c'] 25)
  have HZ := Lib.hid (fun W (hW : Below w.heap.size w W) => szWatchW_any tm A A' n c n' c' W hln hmx)
  by_cases h : n + n' ≤ 1048576
  · rw [remI_yes h] at HZ
    have hs0 : (0 : Int) ≤ ((1048576 : Nat) : Int) - ((n + n' : Nat) : Int) := by omega
    obtain ⟨q0, hq0⟩ : ∃ q0, q0 = ((1048576 : Nat) : Int) - ((n + n' : Nat) : Int) := ⟨_, rfl⟩
    rw [← hq0] at HZ hs0
    have hn1 : n ≤ 1048576 := by omega
    have hn2 : n' ≤ 1048576 := by omega
    have ht := fun W (hW : Below w.heap.size w W) => toWatch_any tm A A' n c n' c' is ls w.heap.size W hn hn' (hA.below hW) (hL.below hW) hW.size hn1 hn2
    unfold WtV at ht
    simp only [hn, hn'] at ht
    have HT := Lib.hid ht
    clear ht
    have hspec := fun (W : World) (C C' : Option Addr) (d d' lo hi : Nat) (hoi : OwnCk W lo hi C d is) (hol : OwnLe W lo hi C' d' ls) (hh : hi ≤ W.heap.size) => specHoldsLease_any tm C C' n d n' d' is ls a W.heap.size W hn hn' (hoi.cks.mono hh) (hol.les.mono hh) (Nat.le_refl _) hn2
    have himpl := fun (W : World) (C C' : Option Addr) (d d' lo hi : Nat) (hoi : OwnCk W lo hi C d is) (hol : OwnLe W lo hi C' d' ls) (hh : hi ≤ W.heap.size) => implHoldsLease_any tm C C' n d n' d' is ls a W.heap.size W hn hn' (hoi.cks.mono hh) (hol.les.mono hh) (Nat.le_refl _) hn2
    obtain ⟨⟨tn, ok⟩, hr⟩ : ∃ r, r = holdsW tm is ls a := ⟨_, rfl⟩
    simp only [← hr] at hspec himpl
    have HS := Lib.hid hspec
    have HI := Lib.hid himpl
    have HN := Lib.hid hn
    have HN' := Lib.hid hn'
    have HB0 := Lib.hid hb0
    have bA_0 := Lib.hid hk0
    clear hspec himpl hr h hA hL hmx hn hn' hln hq0 hk0
    go_enter Try.func9, Try.ntmps9
    go_wp2_with fail
    refine (HZ.out _ hb0).mono ?_
    rintro e w1 ⟨rfl, ha1⟩
    have h00 := hb0.size
    clear hb0
    have HB1 := Lib.hid (HB0.out.trans (ha1.mono HB0.out.size))
    have hz1 := ha1.size
    have bA_1 := Lib.hid ((ha1.block (w.heap.size) (lt_blk bA_0.out)).trans bA_0.out)
    clear ha1
    have bA10 := cell_of_row _ _ 0 _ 25 (0, 0) bA_1.out
    have bA11 := cell_of_row _ _ 1 _ 25 (0, 0) bA_1.out
    have bA12 := cell_of_row _ _ 2 _ 25 (0, 0) bA_1.out
    have bA1l := lt_blk bA_1.out
    go_wp2_with fail
    refine (HT.out _ HB1.out).mono ?_
    rintro e w2 ⟨A2, c2, D2, d2, rfl, hoi2, hol2, ha2⟩
    clear bA10 bA11 bA12 bA1l
    have HB2 := Lib.hid (HB1.out.trans (ha2.mono HB1.out.size))
    have hz2 := ha2.size
    have bA_2 := Lib.hid ((ha2.block (w.heap.size) (lt_blk bA_1.out)).trans bA_1.out)
    clear ha2
    have t2i_2 := Lib.hid hoi2
    have t2l_2 := Lib.hid hol2
    clear hoi2 hol2
    go_wp2_with fail
    refine (HS.out _ A2 D2 c2 d2 _ _ t2i_2.out t2l_2.out (by omega)).mono ?_
    rintro e w3 ⟨rfl, ha3⟩
    have HB3 := Lib.hid (HB2.out.trans (ha3.mono HB2.out.size))
    have hz3 := ha3.size
    have bA_3 := Lib.hid ((ha3.block (w.heap.size) (lt_blk bA_2.out)).trans bA_2.out)
    have t2i_3 := Lib.hid (t2i_2.out.since ha3 (by omega))
    have t2l_3 := Lib.hid (t2l_2.out.since ha3 (by omega))
    clear ha3
    have bA30 := cell_of_row _ _ 0 _ 25 (0, 0) bA_3.out
    have bA31 := cell_of_row _ _ 1 _ 25 (0, 0) bA_3.out
    have bA32 := cell_of_row _ _ 2 _ 25 (0, 0) bA_3.out
    have bA3l := lt_blk bA_3.out
    go_wp2_with fail
    refine (HT.out _ HB3.out).mono ?_
    rintro e w4 ⟨A4, c4, D4, d4, rfl, hoi4, hol4, ha4⟩
    clear bA30 bA31 bA32 bA3l
    have HB4 := Lib.hid (HB3.out.trans (ha4.mono HB3.out.size))
    have hz4 := ha4.size
    have bA_4 := Lib.hid ((ha4.block (w.heap.size) (lt_blk bA_3.out)).trans bA_3.out)
    clear ha4
    have Xi_4 := Lib.hid hoi4
    have Xl_4 := Lib.hid hol4
    clear hoi4 hol4
    have bA40 := cell_of_row _ _ 0 _ 25 (0, 0) bA_4.out
    have bA41 := cell_of_row _ _ 1 _ 25 (0, 0) bA_4.out
    have bA42 := cell_of_row _ _ 2 _ 25 (0, 0) bA_4.out
    have bA4l := lt_blk bA_4.out
    go_wp2_with fail
    obtain ⟨V4, hV4⟩ : ∃ V4, V4 = w4.alloc (.cells #[.int .i64 tm, .slice A4 n c4, .slice D4 n' d4] 31) := ⟨_, rfl⟩
    have haV4 := below1 w4 (.cells #[.int .i64 tm, .slice A4 n c4, .slice D4 n' d4] 31)
    have hnV4 := heap_alloc_new w4 (.cells #[.int .i64 tm, .slice A4 n c4, .slice D4 n' d4] 31)
    rw [← hV4] at haV4 hnV4 ⊢
    have hsV4 : V4.heap.size = w4.heap.size + 1 := by rw [hV4]; simp
    clear bA40 bA41 bA42 bA4l
    have HBV4 := Lib.hid (HB4.out.trans (haV4.mono HB4.out.size))
    have bA_V4 := Lib.hid ((haV4.block (w.heap.size) (lt_blk bA_4.out)).trans bA_4.out)
    have Xi_V4 := Lib.hid (Xi_4.out.since haV4 (by omega))
    have Xl_V4 := Lib.hid (Xl_4.out.since haV4 (by omega))
    have bX_V4 := Lib.hid hnV4
    have hzV4 := haV4.size
    clear hV4 haV4 hnV4
    refine (HI.out _ A4 D4 c4 d4 _ _ Xi_V4.out Xl_V4.out (by omega)).mono ?_
    rintro e w5 ⟨rfl, ha5⟩
    have HB5 := Lib.hid (HBV4.out.trans (ha5.mono HBV4.out.size))
    have hz5 := ha5.size
    have bA_5 := Lib.hid ((ha5.block (w.heap.size) (lt_blk bA_V4.out)).trans bA_V4.out)
    have bX_5 := Lib.hid ((ha5.block (w4.heap.size) (lt_blk bX_V4.out)).trans bX_V4.out)
    have Xi_5 := Lib.hid (Xi_V4.out.since ha5 (by omega))
    have Xl_5 := Lib.hid (Xl_V4.out.since ha5 (by omega))
    clear ha5
    have bA50 := cell_of_row _ _ 0 _ 25 (0, 0) bA_5.out
    have bA51 := cell_of_row _ _ 1 _ 25 (0, 0) bA_5.out
    have bA52 := cell_of_row _ _ 2 _ 25 (0, 0) bA_5.out
    have bA5l := lt_blk bA_5.out
    have bX50 := cell_of_row _ _ 0 _ 31 (0, 0) bX_5.out
    have bX51 := cell_of_row _ _ 1 _ 31 (0, 0) bX_5.out
    have bX52 := cell_of_row _ _ 2 _ 31 (0, 0) bX_5.out
    have bX5l := lt_blk bX_5.out
    go_wp2_with fail
    have s0 : w5.cell? ⟨w.heap.size, 0, none⟩ = some (.int .i64 tm) := bA50
    have s1 : w5.cell? ⟨w.heap.size, 1, none⟩ = some (.slice A n c) := bA51
    have s2 : w5.cell? ⟨w.heap.size, 2, none⟩ = some (.slice A' n' c') := bA52
    have s3 : w5.cell? ⟨w4.heap.size, 0, none⟩ = some (.int .i64 tm) := bX50
    have s4 : w5.cell? ⟨w4.heap.size, 1, none⟩ = some (.slice A4 n c4) := bX51
    have s5 : w5.cell? ⟨w4.heap.size, 2, none⟩ = some (.slice D4 n' d4) := bX52
    have sA : w.heap.size < w5.heap.size := bA5l
    have sX : w4.heap.size < w5.heap.size := bX5l
    clear bA50 bA51 bA52 bA5l bX50 bX51 bX52 bX5l
    have HS0 : w5.drew.cell? ⟨w.heap.size, 0, none⟩ = some (.int .i64 tm) ∧ w5.drew.cell? ⟨w.heap.size, 1, none⟩ = some (.slice A n c) ∧ w5.drew.cell? ⟨w.heap.size, 2, none⟩ = some (.slice A' n' c') ∧ w5.drew.cell? ⟨w4.heap.size, 0, none⟩ = some (.int .i64 tm) ∧ w5.drew.cell? ⟨w4.heap.size, 1, none⟩ = some (.slice A4 n c4) ∧ w5.drew.cell? ⟨w4.heap.size, 2, none⟩ = some (.slice D4 n' d4) := ⟨s0, s1, s2, s3, s4, s5⟩
    have HTQ := Lib.hid (fun W (hW : Below w5.heap.size w5 W) => HT.out W (HB5.out.trans (hW.mono HB5.out.size)))
    have HEQ := Lib.hid (fun (W : World) (C D : Option Addr) (cc dd lo : Nat) (hW : Below w5.heap.size w5 W) (hoi : OwnCk W lo W.heap.size C cc is) (hol : OwnLe W lo W.heap.size D dd ls) => eqWatch_same tm A4 D4 C D n c4 n' d4 cc dd is ls W.heap.size W HN.out HN'.out ((Xi_5.out.since hW (by omega)).cks.mono (by have := hW.size; omega)) ((Xl_5.out.since hW (by omega)).les.mono (by have := hW.size; omega)) hoi.cks hol.les (Nat.le_refl _) (by omega) (by omega))
    have hbel := Below.refl w5.heap.size w5
    go_region_held3 (fun w' => w'.cell? ⟨w.heap.size, 0, none⟩ = some (.int .i64 tm) ∧ w'.cell? ⟨w.heap.size, 1, none⟩ = some (.slice A n c) ∧ w'.cell? ⟨w.heap.size, 2, none⟩ = some (.slice A' n' c') ∧ w'.cell? ⟨w4.heap.size, 0, none⟩ = some (.int .i64 tm) ∧ w'.cell? ⟨w4.heap.size, 1, none⟩ = some (.slice A4 n c4) ∧ w'.cell? ⟨w4.heap.size, 2, none⟩ = some (.slice D4 n' d4))
      (first | with_reducible exact HS0 | with_reducible exact ⟨kept2 hQ1 s0 sA, kept2 hQ1 s1 sA, kept2 hQ1 s2 sA, kept2 hQ1 s3 sX, kept2 hQ1 s4 sX, kept2 hQ1 s5 sX⟩ | with_reducible exact ⟨kept2 hQ2 s0 sA, kept2 hQ2 s1 sA, kept2 hQ2 s2 sA, kept2 hQ2 s3 sX, kept2 hQ2 s4 sX, kept2 hQ2 s5 sX⟩ | fail)
      (first
        | (go_at_call 21; (with_reducible refine (HTQ.out _ hbel.drew).mono ?_); rintro e v1 ⟨A5, c5, D5, d5, rfl, hoi6, hol6, hv1⟩; have hQ1 : Below w5.heap.size w5 v1 := below_d0W hv1)
        | (go_at_call 23; (with_reducible refine (HEQ.out v1 A5 D5 c5 d5 _ hQ1 hoi6 hol6).mono ?_); rintro e w6 ⟨rfl, hv2⟩; have hQ2 : Below w5.heap.size w5 w6 := hQ1.trans (hv2.mono hQ1.size))
        | fail)
    have ha6 := hQ2
    clear hv1 hv2 hQ1 hQ2 hoi6 hol6 HS0 s0 s1 s2 s3 s4 s5 sA sX HTQ HEQ hbel
    try (rename_i hh7; clear hh7)
    have HB6 := Lib.hid (HB5.out.trans (ha6.mono HB5.out.size))
    have hz6 := ha6.size
    have bA_6 := Lib.hid ((ha6.block (w.heap.size) (lt_blk bA_5.out)).trans bA_5.out)
    have bX_6 := Lib.hid ((ha6.block (w4.heap.size) (lt_blk bX_5.out)).trans bX_5.out)
    have Xi_6 := Lib.hid (Xi_5.out.since ha6 (by omega))
    have Xl_6 := Lib.hid (Xl_5.out.since ha6 (by omega))
    clear ha6
    go_wp2
    go_ret
    exact ⟨rfl, HB6.out⟩
  · rw [remI_no (show 1048576 < n + n' by omega)] at HZ
    clear h hn hA hln hn' hL hmx
    go_enter Try.func9, Try.ntmps9
    go_wp2_with fail
    refine (HZ.out _ hb0).mono ?_
    rintro e w1 ⟨rfl, ha1⟩
    have HB := Lib.hid (hb0.trans (ha1.mono hb0.size))
    clear ha1
    go_wp2
    go_ret
    exact ⟨rfl, HB.out⟩

set_option maxRecDepth 100000 in
set_option maxHeartbeats 8000000 in
theorem whenFree_walk (w : World) (tm : Int) (A : Option Addr) (n c : Nat) (is : List Int) (A' : Option Addr) (n' c' : Nat) (ls : List (Int × Int × Int)) (hn : is.length = n) (hA : CksB w w.heap.size A is) (hln : n ≤ maxLen) (hn' : ls.length = n') (hL : LesB w w.heap.size A' ls) (hmx : n' ≤ maxLen) (a : Int) (hwa : (Lit.int .i64 a).wf = true) :
    Calls Try.prog 11 #[.agg #[.int .i64 tm, .slice A n c, .slice A' n' c'], .int .i64 a] w fun e w' => e = .returned (.bool true) ∧ Below w.heap.size w w' := by
  have hb0 := below1 w (.cells #[.int .i64 tm, .slice A n c, .slice A' n' c'] 25)
  have hk0 := heap_alloc_new w (.cells #[.int .i64 tm, .slice A n c, .slice A' n' c'] 25)
  have HZ := Lib.hid (fun W (hW : Below w.heap.size w W) => szWatchW_any tm A A' n c n' c' W hln hmx)
  by_cases h : n + n' ≤ 1048576
  · rw [remI_yes h] at HZ
    have hs0 : (0 : Int) ≤ ((1048576 : Nat) : Int) - ((n + n' : Nat) : Int) := by omega
    obtain ⟨q0, hq0⟩ : ∃ q0, q0 = ((1048576 : Nat) : Int) - ((n + n' : Nat) : Int) := ⟨_, rfl⟩
    rw [← hq0] at HZ hs0
    have hn1 : n ≤ 1048576 := by omega
    have hn2 : n' ≤ 1048576 := by omega
    have ht := fun W (hW : Below w.heap.size w W) => toWatch_any tm A A' n c n' c' is ls w.heap.size W hn hn' (hA.below hW) (hL.below hW) hW.size hn1 hn2
    unfold WtV at ht
    simp only [hn, hn'] at ht
    have HT := Lib.hid ht
    clear ht
    have hspec := fun (W : World) (C C' : Option Addr) (d d' lo hi : Nat) (hoi : OwnCk W lo hi C d is) (hol : OwnLe W lo hi C' d' ls) (hh : hi ≤ W.heap.size) => specWhenFree_any tm C C' n d n' d' is ls a W.heap.size W hn hn' (hoi.cks.mono hh) (hol.les.mono hh) (Nat.le_refl _) hn2
    have himpl := fun (W : World) (C C' : Option Addr) (d d' lo hi : Nat) (hoi : OwnCk W lo hi C d is) (hol : OwnLe W lo hi C' d' ls) (hh : hi ≤ W.heap.size) => implWhenFree_any tm C C' n d n' d' is ls a W.heap.size W hn hn' (hoi.cks.mono hh) (hol.les.mono hh) (Nat.le_refl _) hn2
    obtain ⟨⟨tn, ok⟩, hr⟩ : ∃ r, r = whenW tm is ls a := ⟨_, rfl⟩
    simp only [← hr] at hspec himpl
    have HS := Lib.hid hspec
    have HI := Lib.hid himpl
    have HN := Lib.hid hn
    have HN' := Lib.hid hn'
    have HB0 := Lib.hid hb0
    have bA_0 := Lib.hid hk0
    clear hspec himpl hr h hA hL hmx hn hn' hln hq0 hk0
    go_enter Try.func11, Try.ntmps11
    go_wp2_with fail
    refine (HZ.out _ hb0).mono ?_
    rintro e w1 ⟨rfl, ha1⟩
    have h00 := hb0.size
    clear hb0
    have HB1 := Lib.hid (HB0.out.trans (ha1.mono HB0.out.size))
    have hz1 := ha1.size
    have bA_1 := Lib.hid ((ha1.block (w.heap.size) (lt_blk bA_0.out)).trans bA_0.out)
    clear ha1
    have bA10 := cell_of_row _ _ 0 _ 25 (0, 0) bA_1.out
    have bA11 := cell_of_row _ _ 1 _ 25 (0, 0) bA_1.out
    have bA12 := cell_of_row _ _ 2 _ 25 (0, 0) bA_1.out
    have bA1l := lt_blk bA_1.out
    go_wp2_with fail
    refine (HT.out _ HB1.out).mono ?_
    rintro e w2 ⟨A2, c2, D2, d2, rfl, hoi2, hol2, ha2⟩
    clear bA10 bA11 bA12 bA1l
    have HB2 := Lib.hid (HB1.out.trans (ha2.mono HB1.out.size))
    have hz2 := ha2.size
    have bA_2 := Lib.hid ((ha2.block (w.heap.size) (lt_blk bA_1.out)).trans bA_1.out)
    clear ha2
    have t2i_2 := Lib.hid hoi2
    have t2l_2 := Lib.hid hol2
    clear hoi2 hol2
    go_wp2_with fail
    refine (HS.out _ A2 D2 c2 d2 _ _ t2i_2.out t2l_2.out (by omega)).mono ?_
    rintro e w3 ⟨rfl, ha3⟩
    have HB3 := Lib.hid (HB2.out.trans (ha3.mono HB2.out.size))
    have hz3 := ha3.size
    have bA_3 := Lib.hid ((ha3.block (w.heap.size) (lt_blk bA_2.out)).trans bA_2.out)
    have t2i_3 := Lib.hid (t2i_2.out.since ha3 (by omega))
    have t2l_3 := Lib.hid (t2l_2.out.since ha3 (by omega))
    clear ha3
    have bA30 := cell_of_row _ _ 0 _ 25 (0, 0) bA_3.out
    have bA31 := cell_of_row _ _ 1 _ 25 (0, 0) bA_3.out
    have bA32 := cell_of_row _ _ 2 _ 25 (0, 0) bA_3.out
    have bA3l := lt_blk bA_3.out
    go_wp2_with fail
    refine (HT.out _ HB3.out).mono ?_
    rintro e w4 ⟨A4, c4, D4, d4, rfl, hoi4, hol4, ha4⟩
    clear bA30 bA31 bA32 bA3l
    have HB4 := Lib.hid (HB3.out.trans (ha4.mono HB3.out.size))
    have hz4 := ha4.size
    have bA_4 := Lib.hid ((ha4.block (w.heap.size) (lt_blk bA_3.out)).trans bA_3.out)
    clear ha4
    have Xi_4 := Lib.hid hoi4
    have Xl_4 := Lib.hid hol4
    clear hoi4 hol4
    have bA40 := cell_of_row _ _ 0 _ 25 (0, 0) bA_4.out
    have bA41 := cell_of_row _ _ 1 _ 25 (0, 0) bA_4.out
    have bA42 := cell_of_row _ _ 2 _ 25 (0, 0) bA_4.out
    have bA4l := lt_blk bA_4.out
    go_wp2_with fail
    obtain ⟨V4, hV4⟩ : ∃ V4, V4 = w4.alloc (.cells #[.int .i64 tm, .slice A4 n c4, .slice D4 n' d4] 31) := ⟨_, rfl⟩
    have haV4 := below1 w4 (.cells #[.int .i64 tm, .slice A4 n c4, .slice D4 n' d4] 31)
    have hnV4 := heap_alloc_new w4 (.cells #[.int .i64 tm, .slice A4 n c4, .slice D4 n' d4] 31)
    rw [← hV4] at haV4 hnV4 ⊢
    have hsV4 : V4.heap.size = w4.heap.size + 1 := by rw [hV4]; simp
    clear bA40 bA41 bA42 bA4l
    have HBV4 := Lib.hid (HB4.out.trans (haV4.mono HB4.out.size))
    have bA_V4 := Lib.hid ((haV4.block (w.heap.size) (lt_blk bA_4.out)).trans bA_4.out)
    have Xi_V4 := Lib.hid (Xi_4.out.since haV4 (by omega))
    have Xl_V4 := Lib.hid (Xl_4.out.since haV4 (by omega))
    have bX_V4 := Lib.hid hnV4
    have hzV4 := haV4.size
    clear hV4 haV4 hnV4
    refine (HI.out _ A4 D4 c4 d4 _ _ Xi_V4.out Xl_V4.out (by omega)).mono ?_
    rintro e w5 ⟨rfl, ha5⟩
    have HB5 := Lib.hid (HBV4.out.trans (ha5.mono HBV4.out.size))
    have hz5 := ha5.size
    have bA_5 := Lib.hid ((ha5.block (w.heap.size) (lt_blk bA_V4.out)).trans bA_V4.out)
    have bX_5 := Lib.hid ((ha5.block (w4.heap.size) (lt_blk bX_V4.out)).trans bX_V4.out)
    have Xi_5 := Lib.hid (Xi_V4.out.since ha5 (by omega))
    have Xl_5 := Lib.hid (Xl_V4.out.since ha5 (by omega))
    clear ha5
    have bA50 := cell_of_row _ _ 0 _ 25 (0, 0) bA_5.out
    have bA51 := cell_of_row _ _ 1 _ 25 (0, 0) bA_5.out
    have bA52 := cell_of_row _ _ 2 _ 25 (0, 0) bA_5.out
    have bA5l := lt_blk bA_5.out
    have bX50 := cell_of_row _ _ 0 _ 31 (0, 0) bX_5.out
    have bX51 := cell_of_row _ _ 1 _ 31 (0, 0) bX_5.out
    have bX52 := cell_of_row _ _ 2 _ 31 (0, 0) bX_5.out
    have bX5l := lt_blk bX_5.out
    go_wp2_with fail
    have s0 : w5.cell? ⟨w.heap.size, 0, none⟩ = some (.int .i64 tm) := bA50
    have s1 : w5.cell? ⟨w.heap.size, 1, none⟩ = some (.slice A n c) := bA51
    have s2 : w5.cell? ⟨w.heap.size, 2, none⟩ = some (.slice A' n' c') := bA52
    have s3 : w5.cell? ⟨w4.heap.size, 0, none⟩ = some (.int .i64 tm) := bX50
    have s4 : w5.cell? ⟨w4.heap.size, 1, none⟩ = some (.slice A4 n c4) := bX51
    have s5 : w5.cell? ⟨w4.heap.size, 2, none⟩ = some (.slice D4 n' d4) := bX52
    have sA : w.heap.size < w5.heap.size := bA5l
    have sX : w4.heap.size < w5.heap.size := bX5l
    clear bA50 bA51 bA52 bA5l bX50 bX51 bX52 bX5l
    have HS0 : w5.drew.cell? ⟨w.heap.size, 0, none⟩ = some (.int .i64 tm) ∧ w5.drew.cell? ⟨w.heap.size, 1, none⟩ = some (.slice A n c) ∧ w5.drew.cell? ⟨w.heap.size, 2, none⟩ = some (.slice A' n' c') ∧ w5.drew.cell? ⟨w4.heap.size, 0, none⟩ = some (.int .i64 tm) ∧ w5.drew.cell? ⟨w4.heap.size, 1, none⟩ = some (.slice A4 n c4) ∧ w5.drew.cell? ⟨w4.heap.size, 2, none⟩ = some (.slice D4 n' d4) := ⟨s0, s1, s2, s3, s4, s5⟩
    have HTQ := Lib.hid (fun W (hW : Below w5.heap.size w5 W) => HT.out W (HB5.out.trans (hW.mono HB5.out.size)))
    have HEQ := Lib.hid (fun (W : World) (C D : Option Addr) (cc dd lo : Nat) (hW : Below w5.heap.size w5 W) (hoi : OwnCk W lo W.heap.size C cc is) (hol : OwnLe W lo W.heap.size D dd ls) => eqWatch_same tm A4 D4 C D n c4 n' d4 cc dd is ls W.heap.size W HN.out HN'.out ((Xi_5.out.since hW (by omega)).cks.mono (by have := hW.size; omega)) ((Xl_5.out.since hW (by omega)).les.mono (by have := hW.size; omega)) hoi.cks hol.les (Nat.le_refl _) (by omega) (by omega))
    have hbel := Below.refl w5.heap.size w5
    go_region_held3 (fun w' => w'.cell? ⟨w.heap.size, 0, none⟩ = some (.int .i64 tm) ∧ w'.cell? ⟨w.heap.size, 1, none⟩ = some (.slice A n c) ∧ w'.cell? ⟨w.heap.size, 2, none⟩ = some (.slice A' n' c') ∧ w'.cell? ⟨w4.heap.size, 0, none⟩ = some (.int .i64 tm) ∧ w'.cell? ⟨w4.heap.size, 1, none⟩ = some (.slice A4 n c4) ∧ w'.cell? ⟨w4.heap.size, 2, none⟩ = some (.slice D4 n' d4))
      (first | with_reducible exact HS0 | with_reducible exact ⟨kept2 hQ1 s0 sA, kept2 hQ1 s1 sA, kept2 hQ1 s2 sA, kept2 hQ1 s3 sX, kept2 hQ1 s4 sX, kept2 hQ1 s5 sX⟩ | with_reducible exact ⟨kept2 hQ2 s0 sA, kept2 hQ2 s1 sA, kept2 hQ2 s2 sA, kept2 hQ2 s3 sX, kept2 hQ2 s4 sX, kept2 hQ2 s5 sX⟩ | fail)
      (first
        | (go_at_call 21; (with_reducible refine (HTQ.out _ hbel.drew).mono ?_); rintro e v1 ⟨A5, c5, D5, d5, rfl, hoi6, hol6, hv1⟩; have hQ1 : Below w5.heap.size w5 v1 := below_d0W hv1)
        | (go_at_call 23; (with_reducible refine (HEQ.out v1 A5 D5 c5 d5 _ hQ1 hoi6 hol6).mono ?_); rintro e w6 ⟨rfl, hv2⟩; have hQ2 : Below w5.heap.size w5 w6 := hQ1.trans (hv2.mono hQ1.size))
        | fail)
    have ha6 := hQ2
    clear hv1 hv2 hQ1 hQ2 hoi6 hol6 HS0 s0 s1 s2 s3 s4 s5 sA sX HTQ HEQ hbel
    try (rename_i hh7; clear hh7)
    have HB6 := Lib.hid (HB5.out.trans (ha6.mono HB5.out.size))
    have hz6 := ha6.size
    have bA_6 := Lib.hid ((ha6.block (w.heap.size) (lt_blk bA_5.out)).trans bA_5.out)
    have bX_6 := Lib.hid ((ha6.block (w4.heap.size) (lt_blk bX_5.out)).trans bX_5.out)
    have Xi_6 := Lib.hid (Xi_5.out.since ha6 (by omega))
    have Xl_6 := Lib.hid (Xl_5.out.since ha6 (by omega))
    clear ha6
    go_wp2
    go_ret
    exact ⟨rfl, HB6.out⟩
  · rw [remI_no (show 1048576 < n + n' by omega)] at HZ
    clear h hn hA hln hn' hL hmx
    go_enter Try.func11, Try.ntmps11
    go_wp2_with fail
    refine (HZ.out _ hb0).mono ?_
    rintro e w1 ⟨rfl, ha1⟩
    have HB := Lib.hid (hb0.trans (ha1.mono hb0.size))
    clear ha1
    go_wp2
    go_ret
    exact ⟨rfl, HB.out⟩
end Go.Proofs.Ytoanigbjdfgjcaa.Wt
