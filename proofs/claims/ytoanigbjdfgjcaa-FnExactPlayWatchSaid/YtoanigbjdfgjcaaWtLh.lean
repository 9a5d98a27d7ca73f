/-
  The walk of the exact law PlayWatch.
-/
import Derived.Test.YtoanigbjdfgjcaaWtL0
import Derived.Test.YtoanigbjdfgjcaaWtF10
import Derived.Deep.RegionHeld3
import Derived.Deep.DeepCutAuto
namespace Go.Proofs.Ytoanigbjdfgjcaa.Wt
open Go.RowKit
set_option linter.unusedVariables false
set_option linter.unusedSimpArgs false

theorem doW_small {tm : Int} {is : List Int} {ls : List (Int × Int × Int)} {a : (Int × Int × Int)} : (doW tm is ls a).2.1.length ≤ 1048576 ∧ (doW tm is ls a).2.2.1.length ≤ 2000000 := by
  unfold doW
  split
  · exact askW_small
  · split
    · exact passW_small
    · split
      · exact driftW_small
      · split
        · exact giveW_small
        · exact noW_small
theorem nextW_small {s : Int × List Int × List (Int × Int × Int)} {a : (Int × Int × Int)} (h : s.2.1.length ≤ 1048576 ∧ s.2.2.length ≤ 2000000) : (nextW s a).2.1.length ≤ 1048576 ∧ (nextW s a).2.2.length ≤ 2000000 := by
  unfold nextW
  cases (doW s.1 s.2.1 s.2.2 a).2.2.2
  · exact h
  · exact doW_small
theorem fold_small : ∀ (acts : List (Int × Int × Int)) (s : Int × List Int × List (Int × Int × Int)), s.2.1.length ≤ 1048576 ∧ s.2.2.length ≤ 2000000 → (acts.foldl nextW s).2.1.length ≤ 1048576 ∧ (acts.foldl nextW s).2.2.length ≤ 2000000
  | [], _, h => h
  | a :: l, s, h => by rw [List.foldl_cons]; exact fold_small l _ (nextW_small h)
theorem playW_small {tm : Int} {is : List Int} {ls acts : List (Int × Int × Int)} : (playW tm is ls acts).2.1.length ≤ 1048576 ∧ (playW tm is ls acts).2.2.1.length ≤ 2000000 := by
  unfold playW
  cases e : (wchB tm is ls && decide (acts.length ≤ 100))
  · exact noW_small
  · simp only [Bool.and_eq_true] at e
    obtain ⟨_, h1, h2, _⟩ := wchB_true e.1
    exact fold_small acts (tm, is, ls) (by constructor <;> simp only <;> omega)

set_option maxRecDepth 100000 in
set_option maxHeartbeats 8000000 in
theorem playWatch_walk (w : World) (tm : Int) (A : Option Addr) (n c : Nat) (is : List Int) (A' : Option Addr) (n' c' : Nat) (ls : List (Int × Int × Int)) (hn : is.length = n) (hA : CksB w w.heap.size A is) (hln : n ≤ maxLen) (hn' : ls.length = n') (hL : LesB w w.heap.size A' ls) (hmx : n' ≤ maxLen) (AA : Option Addr) (na ca : Nat) (acts : List (Int × Int × Int)) (hna : acts.length = na) (hnm : na ≤ maxLen) (hAA : LesB w w.heap.size AA acts) :
    Calls Try.prog 12 #[.agg #[.int .i64 tm, .slice A n c, .slice A' n' c'], .slice AA na ca] w fun e w' => e = .returned (.bool true) ∧ Below w.heap.size w w' := by
  have hb0 := below1 w (.cells #[.int .i64 tm, .slice A n c, .slice A' n' c'] 25)
  have hk0 := heap_alloc_new w (.cells #[.int .i64 tm, .slice A n c, .slice A' n' c'] 25)
  have HZ := Lib.hid (fun W (hW : Below w.heap.size w W) => szWatchW_any tm A A' n c n' c' W hln hmx)
  by_cases h : n + n' ≤ 1048576
  · rw [remI_yes h] at HZ
    have hs0 : (0 : Int) ≤ ((1048576 : Nat) : Int) - ((n + n' : Nat) : Int) := by omega
    obtain ⟨q0, hq0⟩ : ∃ q0, q0 = ((1048576 : Nat) : Int) - ((n + n' : Nat) : Int) := ⟨_, rfl⟩
    obtain ⟨ql, hql⟩ : ∃ ql : Nat, ql = 1048576 - (n + n') := ⟨_, rfl⟩
    have hqe : (ql : Int) = q0 := by omega
    have hqb : ql ≤ 1048576 := by omega
    have hzz := fun W => szWatchActS_any AA na ca ql W hnm hqb
    rw [hqe] at hzz
    rw [← hq0] at HZ hs0
    have hn1 : n ≤ 1048576 := by omega
    have hn2 : n' ≤ 1048576 := by omega
    have ht := fun W (hW : Below w.heap.size w W) => toWatch_any tm A A' n c n' c' is ls w.heap.size W hn hn' (hA.below hW) (hL.below hW) hW.size hn1 hn2
    unfold WtV at ht
    simp only [hn, hn'] at ht
    have HT := Lib.hid ht
    clear ht
    by_cases h9 : na ≤ ql
    · rw [remI_yes h9] at hzz
      have hs9 : (0 : Int) ≤ (ql : Int) - (na : Int) := by omega
      rw [hqe] at hzz hs9
      obtain ⟨q9, hq9⟩ : ∃ q9, q9 = q0 - (na : Int) := ⟨_, rfl⟩
      rw [← hq9] at hzz hs9
      have HZZ := Lib.hid hzz
      have hna1 : na ≤ 1048576 := by omega
      have hta := fun W (hW : Below w.heap.size w W) => toWatchActS_any AA na ca acts w.heap.size W hna (hAA.below hW) hW.size hna1
      unfold ToAc at hta
      have HTA := Lib.hid hta
      clear hta hzz hq9
      have hspec := fun (W : World) (C C' CA : Option Addr) (d d' da lo hi lo2 hi2 : Nat) (hoi : OwnCk W lo hi C d is) (hol : OwnLe W lo hi C' d' ls) (hoa : OwnAc W lo2 hi2 CA da acts) (hh : hi ≤ W.heap.size) (hh2 : hi2 ≤ W.heap.size) => specPlayWatch_any tm C C' n d n' d' is ls CA na da acts W.heap.size W hn hn' (hoi.cks.mono hh) (hol.les.mono hh) (Nat.le_refl _) hna (hoa.les.mono hh2) hnm
      have himpl := fun (W : World) (C C' CA : Option Addr) (d d' da lo hi lo2 hi2 : Nat) (hoi : OwnCk W lo hi C d is) (hol : OwnLe W lo hi C' d' ls) (hoa : OwnAc W lo2 hi2 CA da acts) (hh : hi ≤ W.heap.size) (hh2 : hi2 ≤ W.heap.size) => implPlayWatch_any tm C C' n d n' d' is ls CA na da acts W.heap.size W hn hn' (hoi.cks.mono hh) (hol.les.mono hh) (Nat.le_refl _) hna (hoa.les.mono hh2) hnm
      have hsm : (playW tm is ls acts).2.1.length ≤ 1048576 ∧ (playW tm is ls acts).2.2.1.length ≤ 2000000 := playW_small
      obtain ⟨⟨an, ai, al, ok⟩, hr⟩ : ∃ r, r = playW tm is ls acts := ⟨_, rfl⟩
      rw [← hr] at hsm
      simp only [← hr] at hspec himpl
      simp only [WAPost_un] at hspec himpl
      simp only at hsm
      obtain ⟨ni, hni⟩ : ∃ ni, ni = ai.length := ⟨_, rfl⟩
      obtain ⟨nl, hnl⟩ : ∃ nl, nl = al.length := ⟨_, rfl⟩
      rw [← hni, ← hnl] at hsm
      simp only [← hni, ← hnl] at hspec himpl
      obtain ⟨hsm1, hsm2⟩ := hsm
      have HS := Lib.hid hspec
      have HI := Lib.hid himpl
      have HNI := Lib.hid hni.symm
      have HNL := Lib.hid hnl.symm
      have HN := Lib.hid hn
      have HN' := Lib.hid hn'
      have HNA := Lib.hid hna
      have m1 : (0 : Int) ≤ ((1 + n + 3 * n' : Nat) : Int) := by omega
      have m2 : (0 : Int) ≤ ((1 + ni + 3 * nl : Nat) : Int) := by omega
      have m3 : (0 : Int) ≤ ((1 + n + 3 * n' + 3 * na : Nat) : Int) := by omega
      obtain ⟨mx, hmxx⟩ : ∃ mx, mx = 1 + n + 3 * n' := ⟨_, rfl⟩
      obtain ⟨mg, hmgg⟩ : ∃ mg, mg = 1 + ni + 3 * nl := ⟨_, rfl⟩
      have hmx1 : 1 ≤ mx := by omega
      have hmx2 : mx + 3 * na ≤ 1000000000 := by omega
      rw [← hmxx] at m1 m3
      rw [← hmgg] at m2
      obtain ⟨my, hmyy⟩ : ∃ my, my = mx + 3 * na := ⟨_, rfl⟩
      rw [← hmyy] at m3
      have HMX := Lib.hid hmxx.symm
      have HMG := Lib.hid hmgg.symm
      have HMY := Lib.hid hmyy.symm
      have HB0 := Lib.hid hb0
      have bA_0 := Lib.hid hk0
      have HM2 := Lib.hid hmx2
      clear hspec himpl hr hni hnl h h9 hA hL hmx hn hn' hln hq0 hmgg hk0 hna hnm hAA hqe hql hqb hmyy hmx2
      have HXX := Lib.hid hmxx
      clear hmxx
      go_enter Try.func12, Try.ntmps12
      go_wp2_with fail
      refine (HZ.out _ hb0).mono ?_
      rintro e w1 ⟨rfl, ha1⟩
      have h00 := hb0.size
      clear hb0
      have HB1 := Lib.hid (HB0.out.trans (ha1.mono HB0.out.size))
      have hz1 := ha1.size
      have bA_1 := Lib.hid ((ha1.block (w.heap.size) (lt_blk bA_0.out)).trans bA_0.out)
      clear ha1
      go_wp2_with fail
      refine (HZZ.out _).mono ?_
      rintro e w9 ⟨rfl, rfl⟩
      have bA10 := cell_of_row _ _ 0 _ 25 (0, 0) bA_1.out
      have bA11 := cell_of_row _ _ 1 _ 25 (0, 0) bA_1.out
      have bA12 := cell_of_row _ _ 2 _ 25 (0, 0) bA_1.out
      have bA1l := lt_blk bA_1.out
      go_wp2_with fail
      refine (HT.out _ HB1.out).mono ?_
      rintro e w2 ⟨A2, c2, D2, d2, rfl, hoi2, hol2, ha2⟩
      clear bA10 bA11 bA12 bA1l
      have HB2 := Lib.hid (HB1.out.trans (ha2.mono HB1.out.size))
      have hz2 := ha2.size
      have bA_2 := Lib.hid ((ha2.block (w.heap.size) (lt_blk bA_1.out)).trans bA_1.out)
      clear ha2
      have t2i_2 := Lib.hid hoi2
      have t2l_2 := Lib.hid hol2
      clear hoi2 hol2
      go_wp2_with fail
      refine (HTA.out _ HB2.out).mono ?_
      rintro e w21 ⟨G21, rfl, hoi21, ha21⟩
      have HB21 := Lib.hid (HB2.out.trans (ha21.mono HB2.out.size))
      have hz21 := ha21.size
      have bA_21 := Lib.hid ((ha21.block (w.heap.size) (lt_blk bA_2.out)).trans bA_2.out)
      have t2i_21 := Lib.hid (t2i_2.out.since ha21 (by omega))
      have t2l_21 := Lib.hid (t2l_2.out.since ha21 (by omega))
      clear ha21
      have u2i_21 := Lib.hid hoi21
      clear hoi21
      go_wp2_with fail
      refine (HS.out _ A2 D2 (some ⟨G21, 0, none⟩) c2 d2 na _ _ _ _ t2i_21.out t2l_21.out u2i_21.out (by omega) (by omega)).mono ?_
      rintro e w3 ⟨A3, c3, D3, d3, rfl, hoi3, hol3, ha3⟩
      have HB3 := Lib.hid (HB21.out.trans (ha3.mono HB21.out.size))
      have hz3 := ha3.size
      have bA_3 := Lib.hid ((ha3.block (w.heap.size) (lt_blk bA_21.out)).trans bA_21.out)
      have t2i_3 := Lib.hid (t2i_21.out.since ha3 (by omega))
      have t2l_3 := Lib.hid (t2l_21.out.since ha3 (by omega))
      have u2i_3 := Lib.hid (u2i_21.out.since ha3 (by omega))
      clear ha3
      have Wi_3 := Lib.hid hoi3
      have Wl_3 := Lib.hid hol3
      clear hoi3 hol3
      have bA30 := cell_of_row _ _ 0 _ 25 (0, 0) bA_3.out
      have bA31 := cell_of_row _ _ 1 _ 25 (0, 0) bA_3.out
      have bA32 := cell_of_row _ _ 2 _ 25 (0, 0) bA_3.out
      have bA3l := lt_blk bA_3.out
      go_wp2_with fail
      obtain ⟨V3, hV3⟩ : ∃ V3, V3 = w3.alloc (.cells #[.int .i64 an, .slice A3 ni c3, .slice D3 nl d3] 31) := ⟨_, rfl⟩
      have haV3 := below1 w3 (.cells #[.int .i64 an, .slice A3 ni c3, .slice D3 nl d3] 31)
      have hnV3 := heap_alloc_new w3 (.cells #[.int .i64 an, .slice A3 ni c3, .slice D3 nl d3] 31)
      rw [← hV3] at haV3 hnV3 ⊢
      have hsV3 : V3.heap.size = w3.heap.size + 1 := by rw [hV3]; simp
      clear bA30 bA31 bA32 bA3l
      have HBV3 := Lib.hid (HB3.out.trans (haV3.mono HB3.out.size))
      have bA_V3 := Lib.hid ((haV3.block (w.heap.size) (lt_blk bA_3.out)).trans bA_3.out)
      have Wi_V3 := Lib.hid (Wi_3.out.since haV3 (by omega))
      have Wl_V3 := Lib.hid (Wl_3.out.since haV3 (by omega))
      have bW_V3 := Lib.hid hnV3
      have hzV3 := haV3.size
      clear hV3 haV3 hnV3
      refine (HT.out _ HBV3.out).mono ?_
      rintro e w4 ⟨A4, c4, D4, d4, rfl, hoi4, hol4, ha4⟩
      have HB4 := Lib.hid (HBV3.out.trans (ha4.mono HBV3.out.size))
      have hz4 := ha4.size
      have bA_4 := Lib.hid ((ha4.block (w.heap.size) (lt_blk bA_V3.out)).trans bA_V3.out)
      have bW_4 := Lib.hid ((ha4.block (w3.heap.size) (lt_blk bW_V3.out)).trans bW_V3.out)
      have Wi_4 := Lib.hid (Wi_V3.out.since ha4 (by omega))
      have Wl_4 := Lib.hid (Wl_V3.out.since ha4 (by omega))
      clear ha4
      have Xi_4 := Lib.hid hoi4
      have Xl_4 := Lib.hid hol4
      clear hoi4 hol4
      have bA40 := cell_of_row _ _ 0 _ 25 (0, 0) bA_4.out
      have bA41 := cell_of_row _ _ 1 _ 25 (0, 0) bA_4.out
      have bA42 := cell_of_row _ _ 2 _ 25 (0, 0) bA_4.out
      have bA4l := lt_blk bA_4.out
      go_wp2_with fail
      obtain ⟨V4, hV4⟩ : ∃ V4, V4 = w4.alloc (.cells #[.int .i64 tm, .slice A4 n c4, .slice D4 n' d4] 31) := ⟨_, rfl⟩
      have haV4 := below1 w4 (.cells #[.int .i64 tm, .slice A4 n c4, .slice D4 n' d4] 31)
      have hnV4 := heap_alloc_new w4 (.cells #[.int .i64 tm, .slice A4 n c4, .slice D4 n' d4] 31)
      rw [← hV4] at haV4 hnV4 ⊢
      have hsV4 : V4.heap.size = w4.heap.size + 1 := by rw [hV4]; simp
      clear bA40 bA41 bA42 bA4l
      have HBV4 := Lib.hid (HB4.out.trans (haV4.mono HB4.out.size))
      have bA_V4 := Lib.hid ((haV4.block (w.heap.size) (lt_blk bA_4.out)).trans bA_4.out)
      have bW_V4 := Lib.hid ((haV4.block (w3.heap.size) (lt_blk bW_4.out)).trans bW_4.out)
      have Wi_V4 := Lib.hid (Wi_4.out.since haV4 (by omega))
      have Wl_V4 := Lib.hid (Wl_4.out.since haV4 (by omega))
      have Xi_V4 := Lib.hid (Xi_4.out.since haV4 (by omega))
      have Xl_V4 := Lib.hid (Xl_4.out.since haV4 (by omega))
      have bX_V4 := Lib.hid hnV4
      have hzV4 := haV4.size
      clear hV4 haV4 hnV4
      refine (HTA.out _ HBV4.out).mono ?_
      rintro e w41 ⟨G41, rfl, hoi41, ha41⟩
      have HB41 := Lib.hid (HBV4.out.trans (ha41.mono HBV4.out.size))
      have hz41 := ha41.size
      have bA_41 := Lib.hid ((ha41.block (w.heap.size) (lt_blk bA_V4.out)).trans bA_V4.out)
      have bW_41 := Lib.hid ((ha41.block (w3.heap.size) (lt_blk bW_V4.out)).trans bW_V4.out)
      have bX_41 := Lib.hid ((ha41.block (w4.heap.size) (lt_blk bX_V4.out)).trans bX_V4.out)
      have Wi_41 := Lib.hid (Wi_V4.out.since ha41 (by omega))
      have Wl_41 := Lib.hid (Wl_V4.out.since ha41 (by omega))
      have Xi_41 := Lib.hid (Xi_V4.out.since ha41 (by omega))
      have Xl_41 := Lib.hid (Xl_V4.out.since ha41 (by omega))
      clear ha41
      have XAi_41 := Lib.hid hoi41
      clear hoi41
      have bX410 := cell_of_row _ _ 0 _ 31 (0, 0) bX_41.out
      have bX411 := cell_of_row _ _ 1 _ 31 (0, 0) bX_41.out
      have bX412 := cell_of_row _ _ 2 _ 31 (0, 0) bX_41.out
      have bX41l := lt_blk bX_41.out
      go_wp2_with fail
      refine (HI.out _ A4 D4 (some ⟨G41, 0, none⟩) c4 d4 na _ _ _ _ Xi_41.out Xl_41.out XAi_41.out (by omega) (by omega)).mono ?_
      rintro e w5 ⟨A5, c5, D5, d5, rfl, hoi5, hol5, ha5⟩
      clear bX410 bX411 bX412 bX41l
      have HB5 := Lib.hid (HB41.out.trans (ha5.mono HB41.out.size))
      have hz5 := ha5.size
      have bA_5 := Lib.hid ((ha5.block (w.heap.size) (lt_blk bA_41.out)).trans bA_41.out)
      have bW_5 := Lib.hid ((ha5.block (w3.heap.size) (lt_blk bW_41.out)).trans bW_41.out)
      have bX_5 := Lib.hid ((ha5.block (w4.heap.size) (lt_blk bX_41.out)).trans bX_41.out)
      have Wi_5 := Lib.hid (Wi_41.out.since ha5 (by omega))
      have Wl_5 := Lib.hid (Wl_41.out.since ha5 (by omega))
      have Xi_5 := Lib.hid (Xi_41.out.since ha5 (by omega))
      have Xl_5 := Lib.hid (Xl_41.out.since ha5 (by omega))
      have XAi_5 := Lib.hid (XAi_41.out.since ha5 (by omega))
      clear ha5
      have Gi_5 := Lib.hid hoi5
      have Gl_5 := Lib.hid hol5
      clear hoi5 hol5
      have bA50 := cell_of_row _ _ 0 _ 25 (0, 0) bA_5.out
      have bA51 := cell_of_row _ _ 1 _ 25 (0, 0) bA_5.out
      have bA52 := cell_of_row _ _ 2 _ 25 (0, 0) bA_5.out
      have bA5l := lt_blk bA_5.out
      have bW50 := cell_of_row _ _ 0 _ 31 (0, 0) bW_5.out
      have bW51 := cell_of_row _ _ 1 _ 31 (0, 0) bW_5.out
      have bW52 := cell_of_row _ _ 2 _ 31 (0, 0) bW_5.out
      have bW5l := lt_blk bW_5.out
      have bX50 := cell_of_row _ _ 0 _ 31 (0, 0) bX_5.out
      have bX51 := cell_of_row _ _ 1 _ 31 (0, 0) bX_5.out
      have bX52 := cell_of_row _ _ 2 _ 31 (0, 0) bX_5.out
      have bX5l := lt_blk bX_5.out
      go_wp2_with fail
      obtain ⟨V5, hV5⟩ : ∃ V5, V5 = w5.alloc (.cells #[.int .i64 an, .slice A5 ni c5, .slice D5 nl d5] 31) := ⟨_, rfl⟩
      have haV5 := below1 w5 (.cells #[.int .i64 an, .slice A5 ni c5, .slice D5 nl d5] 31)
      have hnV5 := heap_alloc_new w5 (.cells #[.int .i64 an, .slice A5 ni c5, .slice D5 nl d5] 31)
      rw [← hV5] at haV5 hnV5 ⊢
      have hsV5 : V5.heap.size = w5.heap.size + 1 := by rw [hV5]; simp
      clear bA50 bA51 bA52 bA5l bW50 bW51 bW52 bW5l bX50 bX51 bX52 bX5l
      have HBV5 := Lib.hid (HB5.out.trans (haV5.mono HB5.out.size))
      have bA_V5 := Lib.hid ((haV5.block (w.heap.size) (lt_blk bA_5.out)).trans bA_5.out)
      have bW_V5 := Lib.hid ((haV5.block (w3.heap.size) (lt_blk bW_5.out)).trans bW_5.out)
      have bX_V5 := Lib.hid ((haV5.block (w4.heap.size) (lt_blk bX_5.out)).trans bX_5.out)
      have Wi_V5 := Lib.hid (Wi_5.out.since haV5 (by omega))
      have Wl_V5 := Lib.hid (Wl_5.out.since haV5 (by omega))
      have Xi_V5 := Lib.hid (Xi_5.out.since haV5 (by omega))
      have Xl_V5 := Lib.hid (Xl_5.out.since haV5 (by omega))
      have XAi_V5 := Lib.hid (XAi_5.out.since haV5 (by omega))
      have Gi_V5 := Lib.hid (Gi_5.out.since haV5 (by omega))
      have Gl_V5 := Lib.hid (Gl_5.out.since haV5 (by omega))
      have bG_V5 := Lib.hid hnV5
      have hzV5 := haV5.size
      clear hV5 haV5 hnV5
      have HE6 := Lib.hid (eqWatch_same an A5 D5 A3 D3 ni c5 nl d5 c3 d3 ai al V5.heap.size V5 HNI.out HNL.out (Gi_V5.out.cks.mono (by omega)) (Gl_V5.out.les.mono (by omega)) (Wi_V5.out.cks.mono (by omega)) (Wl_V5.out.les.mono (by omega)) (Nat.le_refl _) (by omega) (by omega))
      refine HE6.out.mono ?_
      rintro e w6 ⟨rfl, ha6⟩
      have HB6 := Lib.hid (HBV5.out.trans (ha6.mono HBV5.out.size))
      have hz6 := ha6.size
      have bA_6 := Lib.hid ((ha6.block (w.heap.size) (lt_blk bA_V5.out)).trans bA_V5.out)
      have bW_6 := Lib.hid ((ha6.block (w3.heap.size) (lt_blk bW_V5.out)).trans bW_V5.out)
      have bX_6 := Lib.hid ((ha6.block (w4.heap.size) (lt_blk bX_V5.out)).trans bX_V5.out)
      have bG_6 := Lib.hid ((ha6.block (w5.heap.size) (lt_blk bG_V5.out)).trans bG_V5.out)
      have Wi_6 := Lib.hid (Wi_V5.out.since ha6 (by omega))
      have Wl_6 := Lib.hid (Wl_V5.out.since ha6 (by omega))
      have Xi_6 := Lib.hid (Xi_V5.out.since ha6 (by omega))
      have Xl_6 := Lib.hid (Xl_V5.out.since ha6 (by omega))
      have XAi_6 := Lib.hid (XAi_V5.out.since ha6 (by omega))
      have Gi_6 := Lib.hid (Gi_V5.out.since ha6 (by omega))
      have Gl_6 := Lib.hid (Gl_V5.out.since ha6 (by omega))
      clear ha6
      clear HE6
      have bA60 := cell_of_row _ _ 0 _ 25 (0, 0) bA_6.out
      have bA61 := cell_of_row _ _ 1 _ 25 (0, 0) bA_6.out
      have bA62 := cell_of_row _ _ 2 _ 25 (0, 0) bA_6.out
      have bA6l := lt_blk bA_6.out
      have bX60 := cell_of_row _ _ 0 _ 31 (0, 0) bX_6.out
      have bX61 := cell_of_row _ _ 1 _ 31 (0, 0) bX_6.out
      have bX62 := cell_of_row _ _ 2 _ 31 (0, 0) bX_6.out
      have bX6l := lt_blk bX_6.out
      go_wp2_with fail
      have s0 : w6.cell? ⟨w.heap.size, 0, none⟩ = some (.int .i64 tm) := bA60
      have s1 : w6.cell? ⟨w.heap.size, 1, none⟩ = some (.slice A n c) := bA61
      have s2 : w6.cell? ⟨w.heap.size, 2, none⟩ = some (.slice A' n' c') := bA62
      have s3 : w6.cell? ⟨w4.heap.size, 0, none⟩ = some (.int .i64 tm) := bX60
      have s4 : w6.cell? ⟨w4.heap.size, 1, none⟩ = some (.slice A4 n c4) := bX61
      have s5 : w6.cell? ⟨w4.heap.size, 2, none⟩ = some (.slice D4 n' d4) := bX62
      have sA : w.heap.size < w6.heap.size := bA6l
      have sX : w4.heap.size < w6.heap.size := bX6l
      clear bA60 bA61 bA62 bA6l bX60 bX61 bX62 bX6l
      have HS0 : w6.drew.cell? ⟨w.heap.size, 0, none⟩ = some (.int .i64 tm) ∧ w6.drew.cell? ⟨w.heap.size, 1, none⟩ = some (.slice A n c) ∧ w6.drew.cell? ⟨w.heap.size, 2, none⟩ = some (.slice A' n' c') ∧ w6.drew.cell? ⟨w4.heap.size, 0, none⟩ = some (.int .i64 tm) ∧ w6.drew.cell? ⟨w4.heap.size, 1, none⟩ = some (.slice A4 n c4) ∧ w6.drew.cell? ⟨w4.heap.size, 2, none⟩ = some (.slice D4 n' d4) := ⟨s0, s1, s2, s3, s4, s5⟩
      have HTQ := Lib.hid (fun W (hW : Below w6.heap.size w6 W) => HT.out W (HB6.out.trans (hW.mono HB6.out.size)))
      have HEQ := Lib.hid (fun (W : World) (C D : Option Addr) (cc dd lo : Nat) (hW : Below w6.heap.size w6 W) (hoi : OwnCk W lo W.heap.size C cc is) (hol : OwnLe W lo W.heap.size D dd ls) => eqWatch_same tm A4 D4 C D n c4 n' d4 cc dd is ls W.heap.size W HN.out HN'.out ((Xi_6.out.since hW (by omega)).cks.mono (by have := hW.size; omega)) ((Xl_6.out.since hW (by omega)).les.mono (by have := hW.size; omega)) hoi.cks hol.les (Nat.le_refl _) (by omega) (by omega))
      have hbel := Below.refl w6.heap.size w6
      go_region_held3 (fun w' => w'.cell? ⟨w.heap.size, 0, none⟩ = some (.int .i64 tm) ∧ w'.cell? ⟨w.heap.size, 1, none⟩ = some (.slice A n c) ∧ w'.cell? ⟨w.heap.size, 2, none⟩ = some (.slice A' n' c') ∧ w'.cell? ⟨w4.heap.size, 0, none⟩ = some (.int .i64 tm) ∧ w'.cell? ⟨w4.heap.size, 1, none⟩ = some (.slice A4 n c4) ∧ w'.cell? ⟨w4.heap.size, 2, none⟩ = some (.slice D4 n' d4))
        (first | with_reducible exact HS0 | with_reducible exact ⟨kept2 hQ1 s0 sA, kept2 hQ1 s1 sA, kept2 hQ1 s2 sA, kept2 hQ1 s3 sX, kept2 hQ1 s4 sX, kept2 hQ1 s5 sX⟩ | with_reducible exact ⟨kept2 hQ2 s0 sA, kept2 hQ2 s1 sA, kept2 hQ2 s2 sA, kept2 hQ2 s3 sX, kept2 hQ2 s4 sX, kept2 hQ2 s5 sX⟩ | fail)
        (first
          | (go_at_call 21; (with_reducible refine (HTQ.out _ hbel.drew).mono ?_); rintro e v1 ⟨A6, c6, D6, d6, rfl, hoi6, hol6, hv1⟩; have hQ1 : Below w6.heap.size w6 v1 := below_d0W hv1)
          | (go_at_call 23; (with_reducible refine (HEQ.out v1 A6 D6 c6 d6 _ hQ1 hoi6 hol6).mono ?_); rintro e w7 ⟨rfl, hv2⟩; have hQ2 : Below w6.heap.size w6 w7 := hQ1.trans (hv2.mono hQ1.size))
          | fail)
      have ha7 := hQ2
      clear hv1 hv2 hQ1 hQ2 hoi6 hol6 HS0 s0 s1 s2 s3 s4 s5 sA sX HTQ HEQ hbel
      try (rename_i hh7; clear hh7)
      have HB7 := Lib.hid (HB6.out.trans (ha7.mono HB6.out.size))
      have hz7 := ha7.size
      have bA_7 := Lib.hid ((ha7.block (w.heap.size) (lt_blk bA_6.out)).trans bA_6.out)
      have bW_7 := Lib.hid ((ha7.block (w3.heap.size) (lt_blk bW_6.out)).trans bW_6.out)
      have bX_7 := Lib.hid ((ha7.block (w4.heap.size) (lt_blk bX_6.out)).trans bX_6.out)
      have bG_7 := Lib.hid ((ha7.block (w5.heap.size) (lt_blk bG_6.out)).trans bG_6.out)
      have Wi_7 := Lib.hid (Wi_6.out.since ha7 (by omega))
      have Wl_7 := Lib.hid (Wl_6.out.since ha7 (by omega))
      have Xi_7 := Lib.hid (Xi_6.out.since ha7 (by omega))
      have Xl_7 := Lib.hid (Xl_6.out.since ha7 (by omega))
      have XAi_7 := Lib.hid (XAi_6.out.since ha7 (by omega))
      have Gi_7 := Lib.hid (Gi_6.out.since ha7 (by omega))
      have Gl_7 := Lib.hid (Gl_6.out.since ha7 (by omega))
      clear ha7
      go_wp2_with fail
      refine (HTA.out _ HB7.out).mono ?_
      rintro e w8 ⟨G8, rfl, hoi8, ha8⟩
      have HB8 := Lib.hid (HB7.out.trans (ha8.mono HB7.out.size))
      have hz8 := ha8.size
      have bA_8 := Lib.hid ((ha8.block (w.heap.size) (lt_blk bA_7.out)).trans bA_7.out)
      have bW_8 := Lib.hid ((ha8.block (w3.heap.size) (lt_blk bW_7.out)).trans bW_7.out)
      have bX_8 := Lib.hid ((ha8.block (w4.heap.size) (lt_blk bX_7.out)).trans bX_7.out)
      have bG_8 := Lib.hid ((ha8.block (w5.heap.size) (lt_blk bG_7.out)).trans bG_7.out)
      have Wi_8 := Lib.hid (Wi_7.out.since ha8 (by omega))
      have Wl_8 := Lib.hid (Wl_7.out.since ha8 (by omega))
      have Xi_8 := Lib.hid (Xi_7.out.since ha8 (by omega))
      have Xl_8 := Lib.hid (Xl_7.out.since ha8 (by omega))
      have XAi_8 := Lib.hid (XAi_7.out.since ha8 (by omega))
      have Gi_8 := Lib.hid (Gi_7.out.since ha8 (by omega))
      have Gl_8 := Lib.hid (Gl_7.out.since ha8 (by omega))
      clear ha8
      have t8i_8 := Lib.hid hoi8
      clear hoi8
      have HE9 := Lib.hid (eqWatchActS_same (some ⟨G41, 0, none⟩) (some ⟨G8, 0, none⟩) na na na acts w8.heap.size w8 HNA.out (XAi_8.out.les.mono (by omega)) (t8i_8.out.les.mono (by omega)) (Nat.le_refl _) (by omega))
      go_wp2_with fail
      refine HE9.out.mono ?_
      rintro e w9 ⟨rfl, ha9⟩
      have HB9 := Lib.hid (HB8.out.trans (ha9.mono HB8.out.size))
      have hz9 := ha9.size
      have bA_9 := Lib.hid ((ha9.block (w.heap.size) (lt_blk bA_8.out)).trans bA_8.out)
      have bW_9 := Lib.hid ((ha9.block (w3.heap.size) (lt_blk bW_8.out)).trans bW_8.out)
      have bX_9 := Lib.hid ((ha9.block (w4.heap.size) (lt_blk bX_8.out)).trans bX_8.out)
      have bG_9 := Lib.hid ((ha9.block (w5.heap.size) (lt_blk bG_8.out)).trans bG_8.out)
      have Wi_9 := Lib.hid (Wi_8.out.since ha9 (by omega))
      have Wl_9 := Lib.hid (Wl_8.out.since ha9 (by omega))
      have Xi_9 := Lib.hid (Xi_8.out.since ha9 (by omega))
      have Xl_9 := Lib.hid (Xl_8.out.since ha9 (by omega))
      have XAi_9 := Lib.hid (XAi_8.out.since ha9 (by omega))
      have Gi_9 := Lib.hid (Gi_8.out.since ha9 (by omega))
      have Gl_9 := Lib.hid (Gl_8.out.since ha9 (by omega))
      have t8i_9 := Lib.hid (t8i_8.out.since ha9 (by omega))
      clear ha9
      clear HE9
      have bX90 := cell_of_row _ _ 0 _ 31 (0, 0) bX_9.out
      have bX91 := cell_of_row _ _ 1 _ 31 (0, 0) bX_9.out
      have bX92 := cell_of_row _ _ 2 _ 31 (0, 0) bX_9.out
      have bX9l := lt_blk bX_9.out
      have HM10 := Lib.hid (markWatch_any tm A4 D4 n c4 n' d4 1 _ _ is ls w9 HN.out HN'.out Xi_9.out Xl_9.out (by omega) (by omega) (Nat.le_refl _) (by have := HXX.out; omega))
      rw [HMX.out] at HM10
      go_wp2_with fail
      refine HM10.out.mono ?_
      rintro e w10 ⟨rfl, hmi10, hml10, hmm10⟩
      clear bX90 bX91 bX92 bX9l
      have hz10 := hmm10.2.2.2.1
      have HB10 := Lib.hid (HB9.out.trans ((hmm10.below (by omega)).mono (by omega)))
      have bA_10 := Lib.hid ((hmm10.2.2.2.2 (w.heap.size) (lt_blk bA_9.out) (by omega)).trans bA_9.out)
      have bW_10 := Lib.hid ((hmm10.2.2.2.2 (w3.heap.size) (lt_blk bW_9.out) (by omega)).trans bW_9.out)
      have bX_10 := Lib.hid ((hmm10.2.2.2.2 (w4.heap.size) (lt_blk bX_9.out) (by omega)).trans bX_9.out)
      have bG_10 := Lib.hid ((hmm10.2.2.2.2 (w5.heap.size) (lt_blk bG_9.out) (by omega)).trans bG_9.out)
      have Wi_10 := Lib.hid (Wi_9.out.mid hmm10 (by omega))
      have Wl_10 := Lib.hid (Wl_9.out.mid hmm10 (by omega))
      have XAi_10 := Lib.hid (XAi_9.out.mid hmm10 (by omega))
      have Gi_10 := Lib.hid (Gi_9.out.mid hmm10 (by omega))
      have Gl_10 := Lib.hid (Gl_9.out.mid hmm10 (by omega))
      have Xi_10 := Lib.hid hmi10
      have Xl_10 := Lib.hid hml10
      clear hmi10 hml10 hmm10 HM10
      have HM11 := Lib.hid (markWatchActS_any (some ⟨G41, 0, none⟩) na na mx _ _ acts w10 HNA.out XAi_10.out hmx1 HM2.out)
      rw [HMY.out] at HM11
      go_wp2_with fail
      refine HM11.out.mono ?_
      rintro e w11 ⟨rfl, hmi11, hma11⟩
      have hmm11 := hma11.mid (own_rangeW XAi_10.out)
      clear hma11 hmi11
      have hz11 := hmm11.2.2.2.1
      have HB11 := Lib.hid (HB10.out.trans ((hmm11.below (by omega)).mono (by omega)))
      have bA_11 := Lib.hid ((hmm11.2.2.2.2 (w.heap.size) (lt_blk bA_10.out) (by omega)).trans bA_10.out)
      have bW_11 := Lib.hid ((hmm11.2.2.2.2 (w3.heap.size) (lt_blk bW_10.out) (by omega)).trans bW_10.out)
      have bG_11 := Lib.hid ((hmm11.2.2.2.2 (w5.heap.size) (lt_blk bG_10.out) (by omega)).trans bG_10.out)
      have Wi_11 := Lib.hid (Wi_10.out.mid hmm11 (by omega))
      have Wl_11 := Lib.hid (Wl_10.out.mid hmm11 (by omega))
      have Gi_11 := Lib.hid (Gi_10.out.mid hmm11 (by omega))
      have Gl_11 := Lib.hid (Gl_10.out.mid hmm11 (by omega))
      clear hmm11 HM11
      have bW110 := cell_of_row _ _ 0 _ 31 (0, 0) bW_11.out
      have bW111 := cell_of_row _ _ 1 _ 31 (0, 0) bW_11.out
      have bW112 := cell_of_row _ _ 2 _ 31 (0, 0) bW_11.out
      have bW11l := lt_blk bW_11.out
      have bG110 := cell_of_row _ _ 0 _ 31 (0, 0) bG_11.out
      have bG111 := cell_of_row _ _ 1 _ 31 (0, 0) bG_11.out
      have bG112 := cell_of_row _ _ 2 _ 31 (0, 0) bG_11.out
      have bG11l := lt_blk bG_11.out
      have HE12 := Lib.hid (eqWatch_same an A5 D5 A3 D3 ni c5 nl d5 c3 d3 ai al w11.heap.size w11 HNI.out HNL.out (Gi_11.out.cks.mono (by omega)) (Gl_11.out.les.mono (by omega)) (Wi_11.out.cks.mono (by omega)) (Wl_11.out.les.mono (by omega)) (Nat.le_refl _) (by omega) (by omega))
      go_wp2_with fail
      refine HE12.out.mono ?_
      rintro e w12 ⟨rfl, ha12⟩
      clear bW110 bW111 bW112 bW11l bG110 bG111 bG112 bG11l
      have HB12 := Lib.hid (HB11.out.trans (ha12.mono HB11.out.size))
      have hz12 := ha12.size
      have bA_12 := Lib.hid ((ha12.block (w.heap.size) (lt_blk bA_11.out)).trans bA_11.out)
      have bW_12 := Lib.hid ((ha12.block (w3.heap.size) (lt_blk bW_11.out)).trans bW_11.out)
      have bG_12 := Lib.hid ((ha12.block (w5.heap.size) (lt_blk bG_11.out)).trans bG_11.out)
      have Wi_12 := Lib.hid (Wi_11.out.since ha12 (by omega))
      have Wl_12 := Lib.hid (Wl_11.out.since ha12 (by omega))
      have Gi_12 := Lib.hid (Gi_11.out.since ha12 (by omega))
      have Gl_12 := Lib.hid (Gl_11.out.since ha12 (by omega))
      clear ha12
      clear HE12
      have bG120 := cell_of_row _ _ 0 _ 31 (0, 0) bG_12.out
      have bG121 := cell_of_row _ _ 1 _ 31 (0, 0) bG_12.out
      have bG122 := cell_of_row _ _ 2 _ 31 (0, 0) bG_12.out
      have bG12l := lt_blk bG_12.out
      have HM13 := Lib.hid (markWatch_any an A5 D5 ni c5 nl d5 1 _ _ ai al w12 HNI.out HNL.out Gi_12.out Gl_12.out (by omega) (by omega) (Nat.le_refl _) (by have := HXX.out; omega))
      rw [HMG.out] at HM13
      go_wp2_with fail
      refine HM13.out.mono ?_
      rintro e w13 ⟨rfl, hmi13, hml13, hmm13⟩
      clear bG120 bG121 bG122 bG12l
      have hz13 := hmm13.2.2.2.1
      have HB13 := Lib.hid (HB12.out.trans ((hmm13.below (by omega)).mono (by omega)))
      have bA_13 := Lib.hid ((hmm13.2.2.2.2 (w.heap.size) (lt_blk bA_12.out) (by omega)).trans bA_12.out)
      have bW_13 := Lib.hid ((hmm13.2.2.2.2 (w3.heap.size) (lt_blk bW_12.out) (by omega)).trans bW_12.out)
      have bG_13 := Lib.hid ((hmm13.2.2.2.2 (w5.heap.size) (lt_blk bG_12.out) (by omega)).trans bG_12.out)
      have Wi_13 := Lib.hid (Wi_12.out.mid hmm13 (by omega))
      have Wl_13 := Lib.hid (Wl_12.out.mid hmm13 (by omega))
      have Gi_13 := Lib.hid hmi13
      have Gl_13 := Lib.hid hml13
      clear hmi13 hml13 hmm13 HM13
      have bG130 := cell_of_row _ _ 0 _ 31 (0, 0) bG_13.out
      have bG131 := cell_of_row _ _ 1 _ 31 (0, 0) bG_13.out
      have bG132 := cell_of_row _ _ 2 _ 31 (0, 0) bG_13.out
      have bG13l := lt_blk bG_13.out
      have HH14 := Lib.hid (heldWatch_any an A5 D5 ni c5 nl d5 1 w13.heap.size w13 (OwnCk.cks Gi_13.out |>.mono (by omega)) (OwnLe.les Gl_13.out |>.mono (by omega)) (Nat.le_refl _) (Nat.le_refl _) (by omega))
      rw [HMG.out] at HH14
      go_wp2_with fail
      refine HH14.out.mono ?_
      rintro e w14 ⟨rfl, ha14⟩
      clear bG130 bG131 bG132 bG13l
      have HB14 := Lib.hid (HB13.out.trans (ha14.mono HB13.out.size))
      have hz14 := ha14.size
      have bA_14 := Lib.hid ((ha14.block (w.heap.size) (lt_blk bA_13.out)).trans bA_13.out)
      have bW_14 := Lib.hid ((ha14.block (w3.heap.size) (lt_blk bW_13.out)).trans bW_13.out)
      have bG_14 := Lib.hid ((ha14.block (w5.heap.size) (lt_blk bG_13.out)).trans bG_13.out)
      have Wi_14 := Lib.hid (Wi_13.out.since ha14 (by omega))
      have Wl_14 := Lib.hid (Wl_13.out.since ha14 (by omega))
      have Gi_14 := Lib.hid (Gi_13.out.since ha14 (by omega))
      have Gl_14 := Lib.hid (Gl_13.out.since ha14 (by omega))
      clear ha14
      clear HH14
      have bA140 := cell_of_row _ _ 0 _ 25 (0, 0) bA_14.out
      have bA141 := cell_of_row _ _ 1 _ 25 (0, 0) bA_14.out
      have bA142 := cell_of_row _ _ 2 _ 25 (0, 0) bA_14.out
      have bA14l := lt_blk bA_14.out
      go_wp2_with fail
      refine (HT.out _ HB14.out).mono ?_
      rintro e w15 ⟨A15, c15, D15, d15, rfl, hoi15, hol15, ha15⟩
      clear bA140 bA141 bA142 bA14l
      have HB15 := Lib.hid (HB14.out.trans (ha15.mono HB14.out.size))
      have hz15 := ha15.size
      have bA_15 := Lib.hid ((ha15.block (w.heap.size) (lt_blk bA_14.out)).trans bA_14.out)
      have bW_15 := Lib.hid ((ha15.block (w3.heap.size) (lt_blk bW_14.out)).trans bW_14.out)
      have bG_15 := Lib.hid ((ha15.block (w5.heap.size) (lt_blk bG_14.out)).trans bG_14.out)
      have Wi_15 := Lib.hid (Wi_14.out.since ha15 (by omega))
      have Wl_15 := Lib.hid (Wl_14.out.since ha15 (by omega))
      have Gi_15 := Lib.hid (Gi_14.out.since ha15 (by omega))
      have Gl_15 := Lib.hid (Gl_14.out.since ha15 (by omega))
      clear ha15
      have Zi_15 := Lib.hid hoi15
      have Zl_15 := Lib.hid hol15
      clear hoi15 hol15
      go_wp2_with fail
      refine (HTA.out _ HB15.out).mono ?_
      rintro e w16 ⟨G16, rfl, hoi16, ha16⟩
      have HB16 := Lib.hid (HB15.out.trans (ha16.mono HB15.out.size))
      have hz16 := ha16.size
      have bA_16 := Lib.hid ((ha16.block (w.heap.size) (lt_blk bA_15.out)).trans bA_15.out)
      have bW_16 := Lib.hid ((ha16.block (w3.heap.size) (lt_blk bW_15.out)).trans bW_15.out)
      have bG_16 := Lib.hid ((ha16.block (w5.heap.size) (lt_blk bG_15.out)).trans bG_15.out)
      have Wi_16 := Lib.hid (Wi_15.out.since ha16 (by omega))
      have Wl_16 := Lib.hid (Wl_15.out.since ha16 (by omega))
      have Gi_16 := Lib.hid (Gi_15.out.since ha16 (by omega))
      have Gl_16 := Lib.hid (Gl_15.out.since ha16 (by omega))
      have Zi_16 := Lib.hid (Zi_15.out.since ha16 (by omega))
      have Zl_16 := Lib.hid (Zl_15.out.since ha16 (by omega))
      clear ha16
      have ZAi_16 := Lib.hid hoi16
      clear hoi16
      go_wp2_with fail
      refine (HI.out _ A15 D15 (some ⟨G16, 0, none⟩) c15 d15 na _ _ _ _ Zi_16.out Zl_16.out ZAi_16.out (by omega) (by omega)).mono ?_
      rintro e w17 ⟨A17, c17, D17, d17, rfl, hoi17, hol17, ha17⟩
      have HB17 := Lib.hid (HB16.out.trans (ha17.mono HB16.out.size))
      have hz17 := ha17.size
      have bA_17 := Lib.hid ((ha17.block (w.heap.size) (lt_blk bA_16.out)).trans bA_16.out)
      have bW_17 := Lib.hid ((ha17.block (w3.heap.size) (lt_blk bW_16.out)).trans bW_16.out)
      have bG_17 := Lib.hid ((ha17.block (w5.heap.size) (lt_blk bG_16.out)).trans bG_16.out)
      have Wi_17 := Lib.hid (Wi_16.out.since ha17 (by omega))
      have Wl_17 := Lib.hid (Wl_16.out.since ha17 (by omega))
      have Gi_17 := Lib.hid (Gi_16.out.since ha17 (by omega))
      have Gl_17 := Lib.hid (Gl_16.out.since ha17 (by omega))
      have Zi_17 := Lib.hid (Zi_16.out.since ha17 (by omega))
      have Zl_17 := Lib.hid (Zl_16.out.since ha17 (by omega))
      have ZAi_17 := Lib.hid (ZAi_16.out.since ha17 (by omega))
      clear ha17
      have Hi_17 := Lib.hid hoi17
      have Hl_17 := Lib.hid hol17
      clear hoi17 hol17
      have bA170 := cell_of_row _ _ 0 _ 25 (0, 0) bA_17.out
      have bA171 := cell_of_row _ _ 1 _ 25 (0, 0) bA_17.out
      have bA172 := cell_of_row _ _ 2 _ 25 (0, 0) bA_17.out
      have bA17l := lt_blk bA_17.out
      have bW170 := cell_of_row _ _ 0 _ 31 (0, 0) bW_17.out
      have bW171 := cell_of_row _ _ 1 _ 31 (0, 0) bW_17.out
      have bW172 := cell_of_row _ _ 2 _ 31 (0, 0) bW_17.out
      have bW17l := lt_blk bW_17.out
      have bG170 := cell_of_row _ _ 0 _ 31 (0, 0) bG_17.out
      have bG171 := cell_of_row _ _ 1 _ 31 (0, 0) bG_17.out
      have bG172 := cell_of_row _ _ 2 _ 31 (0, 0) bG_17.out
      have bG17l := lt_blk bG_17.out
      go_wp2_with fail
      obtain ⟨V17, hV17⟩ : ∃ V17, V17 = w17.alloc (.cells #[.int .i64 an, .slice A17 ni c17, .slice D17 nl d17] 31) := ⟨_, rfl⟩
      have haV17 := below1 w17 (.cells #[.int .i64 an, .slice A17 ni c17, .slice D17 nl d17] 31)
      have hnV17 := heap_alloc_new w17 (.cells #[.int .i64 an, .slice A17 ni c17, .slice D17 nl d17] 31)
      rw [← hV17] at haV17 hnV17 ⊢
      have hsV17 : V17.heap.size = w17.heap.size + 1 := by rw [hV17]; simp
      clear bA170 bA171 bA172 bA17l bW170 bW171 bW172 bW17l bG170 bG171 bG172 bG17l
      have HBV17 := Lib.hid (HB17.out.trans (haV17.mono HB17.out.size))
      have bA_V17 := Lib.hid ((haV17.block (w.heap.size) (lt_blk bA_17.out)).trans bA_17.out)
      have bW_V17 := Lib.hid ((haV17.block (w3.heap.size) (lt_blk bW_17.out)).trans bW_17.out)
      have bG_V17 := Lib.hid ((haV17.block (w5.heap.size) (lt_blk bG_17.out)).trans bG_17.out)
      have Wi_V17 := Lib.hid (Wi_17.out.since haV17 (by omega))
      have Wl_V17 := Lib.hid (Wl_17.out.since haV17 (by omega))
      have Gi_V17 := Lib.hid (Gi_17.out.since haV17 (by omega))
      have Gl_V17 := Lib.hid (Gl_17.out.since haV17 (by omega))
      have Hi_V17 := Lib.hid (Hi_17.out.since haV17 (by omega))
      have Hl_V17 := Lib.hid (Hl_17.out.since haV17 (by omega))
      have bH_V17 := Lib.hid hnV17
      have hzV17 := haV17.size
      clear hV17 haV17 hnV17
      have HE18 := Lib.hid (eqWatch_same an A17 D17 A3 D3 ni c17 nl d17 c3 d3 ai al V17.heap.size V17 HNI.out HNL.out (Hi_V17.out.cks.mono (by omega)) (Hl_V17.out.les.mono (by omega)) (Wi_V17.out.cks.mono (by omega)) (Wl_V17.out.les.mono (by omega)) (Nat.le_refl _) (by omega) (by omega))
      refine HE18.out.mono ?_
      rintro e w18 ⟨rfl, ha18⟩
      have HB18 := Lib.hid (HBV17.out.trans (ha18.mono HBV17.out.size))
      have hz18 := ha18.size
      have bA_18 := Lib.hid ((ha18.block (w.heap.size) (lt_blk bA_V17.out)).trans bA_V17.out)
      have bW_18 := Lib.hid ((ha18.block (w3.heap.size) (lt_blk bW_V17.out)).trans bW_V17.out)
      have bG_18 := Lib.hid ((ha18.block (w5.heap.size) (lt_blk bG_V17.out)).trans bG_V17.out)
      have bH_18 := Lib.hid ((ha18.block (w17.heap.size) (lt_blk bH_V17.out)).trans bH_V17.out)
      have Wi_18 := Lib.hid (Wi_V17.out.since ha18 (by omega))
      have Wl_18 := Lib.hid (Wl_V17.out.since ha18 (by omega))
      have Gi_18 := Lib.hid (Gi_V17.out.since ha18 (by omega))
      have Gl_18 := Lib.hid (Gl_V17.out.since ha18 (by omega))
      have Hi_18 := Lib.hid (Hi_V17.out.since ha18 (by omega))
      have Hl_18 := Lib.hid (Hl_V17.out.since ha18 (by omega))
      clear ha18
      clear HE18
      have bG180 := cell_of_row _ _ 0 _ 31 (0, 0) bG_18.out
      have bG181 := cell_of_row _ _ 1 _ 31 (0, 0) bG_18.out
      have bG182 := cell_of_row _ _ 2 _ 31 (0, 0) bG_18.out
      have bG18l := lt_blk bG_18.out
      have HH19 := Lib.hid (heldWatch_any an A5 D5 ni c5 nl d5 1 w18.heap.size w18 (OwnCk.cks Gi_18.out |>.mono (by omega)) (OwnLe.les Gl_18.out |>.mono (by omega)) (Nat.le_refl _) (Nat.le_refl _) (by omega))
      rw [HMG.out] at HH19
      go_wp2_with fail
      refine HH19.out.mono ?_
      rintro e w19 ⟨rfl, ha19⟩
      clear bG180 bG181 bG182 bG18l
      have HB19 := Lib.hid (HB18.out.trans (ha19.mono HB18.out.size))
      have hz19 := ha19.size
      have bA_19 := Lib.hid ((ha19.block (w.heap.size) (lt_blk bA_18.out)).trans bA_18.out)
      have bW_19 := Lib.hid ((ha19.block (w3.heap.size) (lt_blk bW_18.out)).trans bW_18.out)
      have bG_19 := Lib.hid ((ha19.block (w5.heap.size) (lt_blk bG_18.out)).trans bG_18.out)
      have bH_19 := Lib.hid ((ha19.block (w17.heap.size) (lt_blk bH_18.out)).trans bH_18.out)
      have Wi_19 := Lib.hid (Wi_18.out.since ha19 (by omega))
      have Wl_19 := Lib.hid (Wl_18.out.since ha19 (by omega))
      have Gi_19 := Lib.hid (Gi_18.out.since ha19 (by omega))
      have Gl_19 := Lib.hid (Gl_18.out.since ha19 (by omega))
      have Hi_19 := Lib.hid (Hi_18.out.since ha19 (by omega))
      have Hl_19 := Lib.hid (Hl_18.out.since ha19 (by omega))
      clear ha19
      clear HH19
      go_wp2
      go_ret
      exact ⟨rfl, HB19.out⟩
    · rw [remI_no (by omega)] at hzz
      have HZZ := Lib.hid hzz
      clear h h9 hn hA hln hn' hL hmx hAA hqe hql hqb hzz hq0 hnm hna
      go_enter Try.func12, Try.ntmps12
      go_wp2_with fail
      refine (HZ.out _ hb0).mono ?_
      rintro e w1 ⟨rfl, ha1⟩
      have HB := Lib.hid (hb0.trans (ha1.mono hb0.size))
      clear ha1
      go_wp2_with fail
      refine (HZZ.out _).mono ?_
      rintro e w9 ⟨rfl, rfl⟩
      go_wp2
      go_ret
      exact ⟨rfl, HB.out⟩
  · rw [remI_no (show 1048576 < n + n' by omega)] at HZ
    clear hAA h hn hA hln hn' hL hmx
    go_enter Try.func12, Try.ntmps12
    go_wp2_with fail
    refine (HZ.out _ hb0).mono ?_
    rintro e w1 ⟨rfl, ha1⟩
    have HB := Lib.hid (hb0.trans (ha1.mono hb0.size))
    clear ha1
    go_wp2
    go_ret
    exact ⟨rfl, HB.out⟩
end Go.Proofs.Ytoanigbjdfgjcaa.Wt
