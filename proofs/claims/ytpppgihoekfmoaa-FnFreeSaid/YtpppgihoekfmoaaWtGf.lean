/-
  The walk of FnFree; what it draws is handed in.
-/
import Derived.Test.YtpppgihoekfmoaaWtGw
import Derived.Deep.DeepCutAuto
import Derived.BigQuiet
namespace Go.Proofs.Ytpppgihoekfmoaa.Wt
open Go.RowKit
set_option linter.unusedVariables false
set_option linter.unusedSimpArgs false

set_option maxRecDepth 100000 in
set_option maxHeartbeats 16000000 in
theorem fnFree_walk (w : World) (A : Option Addr) (n c : Nat) (HDR0 : n ≤ 65536 → Calls Try.prog 14 #[.slice A n c] w (DrWhen w)) :
    Calls Try.prog 4 #[.slice A n c] w fun e w' => e = .returned (.bool true) ∧ Below w.heap.size w w' := by
  by_cases h : n ≤ 65536
  · have HDR := Lib.hid (HDR0 h)
    clear HDR0
    have HBG := Lib.hid (Fv.vBig_no A n c w h)
    go_enter Try.func4, Try.ntmps4
    go_wp2_with fail
    refine HBG.out.mono ?_
    rintro e w0 ⟨rfl, rfl⟩
    go_wp2_with fail
    refine HDR.out.mono ?_
    rintro e w1 ⟨tm, A1, c1, is, A2, c2, ls, who, rfl, hoi, hol, hli, hll, hb1⟩
    have HB1 := Lib.hid hb1
    have hz1 := hb1.size
    obtain ⟨n1, hn1⟩ : ∃ n1, n1 = is.length := ⟨_, rfl⟩
    obtain ⟨n2, hn2⟩ : ∃ n2, n2 = ls.length := ⟨_, rfl⟩
    rw [← hn1] at hli ⊢
    rw [← hn2] at hll ⊢
    have HN1 := Lib.hid hn1.symm
    have HN2 := Lib.hid hn2.symm
    clear hb1 hn1 hn2 HBG HDR
    have RI_1 := Lib.hid hoi
    clear hoi
    have RL_1 := Lib.hid hol
    clear hol
    have hb2 := below1 w1 (.cells #[.int .i64 tm, .slice A1 n1 c1, .slice A2 n2 c2] 30)
    have hk2 := heap_alloc_new w1 (.cells #[.int .i64 tm, .slice A1 n1 c1, .slice A2 n2 c2] 30)
    obtain ⟨w2, hw2⟩ : ∃ x, x = w1.alloc (.cells #[.int .i64 tm, .slice A1 n1 c1, .slice A2 n2 c2] 30) := ⟨_, rfl⟩
    rw [← hw2] at hb2 hk2
    have HB2 := Lib.hid (HB1.out.trans (hb2.mono HB1.out.size))
    have hz2 := hb2.size
    have RI_2 := Lib.hid (RI_1.out.since hb2 (by omega))
    have RL_2 := Lib.hid (RL_1.out.since hb2 (by omega))
    clear hb2
    have b3_2 := Lib.hid hk2
    clear hk2
    have HIW := Lib.hid (fun W (hi : OwnCk W w.heap.size w1.heap.size A1 c1 is) (hl : OwnLe W w.heap.size w1.heap.size A2 c2 ls) (hh : w1.heap.size ≤ W.heap.size) => implWhenFree_any tm A1 A2 n1 c1 n2 c2 is ls who W.heap.size W HN1.out HN2.out (hi.cks.mono hh) (hl.les.mono hh) (Nat.le_refl _) (by omega))
    have HSW := Lib.hid (fun W (hi : OwnCk W w.heap.size w1.heap.size A1 c1 is) (hl : OwnLe W w.heap.size w1.heap.size A2 c2 ls) (hh : w1.heap.size ≤ W.heap.size) => specWhenFree_any tm A1 A2 n1 c1 n2 c2 is ls who W.heap.size W HN1.out HN2.out (hi.cks.mono hh) (hl.les.mono hh) (Nat.le_refl _) (by omega))
    obtain ⟨⟨nn, ok⟩, hr⟩ : ∃ r, r = whenW tm is ls who := ⟨_, rfl⟩
    simp only [← hr] at HIW HSW
    have HWH := Lib.hid hr.symm
    clear hr
    have y0 : w2.cell? ⟨w1.heap.size, 0, none⟩ = some (.int .i64 tm) := cell_blk (i := 0) b3_2.out rfl
    have y1 : w2.cell? ⟨w1.heap.size, 1, none⟩ = some (.slice A1 n1 c1) := cell_blk (i := 1) b3_2.out rfl
    have y2 : w2.cell? ⟨w1.heap.size, 2, none⟩ = some (.slice A2 n2 c2) := cell_blk (i := 2) b3_2.out rfl
    have yl := lt_blk b3_2.out
    go_wp2_with fail
    rw [← hw2]
    clear hw2
    refine (HIW.out _ RI_2.out RL_2.out (by omega)).mono ?_
    rintro e w3 ⟨rfl, hb3⟩
    clear y0 y1 y2 yl
    have HB3 := Lib.hid (HB2.out.trans (hb3.mono HB2.out.size))
    have hz3 := hb3.size
    have RI_3 := Lib.hid (RI_2.out.since hb3 (by omega))
    have RL_3 := Lib.hid (RL_2.out.since hb3 (by omega))
    have b3_3 := Lib.hid ((hb3.block w1.heap.size (lt_blk b3_2.out)).trans b3_2.out)
    clear hb3
    have y0 : w3.cell? ⟨w1.heap.size, 0, none⟩ = some (.int .i64 tm) := cell_blk (i := 0) b3_3.out rfl
    have y1 : w3.cell? ⟨w1.heap.size, 1, none⟩ = some (.slice A1 n1 c1) := cell_blk (i := 1) b3_3.out rfl
    have y2 : w3.cell? ⟨w1.heap.size, 2, none⟩ = some (.slice A2 n2 c2) := cell_blk (i := 2) b3_3.out rfl
    have yl := lt_blk b3_3.out
    go_wp2_with fail
    refine (HSW.out _ RI_3.out RL_3.out (by omega)).mono ?_
    rintro e w4 ⟨rfl, hb4⟩
    clear y0 y1 y2 yl
    have HB4 := Lib.hid (HB3.out.trans (hb4.mono HB3.out.size))
    have hz4 := hb4.size
    have RI_4 := Lib.hid (RI_3.out.since hb4 (by omega))
    have RL_4 := Lib.hid (RL_3.out.since hb4 (by omega))
    have b3_4 := Lib.hid ((hb4.block w1.heap.size (lt_blk b3_3.out)).trans b3_3.out)
    clear hb4
    clear HIW HSW
    cases ok with
    | false =>
      have y0 : w4.cell? ⟨w1.heap.size, 0, none⟩ = some (.int .i64 tm) := cell_blk (i := 0) b3_4.out rfl
      have y1 : w4.cell? ⟨w1.heap.size, 1, none⟩ = some (.slice A1 n1 c1) := cell_blk (i := 1) b3_4.out rfl
      have y2 : w4.cell? ⟨w1.heap.size, 2, none⟩ = some (.slice A2 n2 c2) := cell_blk (i := 2) b3_4.out rfl
      have yl := lt_blk b3_4.out
      go_wp2
      go_ret
      all_goals exact ⟨rfl, HB4.out⟩
    | true =>
      by_cases hn40 : n2 = 40
      · subst hn40
        have y0 : w4.cell? ⟨w1.heap.size, 0, none⟩ = some (.int .i64 tm) := cell_blk (i := 0) b3_4.out rfl
        have y1 : w4.cell? ⟨w1.heap.size, 1, none⟩ = some (.slice A1 n1 c1) := cell_blk (i := 1) b3_4.out rfl
        have y2 : w4.cell? ⟨w1.heap.size, 2, none⟩ = some (.slice A2 40 c2) := cell_blk (i := 2) b3_4.out rfl
        have yl := lt_blk b3_4.out
        go_wp2
        go_ret
        all_goals exact ⟨rfl, HB4.out⟩
      · have hne : ((n2 : Int) == 40) = false := by rw [beq_eq_false_iff_ne]; omega
        have hned : decide ((n2 : Int) = 40) = false := by simp; omega
        obtain ⟨hhas, hst0, htn, hnn0⟩ := when_ok HWH.out
        clear hst0
        have htm := (wchB_true (hasW_true hhas).1).1
        have hnb : nn ≤ 100000 := by omega
        have HFT := Lib.hid (free_then HWH.out (by rw [HN2.out]; exact hn40))
        clear hhas
        have HPT := Lib.hid (fun W (hi : OwnCk W w.heap.size w1.heap.size A1 c1 is) (hl : OwnLe W w.heap.size w1.heap.size A2 c2 ls) (hh : w1.heap.size ≤ W.heap.size) => implPassTime_any tm A1 A2 n1 c1 n2 c2 is ls nn W.heap.size W HN1.out HN2.out (hi.cks.mono hh) (hl.les.mono hh) (Nat.le_refl _))
        rw [HFT.out.1] at HPT
        simp only [WAPost_un, HN1.out, HN2.out] at HPT
        have y0 : w4.cell? ⟨w1.heap.size, 0, none⟩ = some (.int .i64 tm) := cell_blk (i := 0) b3_4.out rfl
        have y1 : w4.cell? ⟨w1.heap.size, 1, none⟩ = some (.slice A1 n1 c1) := cell_blk (i := 1) b3_4.out rfl
        have y2 : w4.cell? ⟨w1.heap.size, 2, none⟩ = some (.slice A2 n2 c2) := cell_blk (i := 2) b3_4.out rfl
        have yl := lt_blk b3_4.out
        go_wp2_with fail
        refine (HPT.out _ RI_4.out RL_4.out (by omega)).mono ?_
        rintro e w5 ⟨A3, c3, A4, c4, rfl, hoi5, hol5, hb5⟩
        clear y0 y1 y2 yl
        have HB5 := Lib.hid (HB4.out.trans (hb5.mono HB4.out.size))
        have hz5 := hb5.size
        have RI_5 := Lib.hid (RI_4.out.since hb5 (by omega))
        have RL_5 := Lib.hid (RL_4.out.since hb5 (by omega))
        have b3_5 := Lib.hid ((hb5.block w1.heap.size (lt_blk b3_4.out)).trans b3_4.out)
        clear hb5
        have XI_5 := Lib.hid hoi5
        clear hoi5
        have XL_5 := Lib.hid hol5
        clear hol5
        have hb6 := below1 w5 (.cells #[.int .i64 (tm + nn), .slice A3 n1 c3, .slice A4 n2 c4] 30)
        have hk6 := heap_alloc_new w5 (.cells #[.int .i64 (tm + nn), .slice A3 n1 c3, .slice A4 n2 c4] 30)
        obtain ⟨w6, hw6⟩ : ∃ x, x = w5.alloc (.cells #[.int .i64 (tm + nn), .slice A3 n1 c3, .slice A4 n2 c4] 30) := ⟨_, rfl⟩
        rw [← hw6] at hb6 hk6
        have HB6 := Lib.hid (HB5.out.trans (hb6.mono HB5.out.size))
        have hz6 := hb6.size
        have RI_6 := Lib.hid (RI_5.out.since hb6 (by omega))
        have RL_6 := Lib.hid (RL_5.out.since hb6 (by omega))
        have XI_6 := Lib.hid (XI_5.out.since hb6 (by omega))
        have XL_6 := Lib.hid (XL_5.out.since hb6 (by omega))
        have b3_6 := Lib.hid ((hb6.block w1.heap.size (lt_blk b3_5.out)).trans b3_5.out)
        clear hb6
        have b9_6 := Lib.hid hk6
        clear hk6
        have HIA := Lib.hid (fun W (hi : OwnCk W w4.heap.size w5.heap.size A3 c3 is) (hl : OwnLe W w4.heap.size w5.heap.size A4 c4 ls) (hh : w5.heap.size ≤ W.heap.size) => implAskLease_any (tm + nn) A3 A4 n1 c3 n2 c4 is ls who 1 W.heap.size W HN1.out HN2.out (hi.cks.mono hh) (hl.les.mono hh) (Nat.le_refl _))
        have hyes := HFT.out.2
        obtain ⟨⟨qt, qi, ql, yes⟩, hq⟩ : ∃ r, r = askW (tm + nn) is ls who 1 := ⟨_, rfl⟩
        rw [← hq] at hyes
        simp only at hyes
        subst hyes
        simp only [← hq, WAPost_un] at HIA
        obtain ⟨q1, hq1⟩ : ∃ q1, q1 = qi.length := ⟨_, rfl⟩
        obtain ⟨q2, hq2⟩ : ∃ q2, q2 = ql.length := ⟨_, rfl⟩
        simp only [← hq1, ← hq2] at HIA
        clear hq hq1 hq2 HFT HPT
        have y0 : w6.cell? ⟨w5.heap.size, 0, none⟩ = some (.int .i64 (tm + nn)) := cell_blk (i := 0) b9_6.out rfl
        have y1 : w6.cell? ⟨w5.heap.size, 1, none⟩ = some (.slice A3 n1 c3) := cell_blk (i := 1) b9_6.out rfl
        have y2 : w6.cell? ⟨w5.heap.size, 2, none⟩ = some (.slice A4 n2 c4) := cell_blk (i := 2) b9_6.out rfl
        have yl := lt_blk b9_6.out
        go_wp2_with fail
        rw [← hw6]
        clear hw6
        refine (HIA.out _ XI_6.out XL_6.out (by omega)).mono ?_
        rintro e w7 ⟨A5, c5, A6, c6, rfl, hoi7, hol7, hb7⟩
        clear y0 y1 y2 yl
        have HB7 := Lib.hid (HB6.out.trans (hb7.mono HB6.out.size))
        have hz7 := hb7.size
        have RI_7 := Lib.hid (RI_6.out.since hb7 (by omega))
        have RL_7 := Lib.hid (RL_6.out.since hb7 (by omega))
        have XI_7 := Lib.hid (XI_6.out.since hb7 (by omega))
        have XL_7 := Lib.hid (XL_6.out.since hb7 (by omega))
        have b3_7 := Lib.hid ((hb7.block w1.heap.size (lt_blk b3_6.out)).trans b3_6.out)
        have b9_7 := Lib.hid ((hb7.block w5.heap.size (lt_blk b9_6.out)).trans b9_6.out)
        clear hb7
        clear hoi7 hol7 HIA
        have hb8 := below1 w7 (.cells #[.int .i64 qt, .slice A5 q1 c5, .slice A6 q2 c6] 30)
        have hk8 := heap_alloc_new w7 (.cells #[.int .i64 qt, .slice A5 q1 c5, .slice A6 q2 c6] 30)
        obtain ⟨w8, hw8⟩ : ∃ x, x = w7.alloc (.cells #[.int .i64 qt, .slice A5 q1 c5, .slice A6 q2 c6] 30) := ⟨_, rfl⟩
        rw [← hw8] at hb8 hk8
        have HB8 := Lib.hid (HB7.out.trans (hb8.mono HB7.out.size))
        have hz8 := hb8.size
        have RI_8 := Lib.hid (RI_7.out.since hb8 (by omega))
        have RL_8 := Lib.hid (RL_7.out.since hb8 (by omega))
        have b3_8 := Lib.hid ((hb8.block w1.heap.size (lt_blk b3_7.out)).trans b3_7.out)
        clear hb8
        have b11_8 := Lib.hid hk8
        clear hk8
        by_cases hn0 : 0 < nn
        · have HFE := Lib.hid (free_early HWH.out hn0)
          have HP2 := Lib.hid (fun W (hi : OwnCk W w.heap.size w1.heap.size A1 c1 is) (hl : OwnLe W w.heap.size w1.heap.size A2 c2 ls) (hh : w1.heap.size ≤ W.heap.size) => implPassTime_any tm A1 A2 n1 c1 n2 c2 is ls (nn - 1) W.heap.size W HN1.out HN2.out (hi.cks.mono hh) (hl.les.mono hh) (Nat.le_refl _))
          rw [HFE.out.1] at HP2
          simp only [WAPost_un, HN1.out, HN2.out] at HP2
          have y3 : w7.cell? ⟨w1.heap.size, 0, none⟩ = some (.int .i64 tm) := cell_blk (i := 0) b3_7.out rfl
          have y4 : w7.cell? ⟨w1.heap.size, 1, none⟩ = some (.slice A1 n1 c1) := cell_blk (i := 1) b3_7.out rfl
          have y5 : w7.cell? ⟨w1.heap.size, 2, none⟩ = some (.slice A2 n2 c2) := cell_blk (i := 2) b3_7.out rfl
          have y6 := lt_blk b3_7.out
          have y0 : w8.cell? ⟨w1.heap.size, 0, none⟩ = some (.int .i64 tm) := cell_blk (i := 0) b3_8.out rfl
          have y1 : w8.cell? ⟨w1.heap.size, 1, none⟩ = some (.slice A1 n1 c1) := cell_blk (i := 1) b3_8.out rfl
          have y2 : w8.cell? ⟨w1.heap.size, 2, none⟩ = some (.slice A2 n2 c2) := cell_blk (i := 2) b3_8.out rfl
          have yl := lt_blk b3_8.out
          go_wp2_with fail
          rw [← hw8]
          clear hw8
          refine (HP2.out _ RI_8.out RL_8.out (by omega)).mono ?_
          rintro e w9 ⟨A7, c7, A8, c8, rfl, hoi9, hol9, hb9⟩
          clear y0 y1 y2 yl
          have HB9 := Lib.hid (HB8.out.trans (hb9.mono HB8.out.size))
          have hz9 := hb9.size
          have RI_9 := Lib.hid (RI_8.out.since hb9 (by omega))
          have RL_9 := Lib.hid (RL_8.out.since hb9 (by omega))
          have b3_9 := Lib.hid ((hb9.block w1.heap.size (lt_blk b3_8.out)).trans b3_8.out)
          clear hb9
          have YI_9 := Lib.hid hoi9
          clear hoi9
          have YL_9 := Lib.hid hol9
          clear hol9
          have hb10 := below1 w9 (.cells #[.int .i64 (tm + (nn - 1)), .slice A7 n1 c7, .slice A8 n2 c8] 30)
          have hk10 := heap_alloc_new w9 (.cells #[.int .i64 (tm + (nn - 1)), .slice A7 n1 c7, .slice A8 n2 c8] 30)
          obtain ⟨w10, hw10⟩ : ∃ x, x = w9.alloc (.cells #[.int .i64 (tm + (nn - 1)), .slice A7 n1 c7, .slice A8 n2 c8] 30) := ⟨_, rfl⟩
          rw [← hw10] at hb10 hk10
          have HB10 := Lib.hid (HB9.out.trans (hb10.mono HB9.out.size))
          have hz10 := hb10.size
          have YI_10 := Lib.hid (YI_9.out.since hb10 (by omega))
          have YL_10 := Lib.hid (YL_9.out.since hb10 (by omega))
          clear hb10
          have b13_10 := Lib.hid hk10
          clear hk10
          have HIB := Lib.hid (fun W (hi : OwnCk W w8.heap.size w9.heap.size A7 c7 is) (hl : OwnLe W w8.heap.size w9.heap.size A8 c8 ls) (hh : w9.heap.size ≤ W.heap.size) => implAskLease_any (tm + (nn - 1)) A7 A8 n1 c7 n2 c8 is ls who 1 W.heap.size W HN1.out HN2.out (hi.cks.mono hh) (hl.les.mono hh) (Nat.le_refl _))
          have hno := HFE.out.2
          obtain ⟨⟨et, ei, el, early⟩, he⟩ : ∃ r, r = askW (tm + (nn - 1)) is ls who 1 := ⟨_, rfl⟩
          rw [← he] at hno
          simp only at hno
          subst hno
          simp only [← he, WAPost_un] at HIB
          clear he HFE HP2
          have y0 : w10.cell? ⟨w9.heap.size, 0, none⟩ = some (.int .i64 (tm + (nn - 1))) := cell_blk (i := 0) b13_10.out rfl
          have y1 : w10.cell? ⟨w9.heap.size, 1, none⟩ = some (.slice A7 n1 c7) := cell_blk (i := 1) b13_10.out rfl
          have y2 : w10.cell? ⟨w9.heap.size, 2, none⟩ = some (.slice A8 n2 c8) := cell_blk (i := 2) b13_10.out rfl
          have yl := lt_blk b13_10.out
          go_wp2_with fail
          rw [← hw10]
          clear hw10
          refine (HIB.out _ YI_10.out YL_10.out (by omega)).mono ?_
          rintro e w11 ⟨A9, c9, A10, c10, rfl, hoi11, hol11, hb11⟩
          clear y0 y1 y2 yl
          have HB11 := Lib.hid (HB10.out.trans (hb11.mono HB10.out.size))
          have hz11 := hb11.size
          have YI_11 := Lib.hid (YI_10.out.since hb11 (by omega))
          have YL_11 := Lib.hid (YL_10.out.since hb11 (by omega))
          have b13_11 := Lib.hid ((hb11.block w9.heap.size (lt_blk b13_10.out)).trans b13_10.out)
          clear hb11
          go_wp2
          go_ret
          exact ⟨rfl, HB11.out.alloc HB11.out.size _⟩
        · have hn00 : nn = 0 := by omega
          subst hn00
          go_wp2
          go_ret
          rw [← hw8]
          exact ⟨rfl, HB8.out⟩
  · have HBG := Lib.hid (Fv.vBig_yes A n c w (by omega))
    clear HDR0
    go_enter Try.func4, Try.ntmps4
    go_wp2_with fail
    refine HBG.out.mono ?_
    rintro e w0 ⟨rfl, rfl⟩
    go_wp2
    go_ret
    exact ⟨rfl, Below.refl _ _⟩
end Go.Proofs.Ytpppgihoekfmoaa.Wt
