/-
  The contract for the check of a record by the model: l4Good, GoodRec.
-/
import Derived.Test.YtkhndofplebcaaaGoodR
namespace Go.Proofs.Ytkhndofplebcaaa
open Go.RowKit CM
set_option linter.unusedVariables false

set_option maxRecDepth 100000 in
set_option maxHeartbeats 4000000 in
theorem l4Good_any (k t tm ld : Int) (y : Bool) (Ar Aw : Option Addr) (nr nw cr cw : Nat) (rs : List ByteArray) (ws : List (ByteArray × ByteArray × Bool)) (B : Nat) (w : World) (hnr : rs.length = nr) (hnw : ws.length = nw) (hr : StrsB w B Ar rs) (hw : WritesB w B Aw ws) (hB : B ≤ w.heap.size) (hsr : SSmall rs) (hsw : WSmall ws) :
    Calls Try.prog 39 #[.agg #[.int .i64 k, .int .i64 t, .int .i64 tm, .int .i64 ld, .slice Ar nr cr, .slice Aw nw cw, .bool y]] w fun e w' => e = .returned (.bool (recB k t tm ld y rs ws)) ∧ Below w.heap.size w w' := by
  have H1 := Lib.hid hr
  have H2 := Lib.hid hw
  have hl1 : nr ≤ 1048576 := by rw [← hnr]; exact hsr.1
  have hl2 : nw ≤ 1048576 := by rw [← hnw]; exact hsw.1
  have hb1 := below1 w (.cells #[.int .i64 k, .int .i64 t, .int .i64 tm, .int .i64 ld, .slice Ar nr cr, .slice Aw nw cw, .bool y] 33)
  have kn := heap_alloc_new w (.cells #[.int .i64 k, .int .i64 t, .int .i64 tm, .int .i64 ld, .slice Ar nr cr, .slice Aw nw cw, .bool y] 33)
  have HB := Lib.hid hb1
  have KN := Lib.hid kn
  obtain ⟨res, hres⟩ : ∃ r, r = recB k t tm ld y rs ws := ⟨_, rfl⟩
  have HR := Lib.hid hres
  rw [← hres]
  clear hb1 kn hres
  by_cases hk1 : k = 1
  · subst hk1
    have HT := Lib.hid (l1In_any t 1 60)
    have HV := Lib.hid (l3Time_any tm)
    have HG := Lib.hid (l1In_any ld 0 3)
    have HK := Lib.hid (fun W (hW : StrsB W B Ar rs) (hB : B ≤ W.heap.size) => l4Keys_any Ar nr cr rs B W hnr hW hB hsr)
    have HW := Lib.hid (fun W (hW : WritesB W B Aw ws) (hB : B ≤ W.heap.size) => l3Writes_any Aw nw cw ws B W hnw hW hB hsw)
    have HN := Lib.hid (l1In_any (nw : Int) 0 8)
    have HRR := Lib.hid (show res = (inB t 1 60 && (inB tm 1 100000 && (inB ld 0 3 && ((ksB rs && (wB ws && (inB (nw : Int) 0 8 && decide (0 < nr + nw)))) && !y)))) by
      rw [HR.out, recB_one]
      unfold partsB
      rw [hnr, hnw, show decide (nw ≤ 8) = inB (nw : Int) 0 8 by unfold inB; rw [Bool.eq_iff_iff]; simp; omega])
    clear HR hr hw hnr hnw hsr hsw
    obtain ⟨d1, hd1⟩ : ∃ d, d = inB t 1 60 := ⟨_, rfl⟩
    rw [← hd1] at HT HRR
    obtain ⟨d2, hd2⟩ : ∃ d, d = inB tm 1 100000 := ⟨_, rfl⟩
    rw [← hd2] at HV HRR
    obtain ⟨d3, hd3⟩ : ∃ d, d = inB ld 0 3 := ⟨_, rfl⟩
    rw [← hd3] at HG HRR
    obtain ⟨d4, hd4⟩ : ∃ d, d = ksB rs := ⟨_, rfl⟩
    rw [← hd4] at HK HRR
    obtain ⟨d5, hd5⟩ : ∃ d, d = wB ws := ⟨_, rfl⟩
    rw [← hd5] at HW HRR
    obtain ⟨d6, hd6⟩ : ∃ d, d = inB (nw : Int) 0 8 := ⟨_, rfl⟩
    rw [← hd6] at HN HRR
    clear hd1 hd2 hd3 hd4 hd5 hd6
    cases d1 with
    | false =>
      have HNO := Lib.hid (ret_bool (show false = res by rw [HRR.out]; simp))
      go_enter Try.func39, Try.ntmps39
      go_wp2_with fail
      refine (HT.out _).mono ?_
      rintro e w1 ⟨rfl, rfl⟩
      go_wp2
      go_ret
      exact ⟨HNO.out, HB.out⟩
    | true =>
      cases d2 with
      | false =>
        have HNO := Lib.hid (ret_bool (show false = res by rw [HRR.out]; simp))
        go_enter Try.func39, Try.ntmps39
        go_wp2_with fail
        refine (HT.out _).mono ?_
        rintro e w1 ⟨rfl, rfl⟩
        go_wp2_with fail
        refine (HV.out _).mono ?_
        rintro e w1 ⟨rfl, rfl⟩
        go_wp2
        go_ret
        exact ⟨HNO.out, HB.out⟩
      | true =>
        cases d3 with
        | false =>
          have HNO := Lib.hid (ret_bool (show false = res by rw [HRR.out]; simp))
          go_enter Try.func39, Try.ntmps39
          go_wp2_with fail
          refine (HT.out _).mono ?_
          rintro e w1 ⟨rfl, rfl⟩
          go_wp2_with fail
          refine (HV.out _).mono ?_
          rintro e w1 ⟨rfl, rfl⟩
          go_wp2_with fail
          refine (HG.out _).mono ?_
          rintro e w1 ⟨rfl, rfl⟩
          go_wp2
          go_ret
          exact ⟨HNO.out, HB.out⟩
        | true =>
          cases d4 with
          | false =>
            have HNO := Lib.hid (ret_bool (show false = res by rw [HRR.out]; simp))
            go_enter Try.func39, Try.ntmps39
            go_wp2_with fail
            refine (HT.out _).mono ?_
            rintro e w1 ⟨rfl, rfl⟩
            go_wp2_with fail
            refine (HV.out _).mono ?_
            rintro e w1 ⟨rfl, rfl⟩
            go_wp2_with fail
            refine (HG.out _).mono ?_
            rintro e w1 ⟨rfl, rfl⟩
            go_wp2_with fail
            refine (HK.out _ (H1.out.below (HB.out.mono hB)) (Nat.le_trans hB HB.out.size)).mono ?_
            rintro e w1 ⟨rfl, hb2⟩
            have kb := (hb2.block w.heap.size (by simp)).trans KN.out
            have b4 := cell_blk (i := 4) kb rfl
            have b5 := cell_blk (i := 5) kb rfl
            have b6 := cell_blk (i := 6) kb rfl
            have HB2 := Lib.hid (HB.out.trans (hb2.mono HB.out.size))
            have KB := Lib.hid kb
            clear hb2 kb
            go_wp2
            go_ret
            exact ⟨HNO.out, HB2.out⟩
          | true =>
            cases d5 with
            | false =>
              have HNO := Lib.hid (ret_bool (show false = res by rw [HRR.out]; simp))
              go_enter Try.func39, Try.ntmps39
              go_wp2_with fail
              refine (HT.out _).mono ?_
              rintro e w1 ⟨rfl, rfl⟩
              go_wp2_with fail
              refine (HV.out _).mono ?_
              rintro e w1 ⟨rfl, rfl⟩
              go_wp2_with fail
              refine (HG.out _).mono ?_
              rintro e w1 ⟨rfl, rfl⟩
              go_wp2_with fail
              refine (HK.out _ (H1.out.below (HB.out.mono hB)) (Nat.le_trans hB HB.out.size)).mono ?_
              rintro e w1 ⟨rfl, hb2⟩
              have kb := (hb2.block w.heap.size (by simp)).trans KN.out
              have b4 := cell_blk (i := 4) kb rfl
              have b5 := cell_blk (i := 5) kb rfl
              have b6 := cell_blk (i := 6) kb rfl
              have HB2 := Lib.hid (HB.out.trans (hb2.mono HB.out.size))
              have KB := Lib.hid kb
              clear hb2 kb
              go_wp2_with fail
              refine (HW.out _ (H2.out.below (HB2.out.mono hB)) (Nat.le_trans hB HB2.out.size)).mono ?_
              rintro e w2 ⟨rfl, hb3⟩
              have kb := (hb3.block w.heap.size (lt_blk KB.out)).trans KB.out
              have c4 := cell_blk (i := 4) kb rfl
              have c5 := cell_blk (i := 5) kb rfl
              have c6 := cell_blk (i := 6) kb rfl
              have HB3 := Lib.hid (HB2.out.trans (hb3.mono HB2.out.size))
              clear hb3 kb b4 b5 b6
              go_wp2
              go_ret
              exact ⟨HNO.out, HB3.out⟩
            | true =>
              cases d6 with
              | false =>
                have HNO := Lib.hid (ret_bool (show false = res by rw [HRR.out]; simp))
                go_enter Try.func39, Try.ntmps39
                go_wp2_with fail
                refine (HT.out _).mono ?_
                rintro e w1 ⟨rfl, rfl⟩
                go_wp2_with fail
                refine (HV.out _).mono ?_
                rintro e w1 ⟨rfl, rfl⟩
                go_wp2_with fail
                refine (HG.out _).mono ?_
                rintro e w1 ⟨rfl, rfl⟩
                go_wp2_with fail
                refine (HK.out _ (H1.out.below (HB.out.mono hB)) (Nat.le_trans hB HB.out.size)).mono ?_
                rintro e w1 ⟨rfl, hb2⟩
                have kb := (hb2.block w.heap.size (by simp)).trans KN.out
                have b4 := cell_blk (i := 4) kb rfl
                have b5 := cell_blk (i := 5) kb rfl
                have b6 := cell_blk (i := 6) kb rfl
                have HB2 := Lib.hid (HB.out.trans (hb2.mono HB.out.size))
                have KB := Lib.hid kb
                clear hb2 kb
                go_wp2_with fail
                refine (HW.out _ (H2.out.below (HB2.out.mono hB)) (Nat.le_trans hB HB2.out.size)).mono ?_
                rintro e w2 ⟨rfl, hb3⟩
                have kb := (hb3.block w.heap.size (lt_blk KB.out)).trans KB.out
                have c4 := cell_blk (i := 4) kb rfl
                have c5 := cell_blk (i := 5) kb rfl
                have c6 := cell_blk (i := 6) kb rfl
                have HB3 := Lib.hid (HB2.out.trans (hb3.mono HB2.out.size))
                clear hb3 kb b4 b5 b6
                go_wp2_with fail
                refine (HN.out _).mono ?_
                rintro e w3 ⟨rfl, rfl⟩
                go_wp2
                go_ret
                exact ⟨HNO.out, HB3.out⟩
              | true =>
                by_cases h0 : 0 < nr + nw
                · have HNO := Lib.hid (ret_bool (show (!y) = res by rw [HRR.out, decide_eq_true h0]; simp))
                  have hpos : decide ((0 : Int) < (nr : Int) + (nw : Int)) = true := decide_eq_true (by omega)
                  go_enter Try.func39, Try.ntmps39
                  go_wp2_with fail
                  refine (HT.out _).mono ?_
                  rintro e w1 ⟨rfl, rfl⟩
                  go_wp2_with fail
                  refine (HV.out _).mono ?_
                  rintro e w1 ⟨rfl, rfl⟩
                  go_wp2_with fail
                  refine (HG.out _).mono ?_
                  rintro e w1 ⟨rfl, rfl⟩
                  go_wp2_with fail
                  refine (HK.out _ (H1.out.below (HB.out.mono hB)) (Nat.le_trans hB HB.out.size)).mono ?_
                  rintro e w1 ⟨rfl, hb2⟩
                  have kb := (hb2.block w.heap.size (by simp)).trans KN.out
                  have b4 := cell_blk (i := 4) kb rfl
                  have b5 := cell_blk (i := 5) kb rfl
                  have b6 := cell_blk (i := 6) kb rfl
                  have HB2 := Lib.hid (HB.out.trans (hb2.mono HB.out.size))
                  have KB := Lib.hid kb
                  clear hb2 kb
                  go_wp2_with fail
                  refine (HW.out _ (H2.out.below (HB2.out.mono hB)) (Nat.le_trans hB HB2.out.size)).mono ?_
                  rintro e w2 ⟨rfl, hb3⟩
                  have kb := (hb3.block w.heap.size (lt_blk KB.out)).trans KB.out
                  have c4 := cell_blk (i := 4) kb rfl
                  have c5 := cell_blk (i := 5) kb rfl
                  have c6 := cell_blk (i := 6) kb rfl
                  have HB3 := Lib.hid (HB2.out.trans (hb3.mono HB2.out.size))
                  clear hb3 kb b4 b5 b6
                  go_wp2_with fail
                  refine (HN.out _).mono ?_
                  rintro e w3 ⟨rfl, rfl⟩
                  go_wp2
                  go_ret
                  exact ⟨HNO.out, HB3.out⟩
                · have HNO := Lib.hid (ret_bool (show false = res by rw [HRR.out, decide_eq_false h0]; simp))
                  have hpos : decide ((0 : Int) < (nr : Int) + (nw : Int)) = false := decide_eq_false (by omega)
                  go_enter Try.func39, Try.ntmps39
                  go_wp2_with fail
                  refine (HT.out _).mono ?_
                  rintro e w1 ⟨rfl, rfl⟩
                  go_wp2_with fail
                  refine (HV.out _).mono ?_
                  rintro e w1 ⟨rfl, rfl⟩
                  go_wp2_with fail
                  refine (HG.out _).mono ?_
                  rintro e w1 ⟨rfl, rfl⟩
                  go_wp2_with fail
                  refine (HK.out _ (H1.out.below (HB.out.mono hB)) (Nat.le_trans hB HB.out.size)).mono ?_
                  rintro e w1 ⟨rfl, hb2⟩
                  have kb := (hb2.block w.heap.size (by simp)).trans KN.out
                  have b4 := cell_blk (i := 4) kb rfl
                  have b5 := cell_blk (i := 5) kb rfl
                  have b6 := cell_blk (i := 6) kb rfl
                  have HB2 := Lib.hid (HB.out.trans (hb2.mono HB.out.size))
                  have KB := Lib.hid kb
                  clear hb2 kb
                  go_wp2_with fail
                  refine (HW.out _ (H2.out.below (HB2.out.mono hB)) (Nat.le_trans hB HB2.out.size)).mono ?_
                  rintro e w2 ⟨rfl, hb3⟩
                  have kb := (hb3.block w.heap.size (lt_blk KB.out)).trans KB.out
                  have c4 := cell_blk (i := 4) kb rfl
                  have c5 := cell_blk (i := 5) kb rfl
                  have c6 := cell_blk (i := 6) kb rfl
                  have HB3 := Lib.hid (HB2.out.trans (hb3.mono HB2.out.size))
                  clear hb3 kb b4 b5 b6
                  go_wp2_with fail
                  refine (HN.out _).mono ?_
                  rintro e w3 ⟨rfl, rfl⟩
                  go_wp2
                  go_ret
                  exact ⟨HNO.out, HB3.out⟩
  have e1 : (k == 1) = false := by simpa using hk1
  by_cases hl0 : ld = 0
  · by_cases hs0 : nr + nw = 0
    · subst hl0
      have hrest : restB rs ws = true := by unfold restB; rw [hnr, hnw]; exact decide_eq_true hs0
      obtain rfl : nr = 0 := by omega
      obtain rfl : nw = 0 := by omega
      have HT := Lib.hid (l1In_any t 1 60)
      have HV := Lib.hid (l3Time_any tm)
      by_cases hk2 : k = 2
      · subst hk2
        clear hk1
        have HRR := Lib.hid (show res = (inB t 1 60 && outB y tm) by rw [HR.out, recB_two (by omega), hrest]; simp)
        clear HR hrest hr hw hnr hnw hsr hsw
        obtain ⟨d1, hd1⟩ : ∃ d, d = inB t 1 60 := ⟨_, rfl⟩
        rw [← hd1] at HT HRR
        clear hd1
        cases d1 with
        | false =>
          have HNO := Lib.hid (ret_bool (show false = res by rw [HRR.out]; simp))
          go_enter Try.func39, Try.ntmps39
          go_wp2_with fail
          refine (HT.out _).mono ?_
          rintro e w1 ⟨rfl, rfl⟩
          go_wp2
          go_ret
          exact ⟨HNO.out, HB.out⟩
        | true =>
          cases y with
          | true =>
            have HNO := Lib.hid (ret_bool (show inB tm 1 100000 = res by rw [HRR.out]; rfl))
            obtain ⟨d2, hd2⟩ : ∃ d, d = inB tm 1 100000 := ⟨_, rfl⟩
            rw [← hd2] at HV HNO
            clear hd2
            cases d2
            all_goals
              go_enter Try.func39, Try.ntmps39
              go_wp2_with fail
              refine (HT.out _).mono ?_
              rintro e w1 ⟨rfl, rfl⟩
              go_wp2_with fail
              refine (HV.out _).mono ?_
              rintro e w1 ⟨rfl, rfl⟩
              go_wp2
              go_ret
              exact ⟨HNO.out, HB.out⟩
          | false =>
            have HNO := Lib.hid (ret_bool (show (tm == 0) = res by rw [HRR.out]; rfl))
            go_enter Try.func39, Try.ntmps39
            go_wp2_with fail
            refine (HT.out _).mono ?_
            rintro e w1 ⟨rfl, rfl⟩
            go_wp2
            go_ret
            exact ⟨HNO.out, HB.out⟩
      by_cases hk3 : k = 3
      · subst hk3
        clear hk1 hk2
        have HRR := Lib.hid (show res = (inB t 1 60 && outB y tm) by rw [HR.out, recB_two (by omega), hrest]; simp)
        clear HR hrest hr hw hnr hnw hsr hsw
        obtain ⟨d1, hd1⟩ : ∃ d, d = inB t 1 60 := ⟨_, rfl⟩
        rw [← hd1] at HT HRR
        clear hd1
        cases d1 with
        | false =>
          have HNO := Lib.hid (ret_bool (show false = res by rw [HRR.out]; simp))
          go_enter Try.func39, Try.ntmps39
          go_wp2_with fail
          refine (HT.out _).mono ?_
          rintro e w1 ⟨rfl, rfl⟩
          go_wp2
          go_ret
          exact ⟨HNO.out, HB.out⟩
        | true =>
          cases y with
          | true =>
            have HNO := Lib.hid (ret_bool (show inB tm 1 100000 = res by rw [HRR.out]; rfl))
            obtain ⟨d2, hd2⟩ : ∃ d, d = inB tm 1 100000 := ⟨_, rfl⟩
            rw [← hd2] at HV HNO
            clear hd2
            cases d2
            all_goals
              go_enter Try.func39, Try.ntmps39
              go_wp2_with fail
              refine (HT.out _).mono ?_
              rintro e w1 ⟨rfl, rfl⟩
              go_wp2_with fail
              refine (HV.out _).mono ?_
              rintro e w1 ⟨rfl, rfl⟩
              go_wp2
              go_ret
              exact ⟨HNO.out, HB.out⟩
          | false =>
            have HNO := Lib.hid (ret_bool (show (tm == 0) = res by rw [HRR.out]; rfl))
            go_enter Try.func39, Try.ntmps39
            go_wp2_with fail
            refine (HT.out _).mono ?_
            rintro e w1 ⟨rfl, rfl⟩
            go_wp2
            go_ret
            exact ⟨HNO.out, HB.out⟩
      by_cases hk4 : k = 4
      · subst hk4
        have HRR := Lib.hid (show res = (t == 0 && (inB tm 1 100000 && !y)) by rw [HR.out, recB_four, hrest]; simp)
        clear HR hrest hr hw hnr hnw hsr hsw hk1 hk2 hk3
        cases ht : (t == 0) with
        | false =>
          have HNO := Lib.hid (ret_bool (show false = res by rw [HRR.out, ht]; simp))
          go_enter Try.func39, Try.ntmps39
          go_wp2
          go_ret
          exact ⟨HNO.out, HB.out⟩
        | true =>
          obtain ⟨d2, hd2⟩ : ∃ d, d = inB tm 1 100000 := ⟨_, rfl⟩
          rw [← hd2] at HV HRR
          clear hd2
          cases d2 with
          | false =>
            have HNO := Lib.hid (ret_bool (show false = res by rw [HRR.out]; simp))
            go_enter Try.func39, Try.ntmps39
            go_wp2_with fail
            refine (HV.out _).mono ?_
            rintro e w1 ⟨rfl, rfl⟩
            go_wp2
            go_ret
            exact ⟨HNO.out, HB.out⟩
          | true =>
            have HNO := Lib.hid (ret_bool (show (!y) = res by rw [HRR.out, ht]; simp))
            go_enter Try.func39, Try.ntmps39
            go_wp2_with fail
            refine (HV.out _).mono ?_
            rintro e w1 ⟨rfl, rfl⟩
            go_wp2
            go_ret
            exact ⟨HNO.out, HB.out⟩
      have HNO := Lib.hid (ret_bool (show false = res by rw [HR.out, recB_no hk1 hk2 hk3 hk4]))
      have e2 : (k == 2) = false := by simpa using hk2
      have e3 : (k == 3) = false := by simpa using hk3
      have e4 : (k == 4) = false := by simpa using hk4
      clear hr hw hnr hnw hsr hsw HR hrest
      go_enter Try.func39, Try.ntmps39
      go_wp2
      go_ret
      exact ⟨HNO.out, HB.out⟩
    · have hrest : restB rs ws = false := by unfold restB; rw [hnr, hnw]; exact decide_eq_false hs0
      have hno : recB k t tm ld y rs ws = false := by
        by_cases h23 : k = 2 ∨ k = 3
        · rw [recB_two h23]; rw [hrest]; simp
        · by_cases h4 : k = 4
          · subst h4; rw [recB_four]; rw [hrest]; simp
          · exact recB_no hk1 (by omega) (by omega) h4
      have HNO := Lib.hid (ret_bool (show false = res by rw [HR.out, hno]))
      clear hr hw hnr hnw hsr hsw HR hno
      subst hl0
      have hpos : decide ((0 : Int) < (nr : Int) + (nw : Int)) = true := decide_eq_true (by omega)
      clear hrest
      go_enter Try.func39, Try.ntmps39
      go_wp2
      go_ret
      exact ⟨HNO.out, HB.out⟩
  · have hl1 : (ld == 0) = false := by simpa using hl0
    have hno : recB k t tm ld y rs ws = false := by
      by_cases h23 : k = 2 ∨ k = 3
      · rw [recB_two h23]; rw [hl1]; simp
      · by_cases h4 : k = 4
        · subst h4; rw [recB_four]; rw [hl1]; simp
        · exact recB_no hk1 (by omega) (by omega) h4
    have HNO := Lib.hid (ret_bool (show false = res by rw [HR.out, hno]))
    clear hr hw hnr hnw hsr hsw HR hno
    skip
    go_enter Try.func39, Try.ntmps39
    go_wp2
    go_ret
    exact ⟨HNO.out, HB.out⟩

theorem specGoodRec_any (k t tm ld : Int) (y : Bool) (Ar Aw : Option Addr) (nr nw cr cw : Nat) (rs : List ByteArray) (ws : List (ByteArray × ByteArray × Bool)) (B : Nat) (w : World) (hnr : rs.length = nr) (hnw : ws.length = nw) (hr : StrsB w B Ar rs) (hw : WritesB w B Aw ws) (hB : B ≤ w.heap.size) (hsr : SSmall rs) (hsw : WSmall ws) :
    Calls Try.prog 58 #[.agg #[.int .i64 k, .int .i64 t, .int .i64 tm, .int .i64 ld, .slice Ar nr cr, .slice Aw nw cw, .bool y]] w fun e w' => e = .returned (.bool (recB k t tm ld y rs ws)) ∧ Below w.heap.size w w' := by
  have hb1 := below1 w (.cells #[.int .i64 k, .int .i64 t, .int .i64 tm, .int .i64 ld, .slice Ar nr cr, .slice Aw nw cw, .bool y] 33)
  have HC := Lib.hid (l4Good_any k t tm ld y Ar Aw nr nw cr cw rs ws B _ hnr hnw (hr.below (hb1.mono hB)) (hw.below (hb1.mono hB)) (Nat.le_trans hB hb1.size) hsr hsw)
  have HB := Lib.hid hb1
  clear hr hw hnr hnw hb1 hsr hsw
  go_enter Try.func58, Try.ntmps58
  go_wp2_with fail
  refine HC.out.mono ?_
  rintro e w1 ⟨rfl, hb2⟩
  go_wp2
  go_ret
  exact ⟨rfl, HB.out.trans (hb2.mono HB.out.size)⟩
end Go.Proofs.Ytkhndofplebcaaa
