/-
  Contracts for the check of a record: GoodRec of the program and of the model.
-/
import Derived.Test.YtkhndofplebcaaaGoodP
import Derived.Test.YtkhndofplebcaaaRecE
namespace Go.Proofs.Ytkhndofplebcaaa
open Go.RowKit CM
set_option linter.unusedVariables false

theorem recB_one {t tm ld : Int} {y : Bool} {rs : List ByteArray} {ws : List (ByteArray × ByteArray × Bool)} : recB 1 t tm ld y rs ws = (inB t 1 60 && (inB tm 1 100000 && (inB ld 0 3 && (partsB rs ws && !y)))) := by simp [recB]
theorem recB_two {k t tm ld : Int} {y : Bool} {rs : List ByteArray} {ws : List (ByteArray × ByteArray × Bool)} (h : k = 2 ∨ k = 3) : recB k t tm ld y rs ws = (ld == 0 && (restB rs ws && (inB t 1 60 && outB y tm))) := by
  unfold recB; rw [if_neg (by omega), if_pos h]
theorem recB_four {t tm ld : Int} {y : Bool} {rs : List ByteArray} {ws : List (ByteArray × ByteArray × Bool)} : recB 4 t tm ld y rs ws = (ld == 0 && (restB rs ws && (t == 0 && (inB tm 1 100000 && !y)))) := by simp [recB]
theorem recB_no {k t tm ld : Int} {y : Bool} {rs : List ByteArray} {ws : List (ByteArray × ByteArray × Bool)} (h1 : k ≠ 1) (h2 : k ≠ 2) (h3 : k ≠ 3) (h4 : k ≠ 4) : recB k t tm ld y rs ws = false := by
  unfold recB; rw [if_neg h1, if_neg (by omega), if_neg h4]
theorem same_two (k t tm ld : Int) (y : Bool) (rs : List ByteArray) (ws : List (ByteArray × ByteArray × Bool)) : sameB k k t t tm tm ld 0 y y rs [] ws [] = (ld == 0 && restB rs ws) := by
  have e : (decide (rs = []) && decide (ws = [])) = restB rs ws := by
    unfold restB; rw [Bool.eq_iff_iff]; simp [List.length_eq_zero_iff]
  unfold sameB
  rw [e]
  simp
theorem same_four (t tm ld : Int) (y : Bool) (rs : List ByteArray) (ws : List (ByteArray × ByteArray × Bool)) : (sameB 4 4 t 0 tm tm ld 0 y false rs [] ws [] && inB tm 1 100000) = recB 4 t tm ld y rs ws := by
  have e : (decide (rs = []) && decide (ws = [])) = restB rs ws := by
    unfold restB; rw [Bool.eq_iff_iff]; simp [List.length_eq_zero_iff]
  rw [recB_four]
  unfold sameB
  rw [e]
  cases (t == 0) <;> cases (ld == 0) <;> cases y <;> cases restB rs ws <;> simp

set_option maxRecDepth 100000 in
set_option maxHeartbeats 2000000 in
theorem implGoodRec_any (k t tm ld : Int) (y : Bool) (Ar Aw : Option Addr) (nr nw cr cw : Nat) (rs : List ByteArray) (ws : List (ByteArray × ByteArray × Bool)) (B : Nat) (w : World) (hnr : rs.length = nr) (hnw : ws.length = nw) (hr : StrsB w B Ar rs) (hw : WritesB w B Aw ws) (hB : B ≤ w.heap.size) (hsr : SSmall rs) (hsw : WSmall ws) :
    Calls Try.prog 88 #[.agg #[.int .i64 k, .int .i64 t, .int .i64 tm, .int .i64 ld, .slice Ar nr cr, .slice Aw nw cw, .bool y]] w fun e w' => e = .returned (.bool (recB k t tm ld y rs ws)) ∧ Below w.heap.size w w' := by
  have H1 := Lib.hid hr
  have H2 := Lib.hid hw
  have hl1 : nr ≤ 1048576 := by rw [← hnr]; exact hsr.1
  have hl2 : nw ≤ 1048576 := by rw [← hnw]; exact hsw.1
  have hb1 := below1 w (.cells #[.int .i64 k, .int .i64 t, .int .i64 tm, .int .i64 ld, .slice Ar nr cr, .slice Aw nw cw, .bool y] 33)
  have kn := heap_alloc_new w (.cells #[.int .i64 k, .int .i64 t, .int .i64 tm, .int .i64 ld, .slice Ar nr cr, .slice Aw nw cw, .bool y] 33)
  have HB := Lib.hid hb1
  have KN := Lib.hid kn
  obtain ⟨res, hres⟩ : ∃ r, r = recB k t tm ld y rs ws := ⟨_, rfl⟩
  have HR := Lib.hid hres
  rw [← hres]
  clear hb1 kn hres
  by_cases hk1 : k = 1
  · subst hk1
    have HT := Lib.hid (isTxn_any t)
    have HV := Lib.hid (isVerTime_any tm)
    have HG := Lib.hid (isGroup_any ld)
    have HP := Lib.hid (fun W (hW : StrsB W B Ar rs) (hW' : WritesB W B Aw ws) (hB : B ≤ W.heap.size) => goodParts_any Ar Aw nr nw cr cw rs ws B W hnr hnw hW hW' hB hsr hsw)
    have HRR := Lib.hid (HR.out.trans recB_one)
    clear HR hr hw hnr hnw hsr hsw
    obtain ⟨d1, hd1⟩ : ∃ d, d = inB t 1 60 := ⟨_, rfl⟩
    rw [← hd1] at HT HRR
    obtain ⟨d2, hd2⟩ : ∃ d, d = inB tm 1 100000 := ⟨_, rfl⟩
    rw [← hd2] at HV HRR
    obtain ⟨d3, hd3⟩ : ∃ d, d = inB ld 0 3 := ⟨_, rfl⟩
    rw [← hd3] at HG HRR
    obtain ⟨d4, hd4⟩ : ∃ d, d = partsB rs ws := ⟨_, rfl⟩
    rw [← hd4] at HP HRR
    clear hd1 hd2 hd3 hd4
    cases d1 with
    | false =>
      have HNO := Lib.hid (ret_bool (show false = res by rw [HRR.out]; simp))
      go_enter Try.func88, Try.ntmps88
      go_wp2_with fail
      refine (HT.out _).mono ?_
      rintro e w1 ⟨rfl, rfl⟩
      go_wp2
      go_ret
      exact ⟨HNO.out, HB.out⟩
    | true =>
      cases d2 with
      | false =>
        have HNO := Lib.hid (ret_bool (show false = res by rw [HRR.out]; simp))
        go_enter Try.func88, Try.ntmps88
        go_wp2_with fail
        refine (HT.out _).mono ?_
        rintro e w1 ⟨rfl, rfl⟩
        go_wp2_with fail
        refine (HV.out _).mono ?_
        rintro e w1 ⟨rfl, rfl⟩
        go_wp2
        go_ret
        exact ⟨HNO.out, HB.out⟩
      | true =>
        cases d3 with
        | false =>
          have HNO := Lib.hid (ret_bool (show false = res by rw [HRR.out]; simp))
          go_enter Try.func88, Try.ntmps88
          go_wp2_with fail
          refine (HT.out _).mono ?_
          rintro e w1 ⟨rfl, rfl⟩
          go_wp2_with fail
          refine (HV.out _).mono ?_
          rintro e w1 ⟨rfl, rfl⟩
          go_wp2_with fail
          refine (HG.out _).mono ?_
          rintro e w1 ⟨rfl, rfl⟩
          go_wp2
          go_ret
          exact ⟨HNO.out, HB.out⟩
        | true =>
          cases d4 with
          | false =>
            have HNO := Lib.hid (ret_bool (show false = res by rw [HRR.out]; simp))
            go_enter Try.func88, Try.ntmps88
            go_wp2_with fail
            refine (HT.out _).mono ?_
            rintro e w1 ⟨rfl, rfl⟩
            go_wp2_with fail
            refine (HV.out _).mono ?_
            rintro e w1 ⟨rfl, rfl⟩
            go_wp2_with fail
            refine (HG.out _).mono ?_
            rintro e w1 ⟨rfl, rfl⟩
            go_wp2_with fail
            refine (HP.out _ (H1.out.below (HB.out.mono hB)) (H2.out.below (HB.out.mono hB)) (Nat.le_trans hB HB.out.size)).mono ?_
            rintro e w1 ⟨rfl, hb2⟩
            have kb := (hb2.block w.heap.size (by simp)).trans KN.out
            have b6 := cell_blk (i := 6) kb rfl
            have HB2 := Lib.hid (HB.out.trans (hb2.mono HB.out.size))
            clear hb2 kb
            go_wp2
            go_ret
            exact ⟨HNO.out, HB2.out⟩
          | true =>
            have HNO := Lib.hid (ret_bool (show (!y) = res by rw [HRR.out]; simp))
            go_enter Try.func88, Try.ntmps88
            go_wp2_with fail
            refine (HT.out _).mono ?_
            rintro e w1 ⟨rfl, rfl⟩
            go_wp2_with fail
            refine (HV.out _).mono ?_
            rintro e w1 ⟨rfl, rfl⟩
            go_wp2_with fail
            refine (HG.out _).mono ?_
            rintro e w1 ⟨rfl, rfl⟩
            go_wp2_with fail
            refine (HP.out _ (H1.out.below (HB.out.mono hB)) (H2.out.below (HB.out.mono hB)) (Nat.le_trans hB HB.out.size)).mono ?_
            rintro e w1 ⟨rfl, hb2⟩
            have kb := (hb2.block w.heap.size (by simp)).trans KN.out
            have b6 := cell_blk (i := 6) kb rfl
            have HB2 := Lib.hid (HB.out.trans (hb2.mono HB.out.size))
            clear hb2 kb
            go_wp2
            go_ret
            exact ⟨HNO.out, HB2.out⟩
  by_cases hk2 : k = 2
  · subst hk2
    clear hk1
    have HS := Lib.hid (fun W (hW : StrsB W B Ar rs) (hW' : WritesB W B Aw ws) (hB : B ≤ W.heap.size) => implSameRec_any 2 2 t t tm tm ld 0 y y Ar none Aw none nr 0 nw 0 cr 0 cw 0 rs [] ws [] B W hnr rfl hnw rfl hW (.inl rfl) hW' (.inl rfl) hB hl1 (by omega) hl2 (by omega))
    rw [same_two] at HS
    have HT := Lib.hid (isTxn_any t)
    have HO := Lib.hid (goodOutcome_any y tm)
    have HRR := Lib.hid (show res = ((ld == 0 && restB rs ws) && (inB t 1 60 && outB y tm)) by rw [HR.out, recB_two (by omega), Bool.and_assoc])
    have HB2 := Lib.hid (below2 w (.cells #[.int .i64 2, .int .i64 t, .int .i64 tm, .int .i64 ld, .slice Ar nr cr, .slice Aw nw cw, .bool y] 33) (.cells #[.int .i64 2, .int .i64 t, .int .i64 tm, .int .i64 0, .slice none 0 0, .slice none 0 0, .bool y] 33))
    have KN2 := Lib.hid (alloc2_a w (.cells #[.int .i64 2, .int .i64 t, .int .i64 tm, .int .i64 ld, .slice Ar nr cr, .slice Aw nw cw, .bool y] 33) (.cells #[.int .i64 2, .int .i64 t, .int .i64 tm, .int .i64 0, .slice none 0 0, .slice none 0 0, .bool y] 33))
    clear HR hr hw hnr hnw hsr hsw
    obtain ⟨d1, hd1⟩ : ∃ d, d = (ld == 0 && restB rs ws) := ⟨_, rfl⟩
    rw [← hd1] at HS HRR
    obtain ⟨d2, hd2⟩ : ∃ d, d = inB t 1 60 := ⟨_, rfl⟩
    rw [← hd2] at HT HRR
    obtain ⟨d3, hd3⟩ : ∃ d, d = outB y tm := ⟨_, rfl⟩
    rw [← hd3] at HO HRR
    clear hd1 hd2 hd3
    cases d1 with
    | false =>
      have HNO := Lib.hid (ret_bool (show false = res by rw [HRR.out]; simp))
      go_enter Try.func88, Try.ntmps88
      go_wp2_with fail
      refine (HS.out _ (H1.out.below (HB2.out.mono hB)) (H2.out.below (HB2.out.mono hB)) (Nat.le_trans hB HB2.out.size)).mono ?_
      rintro e w1 ⟨rfl, hb3⟩
      have kb := (hb3.block w.heap.size (by simp; omega)).trans KN2.out
      have b1 := cell_blk (i := 1) kb rfl
      have b2 := cell_blk (i := 2) kb rfl
      have b6 := cell_blk (i := 6) kb rfl
      have HB3 := Lib.hid (HB2.out.trans (hb3.mono HB2.out.size))
      clear hb3 kb
      go_wp2
      go_ret
      exact ⟨HNO.out, HB3.out⟩
    | true =>
      cases d2 with
      | false =>
        have HNO := Lib.hid (ret_bool (show false = res by rw [HRR.out]; simp))
        go_enter Try.func88, Try.ntmps88
        go_wp2_with fail
        refine (HS.out _ (H1.out.below (HB2.out.mono hB)) (H2.out.below (HB2.out.mono hB)) (Nat.le_trans hB HB2.out.size)).mono ?_
        rintro e w1 ⟨rfl, hb3⟩
        have kb := (hb3.block w.heap.size (by simp; omega)).trans KN2.out
        have b1 := cell_blk (i := 1) kb rfl
        have b2 := cell_blk (i := 2) kb rfl
        have b6 := cell_blk (i := 6) kb rfl
        have HB3 := Lib.hid (HB2.out.trans (hb3.mono HB2.out.size))
        clear hb3 kb
        go_wp2_with fail
        refine (HT.out _).mono ?_
        rintro e w1 ⟨rfl, rfl⟩
        go_wp2
        go_ret
        exact ⟨HNO.out, HB3.out⟩
      | true =>
        have HNO := Lib.hid (ret_bool (show d3 = res by rw [HRR.out]; simp))
        go_enter Try.func88, Try.ntmps88
        go_wp2_with fail
        refine (HS.out _ (H1.out.below (HB2.out.mono hB)) (H2.out.below (HB2.out.mono hB)) (Nat.le_trans hB HB2.out.size)).mono ?_
        rintro e w1 ⟨rfl, hb3⟩
        have kb := (hb3.block w.heap.size (by simp; omega)).trans KN2.out
        have b1 := cell_blk (i := 1) kb rfl
        have b2 := cell_blk (i := 2) kb rfl
        have b6 := cell_blk (i := 6) kb rfl
        have HB3 := Lib.hid (HB2.out.trans (hb3.mono HB2.out.size))
        clear hb3 kb
        go_wp2_with fail
        refine (HT.out _).mono ?_
        rintro e w1 ⟨rfl, rfl⟩
        go_wp2_with fail
        refine (HO.out _).mono ?_
        rintro e w1 ⟨rfl, rfl⟩
        go_wp2
        go_ret
        exact ⟨HNO.out, HB3.out⟩
  by_cases hk3 : k = 3
  · subst hk3
    clear hk1 hk2
    have HS := Lib.hid (fun W (hW : StrsB W B Ar rs) (hW' : WritesB W B Aw ws) (hB : B ≤ W.heap.size) => implSameRec_any 3 3 t t tm tm ld 0 y y Ar none Aw none nr 0 nw 0 cr 0 cw 0 rs [] ws [] B W hnr rfl hnw rfl hW (.inl rfl) hW' (.inl rfl) hB hl1 (by omega) hl2 (by omega))
    rw [same_two] at HS
    have HT := Lib.hid (isTxn_any t)
    have HO := Lib.hid (goodOutcome_any y tm)
    have HRR := Lib.hid (show res = ((ld == 0 && restB rs ws) && (inB t 1 60 && outB y tm)) by rw [HR.out, recB_two (by omega), Bool.and_assoc])
    have HB2 := Lib.hid (below2 w (.cells #[.int .i64 3, .int .i64 t, .int .i64 tm, .int .i64 ld, .slice Ar nr cr, .slice Aw nw cw, .bool y] 33) (.cells #[.int .i64 3, .int .i64 t, .int .i64 tm, .int .i64 0, .slice none 0 0, .slice none 0 0, .bool y] 33))
    have KN2 := Lib.hid (alloc2_a w (.cells #[.int .i64 3, .int .i64 t, .int .i64 tm, .int .i64 ld, .slice Ar nr cr, .slice Aw nw cw, .bool y] 33) (.cells #[.int .i64 3, .int .i64 t, .int .i64 tm, .int .i64 0, .slice none 0 0, .slice none 0 0, .bool y] 33))
    clear HR hr hw hnr hnw hsr hsw
    obtain ⟨d1, hd1⟩ : ∃ d, d = (ld == 0 && restB rs ws) := ⟨_, rfl⟩
    rw [← hd1] at HS HRR
    obtain ⟨d2, hd2⟩ : ∃ d, d = inB t 1 60 := ⟨_, rfl⟩
    rw [← hd2] at HT HRR
    obtain ⟨d3, hd3⟩ : ∃ d, d = outB y tm := ⟨_, rfl⟩
    rw [← hd3] at HO HRR
    clear hd1 hd2 hd3
    cases d1 with
    | false =>
      have HNO := Lib.hid (ret_bool (show false = res by rw [HRR.out]; simp))
      go_enter Try.func88, Try.ntmps88
      go_wp2_with fail
      refine (HS.out _ (H1.out.below (HB2.out.mono hB)) (H2.out.below (HB2.out.mono hB)) (Nat.le_trans hB HB2.out.size)).mono ?_
      rintro e w1 ⟨rfl, hb3⟩
      have kb := (hb3.block w.heap.size (by simp; omega)).trans KN2.out
      have b1 := cell_blk (i := 1) kb rfl
      have b2 := cell_blk (i := 2) kb rfl
      have b6 := cell_blk (i := 6) kb rfl
      have HB3 := Lib.hid (HB2.out.trans (hb3.mono HB2.out.size))
      clear hb3 kb
      go_wp2
      go_ret
      exact ⟨HNO.out, HB3.out⟩
    | true =>
      cases d2 with
      | false =>
        have HNO := Lib.hid (ret_bool (show false = res by rw [HRR.out]; simp))
        go_enter Try.func88, Try.ntmps88
        go_wp2_with fail
        refine (HS.out _ (H1.out.below (HB2.out.mono hB)) (H2.out.below (HB2.out.mono hB)) (Nat.le_trans hB HB2.out.size)).mono ?_
        rintro e w1 ⟨rfl, hb3⟩
        have kb := (hb3.block w.heap.size (by simp; omega)).trans KN2.out
        have b1 := cell_blk (i := 1) kb rfl
        have b2 := cell_blk (i := 2) kb rfl
        have b6 := cell_blk (i := 6) kb rfl
        have HB3 := Lib.hid (HB2.out.trans (hb3.mono HB2.out.size))
        clear hb3 kb
        go_wp2_with fail
        refine (HT.out _).mono ?_
        rintro e w1 ⟨rfl, rfl⟩
        go_wp2
        go_ret
        exact ⟨HNO.out, HB3.out⟩
      | true =>
        have HNO := Lib.hid (ret_bool (show d3 = res by rw [HRR.out]; simp))
        go_enter Try.func88, Try.ntmps88
        go_wp2_with fail
        refine (HS.out _ (H1.out.below (HB2.out.mono hB)) (H2.out.below (HB2.out.mono hB)) (Nat.le_trans hB HB2.out.size)).mono ?_
        rintro e w1 ⟨rfl, hb3⟩
        have kb := (hb3.block w.heap.size (by simp; omega)).trans KN2.out
        have b1 := cell_blk (i := 1) kb rfl
        have b2 := cell_blk (i := 2) kb rfl
        have b6 := cell_blk (i := 6) kb rfl
        have HB3 := Lib.hid (HB2.out.trans (hb3.mono HB2.out.size))
        clear hb3 kb
        go_wp2_with fail
        refine (HT.out _).mono ?_
        rintro e w1 ⟨rfl, rfl⟩
        go_wp2_with fail
        refine (HO.out _).mono ?_
        rintro e w1 ⟨rfl, rfl⟩
        go_wp2
        go_ret
        exact ⟨HNO.out, HB3.out⟩
  by_cases hk4 : k = 4
  · subst hk4
    clear hk1 hk2 hk3
    have HS := Lib.hid (fun W (hW : StrsB W B Ar rs) (hW' : WritesB W B Aw ws) (hB : B ≤ W.heap.size) => implSameRec_any 4 4 t 0 tm tm ld 0 y false Ar none Aw none nr 0 nw 0 cr 0 cw 0 rs [] ws [] B W hnr rfl hnw rfl hW (.inl rfl) hW' (.inl rfl) hB hl1 (by omega) hl2 (by omega))
    have HV := Lib.hid (isVerTime_any tm)
    have HRR := Lib.hid (HR.out.trans (same_four t tm ld y rs ws).symm)
    have HB2 := Lib.hid (below2 w (.cells #[.int .i64 4, .int .i64 t, .int .i64 tm, .int .i64 ld, .slice Ar nr cr, .slice Aw nw cw, .bool y] 33) (.cells #[.int .i64 4, .int .i64 0, .int .i64 tm, .int .i64 0, .slice none 0 0, .slice none 0 0, .bool false] 33))
    have KN2 := Lib.hid (alloc2_a w (.cells #[.int .i64 4, .int .i64 t, .int .i64 tm, .int .i64 ld, .slice Ar nr cr, .slice Aw nw cw, .bool y] 33) (.cells #[.int .i64 4, .int .i64 0, .int .i64 tm, .int .i64 0, .slice none 0 0, .slice none 0 0, .bool false] 33))
    clear HR hr hw hnr hnw hsr hsw
    obtain ⟨d1, hd1⟩ : ∃ d, d = sameB 4 4 t 0 tm tm ld 0 y false rs [] ws [] := ⟨_, rfl⟩
    rw [← hd1] at HS HRR
    obtain ⟨d2, hd2⟩ : ∃ d, d = inB tm 1 100000 := ⟨_, rfl⟩
    rw [← hd2] at HV HRR
    clear hd1 hd2
    cases d1 with
    | false =>
      have HNO := Lib.hid (ret_bool (show false = res by rw [HRR.out]; simp))
      go_enter Try.func88, Try.ntmps88
      go_wp2_with fail
      refine (HS.out _ (H1.out.below (HB2.out.mono hB)) (H2.out.below (HB2.out.mono hB)) (Nat.le_trans hB HB2.out.size)).mono ?_
      rintro e w1 ⟨rfl, hb3⟩
      have kb := (hb3.block w.heap.size (by simp; omega)).trans KN2.out
      have b2 := cell_blk (i := 2) kb rfl
      have HB3 := Lib.hid (HB2.out.trans (hb3.mono HB2.out.size))
      clear hb3 kb
      go_wp2
      go_ret
      exact ⟨HNO.out, HB3.out⟩
    | true =>
      have HNO := Lib.hid (ret_bool (show d2 = res by rw [HRR.out]; simp))
      go_enter Try.func88, Try.ntmps88
      go_wp2_with fail
      refine (HS.out _ (H1.out.below (HB2.out.mono hB)) (H2.out.below (HB2.out.mono hB)) (Nat.le_trans hB HB2.out.size)).mono ?_
      rintro e w1 ⟨rfl, hb3⟩
      have kb := (hb3.block w.heap.size (by simp; omega)).trans KN2.out
      have b2 := cell_blk (i := 2) kb rfl
      have HB3 := Lib.hid (HB2.out.trans (hb3.mono HB2.out.size))
      clear hb3 kb
      go_wp2_with fail
      refine (HV.out _).mono ?_
      rintro e w1 ⟨rfl, rfl⟩
      go_wp2
      go_ret
      exact ⟨HNO.out, HB3.out⟩
  have HNO := Lib.hid (ret_bool (show false = res by rw [HR.out, recB_no hk1 hk2 hk3 hk4]))
  have e1 : (k == 1) = false := by simpa using hk1
  have e2 : (k == 2) = false := by simpa using hk2
  have e3 : (k == 3) = false := by simpa using hk3
  have e4 : (k == 4) = false := by simpa using hk4
  clear hr hw hnr hnw hsr hsw hk1 hk2 hk3 hk4 HR
  go_enter Try.func88, Try.ntmps88
  go_wp2
  go_ret
  exact ⟨HNO.out, HB.out⟩
end Go.Proofs.Ytkhndofplebcaaa
