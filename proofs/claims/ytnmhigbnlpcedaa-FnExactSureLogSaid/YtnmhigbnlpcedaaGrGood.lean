/-
  Contracts for the program's checks of a group: goodLog, goodReps, hasRep, isUp, goodLead, hasLeader, GoodGroup.
-/
import Derived.Test.YtnmhigbnlpcedaaGrM
namespace Go.Proofs.Ytnmhigbnlpcedaa.Gr
open Go.RowKit CM
set_option linter.unusedVariables false
set_option linter.unusedSimpArgs false

theorem isSize_any (n : Nat) (w : World) (hn : n ≤ 1048576) :
    Calls Try.prog 45 #[.int .i64 (n : Int)] w fun e w' => e = .returned (.bool (szB n)) ∧ w = w' := by
  by_cases h3 : n = 3
  · subst h3
    go_enter Try.func45, Try.ntmps45
    go_wp2
    go_ret
    exact ⟨rfl, rfl⟩
  · by_cases h5 : n = 5
    · subst h5
      go_enter Try.func45, Try.ntmps45
      go_wp2
      go_ret
      exact ⟨rfl, rfl⟩
    · have e3 : ((n : Int) == 3) = false := by simp; omega
      have e5 : ((n : Int) == 5) = false := by simp; omega
      have HR := Lib.hid (ret_bool (show false = szB n by simp [szB, h3, h5]))
      go_enter Try.func45, Try.ntmps45
      go_wp2
      go_ret
      exact ⟨HR.out, rfl⟩

set_option maxRecDepth 100000 in
set_option maxHeartbeats 4000000 in
theorem goodLog_any (A : Option Addr) (n c : Nat) (term : Int) (es : List EH) (B : Nat) (w : World) (hn : es.length = n) (h : RowsB KE w B A es) (hB : B ≤ w.heap.size) (hm : LgSmall (es.map EH.d)) :
    Calls Try.prog 97 #[.slice A n c, .int .i64 term] w fun e w' => e = .returned (.bool (logB term (es.map EH.d))) ∧ Below w.heap.size w w' := by
  obtain ⟨hl, hms⟩ := hm
  have HN := Lib.hid hn
  have hge := Nat.le_of_eq hn
  have hle := Nat.le_of_eq hn.symm
  have hnl : n ≤ 1048576 := by simp at hl; omega
  have HS := Lib.hid h
  have HM := Lib.hid hms
  obtain ⟨r, hr⟩ : ∃ r, r = logB term (es.map EH.d) := ⟨_, rfl⟩
  rw [← hr]
  by_cases h60 : n ≤ 60
  · have HR0 := Lib.hid (show r = lgB term 1 ((es.map EH.d).drop 0) by rw [hr, logB, List.drop_zero, List.length_map, hn]; simp [h60])
    clear hn h hms hl hr
    go_enter Try.func97, Try.ntmps97
    go_wp2_with fail
    go_loopw [5, 13] (fun v j wr => ∃ (k : Nat) (b0 : Int), k ≤ n ∧ j = .int .i64 k ∧ v = .int .i64 b0 ∧ Hid (r = lgB term b0 ((es.map EH.d).drop k)) ∧ Below w.heap.size w wr) (fun _ j _ => n - (intOf j).toNat)
    case atStart => exact ⟨0, 1, by omega, rfl, rfl, HR0, Below.refl _ _⟩
    case round =>
      clear HR0
      obtain ⟨k, b0, hk, rfl, rfl, HR, hb⟩ := hrel
      by_cases hlt : k < n
      · obtain ⟨b, off, rfl, hbB, hc⟩ := en_get HS.out (by omega)
        obtain ⟨hc0, hc1, hc2, hc3, hc4, hc5, hc6, hc7⟩ := hc k (by omega)
        have c0 := (hb.cell (p := ⟨b, off + k * 8, none⟩) (Nat.lt_of_lt_of_le hbB hB)).trans hc0
        have c1 := (hb.cell (p := ⟨b, off + k * 8 + 1, none⟩) (Nat.lt_of_lt_of_le hbB hB)).trans hc1
        have c2 := (hb.cell (p := ⟨b, off + k * 8 + 2, none⟩) (Nat.lt_of_lt_of_le hbB hB)).trans hc2
        have c3 := (hb.cell (p := ⟨b, off + k * 8 + 3, none⟩) (Nat.lt_of_lt_of_le hbB hB)).trans hc3
        have c4 := (hb.cell (p := ⟨b, off + k * 8 + 4, none⟩) (Nat.lt_of_lt_of_le hbB hB)).trans hc4
        have c5 := (hb.cell (p := ⟨b, off + k * 8 + 5, none⟩) (Nat.lt_of_lt_of_le hbB hB)).trans hc5
        have c6 := (hb.cell (p := ⟨b, off + k * 8 + 6, none⟩) (Nat.lt_of_lt_of_le hbB hB)).trans hc6
        have c7 := (hb.cell (p := ⟨b, off + k * 8 + 7, none⟩) (Nat.lt_of_lt_of_le hbB hB)).trans hc7
        have HRS := Lib.hid (HR.out.trans (lgB_step (show k < (es.map EH.d).length by simp; omega)))
        have HBr := Nat.le_trans hB hb.size
        have hrd := KE.rd_below (HS.out.at k (by omega)) (hb.mono hB)
        have hsm := HM.out (es[k]'(by omega)).d (List.mem_map.2 ⟨_, List.getElem_mem (show k < es.length by omega), rfl⟩)
        rw [d_at (show k < es.length by omega)] at HRS
        obtain ⟨y, hy⟩ : ∃ y, y = es[k]'(by omega) := ⟨_, rfl⟩
        rw [← hy] at c0 c1 c2 c3 c4 c5 c6 c7 hrd hsm HRS
        obtain ⟨⟨tm, kk, tt, xx, ll, yy, rs, ws⟩, Ar, cr, Aw, cw, elo, em, ehi⟩ := y
        simp only [erB] at c0 c1 c2 c3 c4 c5 c6 c7 hrd hsm HRS
        have hbox := below1 wr (.cells #[.int .i64 tm, .int .i64 kk, .int .i64 tt, .int .i64 xx, .int .i64 ll, .slice Ar rs.length cr, .slice Aw ws.length cw, .bool yy] 78)
        have hkb := heap_alloc_new wr (.cells #[.int .i64 tm, .int .i64 kk, .int .i64 tt, .int .i64 xx, .int .i64 ll, .slice Ar rs.length cr, .slice Aw ws.length cw, .bool yy] 78)
        have HG := Lib.hid (fun W (hW : Below wr.heap.size wr W) => implGoodRec_any kk tt xx ll yy Ar Aw rs.length ws.length cr cw rs ws B W rfl rfl (hrd.1.below (hW.mono HBr)) (hrd.2.below (hW.mono HBr)) (Nat.le_trans HBr hW.size) hsm.1 hsm.2)
        obtain ⟨g, hg⟩ : ∃ g, g = recB kk tt xx ll yy rs ws := ⟨_, rfl⟩
        rw [← hg] at HG HRS
        obtain ⟨nr, hvnr⟩ : ∃ nr, nr = rs.length := ⟨_, rfl⟩
        rw [← hvnr] at c5 HG hbox hkb
        obtain ⟨nw, hvnw⟩ : ∃ nw, nw = ws.length := ⟨_, rfl⟩
        rw [← hvnw] at c6 HG hbox hkb
        have HB := Lib.hid hb
        have HBX := Lib.hid hbox
        have HKB := Lib.hid hkb
        have hk0 : (0 : Int) ≤ (k : Int) := by omega
        have hkn : (k : Int) < (n : Int) := by omega
        clear hc hc0 hc1 hc2 hc3 hc4 hc5 hc6 hc7 hy hrd hsm hg hvnr hvnw hb hbox hkb HR HBr
        have HBB := Lib.hid (HB.out.trans (HBX.out.mono HB.out.size))
        by_cases h1 : b0 ≤ tm
        · by_cases h2 : tm ≤ term
          · have e1 : decide (tm < b0) = false := by simp; omega
            have e2 : decide (term < tm) = false := by simp; omega
            rw [inB_mk ⟨h1, h2⟩, Bool.true_and] at HRS
            cases g with
            | false =>
              have HNO := Lib.hid (ret_bool (show false = r by rw [HRS.out]; rfl))
              clear HRS
              go_wp2_with fail
              refine (HG.out _ HBX.out).mono ?_
              rintro e w1 ⟨rfl, ha1⟩
              have HB1 := Lib.hid (HBB.out.trans (ha1.mono HBB.out.size))
              clear ha1
              go_wp2
              go_ret
              exact ⟨HNO.out, HB1.out⟩
            | true =>
              rw [Bool.true_and] at HRS
              go_wp2_with fail
              refine (HG.out _ HBX.out).mono ?_
              rintro e w1 ⟨rfl, ha1⟩
              have hk1 := (ha1.block wr.heap.size (lt_blk HKB.out)).trans HKB.out
              have y0 := cell_of_row _ _ 0 _ 78 (0, 0) hk1
              have HB1 := Lib.hid (HBB.out.trans (ha1.mono HBB.out.size))
              clear ha1 hk1 c0 c1 c2 c3 c4 c5 c6 c7
              go_wp2
              go_roundw
              case rel => exact ⟨k + 1, tm, by omega, by go_num, rfl, HRS, HB1.out⟩
              case measure => simp [intOf]; omega
          · have e1 : decide (tm < b0) = false := by simp; omega
            have e2 : decide (term < tm) = true := by simp; omega
            have HNO := Lib.hid (ret_bool (show false = r by rw [HRS.out, inB_not (by omega)]; rfl))
            clear HRS
            go_wp2
            go_ret
            exact ⟨HNO.out, HBB.out⟩
        · have e1 : decide (tm < b0) = true := by simp; omega
          have HNO := Lib.hid (ret_bool (show false = r by rw [HRS.out, inB_not (by omega)]; rfl))
          clear HRS
          go_wp2
          go_ret
          exact ⟨HNO.out, HBB.out⟩
      · have HYES := Lib.hid (ret_bool (show true = r by rw [HR.out, lgB_end (by simp; omega)]))
        clear HR
        go_wp2
        go_ret
        exact ⟨HYES.out, hb⟩
  · have HNO := Lib.hid (ret_bool (show false = r by rw [hr, logB, List.length_map, hn]; simp [h60]))
    clear hn h hms hl hr
    have e60 : (60 : Int) < (n : Int) := by omega
    go_enter Try.func97, Try.ntmps97
    go_wp2
    go_ret
    exact ⟨HNO.out, Below.refl _ _⟩

set_option maxHeartbeats 1000000 in
theorem hasRep_any (A : Option Addr) (n c : Nat) (tm ld r : Int) (w : World) (hn : n ≤ 1048576) :
    Calls Try.prog 99 #[.agg #[.slice A n c, .int .i64 tm, .int .i64 ld], .int .i64 r] w fun e w' => e = .returned (.bool (hasB n r)) ∧ Below w.heap.size w w' := by
  have hb1 := below1 w (.cells #[.slice A n c, .int .i64 tm, .int .i64 ld] 24)
  by_cases h0 : 0 ≤ r
  · have e0 : decide (0 ≤ r) = true := by simp [h0]
    obtain ⟨g, hg⟩ : ∃ g, g = decide (r < (n : Int)) := ⟨_, rfl⟩
    have HR := Lib.hid (ret_bool (show g = hasB n r by rw [hg, hasB, e0, Bool.true_and]))
    have hgg := hg.symm
    clear hg
    go_enter Try.func99, Try.ntmps99
    cases g
    all_goals
      go_wp2
      go_ret
      exact ⟨HR.out, hb1⟩
  · have e0 : decide (0 ≤ r) = false := by simp [h0]
    have HR := Lib.hid (ret_bool (show false = hasB n r by rw [hasB, e0, Bool.false_and]))
    go_enter Try.func99, Try.ntmps99
    go_wp2
    go_ret
    exact ⟨HR.out, hb1⟩
set_option maxRecDepth 100000 in
set_option maxHeartbeats 2000000 in
theorem isUp_any (A : Option Addr) (n c : Nat) (tm ld r : Int) (hs : List RH) (B : Nat) (w : World) (hn : hs.length = n) (h : RowsB KR w B A hs) (hB : B ≤ w.heap.size) (hl : n ≤ 1048576) :
    Calls Try.prog 96 #[.agg #[.slice A n c, .int .i64 tm, .int .i64 ld], .int .i64 r] w fun e w' => e = .returned (.bool (isUpB (hs.map rdat) r)) ∧ Below w.heap.size w w' := by
  have hb1 := below1 w (.cells #[.slice A n c, .int .i64 tm, .int .i64 ld] 24)
  have hk1 := heap_alloc_new w (.cells #[.slice A n c, .int .i64 tm, .int .i64 ld] 24)
  have HH := Lib.hid (fun W => hasRep_any A n c tm ld r W hl)
  have HB1 := Lib.hid hb1
  by_cases h1 : hasB n r = true
  · rw [h1] at HH
    have h2 : 0 ≤ r ∧ r < (n : Int) := by simpa [hasB] using h1
    obtain ⟨k, hk⟩ : ∃ k : Nat, r = (k : Int) := ⟨r.toNat, by omega⟩
    have hkn : k < hs.length := by omega
    obtain ⟨b, off, rfl, hbB, hc⟩ := rp_get h (by omega)
    obtain ⟨hc0, hc1, hc2⟩ := hc k hkn
    have HR := Lib.hid (ret_bool (show hs[k].up = isUpB (hs.map rdat) r by rw [isUpB, List.length_map, hn, h1, Bool.true_and, hk, Int.toNat_natCast, upAt_map hkn]))
    obtain ⟨g, hg⟩ : ∃ g, g = hs[k].up := ⟨_, rfl⟩
    rw [← hg] at hc0 HR
    have hbw := Nat.lt_of_lt_of_le hbB hB
    have h3 : (k : Int) < (n : Int) := by omega
    have h4 : (0 : Int) ≤ (k : Int) := by omega
    rw [hk] at HH
    rw [hk] at HR
    subst hk
    have HK := Lib.hid hk1
    clear hb1 hk1 hc hc1 hc2 hg h1 h2 h hn hkn hB
    go_enter Try.func96, Try.ntmps96
    go_wp2_with fail
    refine (HH.out _).mono ?_
    rintro e w1 ⟨rfl, ha1⟩
    have hk1 := (ha1.block w.heap.size (lt_blk HK.out)).trans HK.out
    have y0 := cell_of_row _ _ 0 _ 24 (0, 0) hk1
    have hb2 := HB1.out.trans (ha1.mono HB1.out.size)
    have c0 := (hb2.cell (p := ⟨b, off + k * 3, none⟩) hbw).trans hc0
    have HB2 := Lib.hid hb2
    clear ha1 hk1 hb2 hc0
    cases g
    all_goals
      go_wp2
      go_ret
      exact ⟨HR.out, HB2.out⟩
  · have h1 : hasB n r = false := by simpa using h1
    rw [h1] at HH
    have HR := Lib.hid (ret_bool (show false = isUpB (hs.map rdat) r by rw [isUpB, List.length_map, hn, h1, Bool.false_and]))
    clear hb1 hk1 h1 h hn
    go_enter Try.func96, Try.ntmps96
    go_wp2_with fail
    refine (HH.out _).mono ?_
    rintro e w1 ⟨rfl, ha1⟩
    have HB2 := Lib.hid (HB1.out.trans (ha1.mono HB1.out.size))
    clear ha1
    go_wp2
    go_ret
    exact ⟨HR.out, HB2.out⟩
theorem hasLeader_any (A : Option Addr) (n c : Nat) (tm ld : Int) (w : World) :
    Calls Try.prog 84 #[.agg #[.slice A n c, .int .i64 tm, .int .i64 ld]] w fun e w' => e = .returned (.bool (ld != -1)) ∧ Below w.heap.size w w' := by
  have hb1 := below1 w (.cells #[.slice A n c, .int .i64 tm, .int .i64 ld] 24)
  go_enter Try.func84, Try.ntmps84
  go_wp2
  go_ret
  exact ⟨rfl, hb1⟩
set_option maxRecDepth 100000 in
set_option maxHeartbeats 2000000 in
theorem goodLead_any (A : Option Addr) (n c : Nat) (tm ld : Int) (hs : List RH) (B : Nat) (w : World) (hn : hs.length = n) (h : RowsB KR w B A hs) (hB : B ≤ w.heap.size) (hl : n ≤ 1048576) :
    Calls Try.prog 54 #[.agg #[.slice A n c, .int .i64 tm, .int .i64 ld]] w fun e w' => e = .returned (.bool (leadB tm ld (hs.map rdat))) ∧ Below w.heap.size w w' := by
  have hb1 := below1 w (.cells #[.slice A n c, .int .i64 tm, .int .i64 ld] 24)
  have hk1 := heap_alloc_new w (.cells #[.slice A n c, .int .i64 tm, .int .i64 ld] 24)
  have HU := Lib.hid (fun W (hW : Below w.heap.size w W) => isUp_any A n c tm ld ld hs B W hn (h.below (hW.mono hB)) (Nat.le_trans hB hW.size) hl)
  have HB1 := Lib.hid hb1
  have HK := Lib.hid hk1
  obtain ⟨u, hu⟩ : ∃ u, u = isUpB (hs.map rdat) ld := ⟨_, rfl⟩
  rw [← hu] at HU
  obtain ⟨r, hr⟩ : ∃ r, r = leadB tm ld (hs.map rdat) := ⟨_, rfl⟩
  rw [← hr]
  rw [leadB, ← hu] at hr
  have HR0 := Lib.hid hr
  clear hb1 hk1 hn h hB hu hr
  by_cases h1 : ld = -1
  · have e1 : (ld == -1) = true := by simp [h1]
    have HR := Lib.hid (ret_bool (show true = r by rw [HR0.out, h1]; rfl))
    clear HR0 h1
    go_enter Try.func54, Try.ntmps54
    go_wp2
    go_ret
    exact ⟨HR.out, HB1.out⟩
  · have e1 : (ld == -1) = false := by simp [h1]
    have HR1 := Lib.hid (show r = (u && decide (0 < tm)) by rw [HR0.out]; simp [h1])
    clear HR0 h1
    go_enter Try.func54, Try.ntmps54
    go_wp2_with fail
    refine (HU.out _ HB1.out).mono ?_
    rintro e w1 ⟨rfl, ha1⟩
    have hk1 := (ha1.block w.heap.size (lt_blk HK.out)).trans HK.out
    have y1 := cell_of_row _ _ 1 _ 24 (0, 0) hk1
    have HB2 := Lib.hid (HB1.out.trans (ha1.mono HB1.out.size))
    obtain ⟨g, hg⟩ : ∃ g, g = decide (0 < tm) := ⟨_, rfl⟩
    rw [← hg] at HR1
    have hg2 := hg.symm
    clear ha1 hk1 hg
    cases u <;> cases g
    all_goals
      have HR := Lib.hid (ret_bool HR1.out.symm)
      clear HR1
      go_wp2
      go_ret
      exact ⟨HR.out, HB2.out⟩
end Go.Proofs.Ytnmhigbnlpcedaa.Gr
