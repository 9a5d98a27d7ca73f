/-
  Contracts for the program's checks of a group, on: goodReps, GoodGroup.
-/
import Derived.Test.YtnmhigbnlpcedaaGrGood
namespace Go.Proofs.Ytnmhigbnlpcedaa.Gr
open Go.RowKit CM
set_option linter.unusedVariables false
set_option linter.unusedSimpArgs false

set_option maxRecDepth 100000 in
set_option maxHeartbeats 4000000 in
theorem goodReps_any (A : Option Addr) (n c : Nat) (tm ld : Int) (hs : List RH) (B : Nat) (w : World) (hn : hs.length = n) (h : RowsB KR w B A hs) (hB : B ≤ w.heap.size) (hm : RpSmall (hs.map rdat)) :
    Calls Try.prog 55 #[.agg #[.slice A n c, .int .i64 tm, .int .i64 ld]] w fun e w' => e = .returned (.bool (repsB tm (hs.map rdat))) ∧ Below w.heap.size w w' := by
  obtain ⟨hl, hms⟩ := hm
  have HN := Lib.hid hn
  have hge := Nat.le_of_eq hn
  have hle := Nat.le_of_eq hn.symm
  have hnl : n ≤ 1048576 := by simp at hl; omega
  have HS := Lib.hid h
  have HM := Lib.hid hms
  obtain ⟨r, hr⟩ : ∃ r, r = repsB tm (hs.map rdat) := ⟨_, rfl⟩
  rw [← hr]
  have HR0 := Lib.hid (show r = repsB tm ((hs.map rdat).drop 0) from hr)
  have hb0 := below1 w (.cells #[.slice A n c, .int .i64 tm, .int .i64 ld] 24)
  have hk0 := heap_alloc_new w (.cells #[.slice A n c, .int .i64 tm, .int .i64 ld] 24)
  have HK0 := Lib.hid hk0
  have HB0 := Lib.hid hb0
  clear hn h hms hl hr hb0 hk0
  go_enter Try.func55, Try.ntmps55
  go_wp2_with fail
  go_loopw [8] (fun j wr => ∃ k : Nat, k ≤ n ∧ j = .int .i64 k ∧ Hid (r = repsB tm ((hs.map rdat).drop k)) ∧ Hid (Below w.heap.size w wr) ∧ Hid (wr.heap[w.heap.size]? = some (.cells #[.slice A n c, .int .i64 tm, .int .i64 ld] 24 (0, 0)))) (fun j _ => n - (intOf j).toNat)
  case atStart => exact ⟨0, by omega, rfl, HR0, HB0, HK0⟩
  case round =>
    clear HR0 HB0 HK0
    obtain ⟨k, hk, rfl, HR, HB, HK⟩ := hrel
    by_cases hlt : k < n
    · obtain ⟨b, off, rfl, hbB, hc⟩ := rp_get HS.out (by omega)
      obtain ⟨hc0, hc1, hc2⟩ := hc k (by omega)
      have hb := HB.out
      have c0 := (hb.cell (p := ⟨b, off + k * 3, none⟩) (Nat.lt_of_lt_of_le hbB hB)).trans hc0
      have c1 := (hb.cell (p := ⟨b, off + k * 3 + 1, none⟩) (Nat.lt_of_lt_of_le hbB hB)).trans hc1
      have c2 := (hb.cell (p := ⟨b, off + k * 3 + 2, none⟩) (Nat.lt_of_lt_of_le hbB hB)).trans hc2
      have HRS := Lib.hid (HR.out.trans (repsB_step (show k < (hs.map rdat).length by simp; omega)))
      have HBr := Nat.le_trans hB hb.size
      have hrd := KR.rd_below (HS.out.at k (by omega)) (hb.mono hB)
      have hsm := HM.out (rdat (hs[k]'(by omega))) (List.mem_map.2 ⟨_, List.getElem_mem (show k < hs.length by omega), rfl⟩)
      rw [r_at (show k < hs.length by omega)] at HRS
      obtain ⟨y, hy⟩ : ∃ y, y = hs[k]'(by omega) := ⟨_, rfl⟩
      rw [← hy] at c0 c1 c2 hrd hsm HRS
      obtain ⟨up, su, Al, cl, es, rlo, rhi⟩ := y
      simp only [rdat, repB, List.length_map] at c0 c1 c2 hrd hsm HRS
      have hbox := below1 wr (.cells #[.bool up, .slice Al es.length cl, .int .i64 su] 59)
      have hkb := heap_alloc_new wr (.cells #[.bool up, .slice Al es.length cl, .int .i64 su] 59)
      have HG := Lib.hid (fun W (hW : Below wr.heap.size wr W) => goodLog_any Al es.length cl tm es B W rfl (RowsB.below (K := KE) hrd (hW.mono HBr)) (Nat.le_trans HBr hW.size) hsm)
      obtain ⟨g, hg⟩ : ∃ g, g = logB tm (es.map EH.d) := ⟨_, rfl⟩
      rw [← hg] at HG HRS
      obtain ⟨nl, hvnl⟩ : ∃ nl, nl = es.length := ⟨_, rfl⟩
      rw [← hvnl] at c1 HG hbox hkb HRS
      have hkg := (hbox.block w.heap.size (lt_blk HK.out)).trans HK.out
      have g1 := cell_of_row _ _ 1 _ 24 (0, 0) HK.out
      have hgl := lt_blk HK.out
      have HKG := Lib.hid hkg
      have HBX := Lib.hid hbox
      have HKB := Lib.hid hkb
      have hk0 : (0 : Int) ≤ (k : Int) := by omega
      have hkn : (k : Int) < (n : Int) := by omega
      have hnl1 : nl ≤ 1048576 := by rw [hvnl]; have := hsm.1; simpa using this
      clear hc hc0 hc1 hc2 hy hrd hsm hg hvnl hbox hkb HR HBr hb hkg
      have HBB := Lib.hid (HB.out.trans (HBX.out.mono HB.out.size))
      cases g with
      | false =>
        have HNO := Lib.hid (ret_bool (show false = r by rw [HRS.out]; rfl))
        clear HRS
        go_wp2_with fail
        refine (HG.out _ HBX.out).mono ?_
        rintro e w1 ⟨rfl, ha1⟩
        have HB1 := Lib.hid (HBB.out.trans (ha1.mono HBB.out.size))
        clear ha1
        go_wp2
        go_ret
        exact ⟨HNO.out, HB1.out⟩
      | true =>
        rw [Bool.true_and] at HRS
        go_wp2_with fail
        refine (HG.out _ HBX.out).mono ?_
        rintro e w1 ⟨rfl, ha1⟩
        have hk1 := (ha1.block wr.heap.size (lt_blk HKB.out)).trans HKB.out
        have y1 := cell_of_row _ _ 1 _ 59 (0, 0) hk1
        have y2 := cell_of_row _ _ 2 _ 59 (0, 0) hk1
        have HKG1 := Lib.hid ((ha1.block w.heap.size (lt_blk HKG.out)).trans HKG.out)
        have HB1 := Lib.hid (HBB.out.trans (ha1.mono HBB.out.size))
        clear ha1 hk1 c0 c1 c2 g1 HKG HKB
        by_cases h1 : 0 ≤ su
        · by_cases h2 : su ≤ (nl : Int)
          · have e1 : decide (su < 0) = false := by simp; omega
            have e2 : decide ((nl : Int) < su) = false := by simp; omega
            have HRS := Lib.hid (show r = repsB tm ((hs.map rdat).drop (k + 1)) by rw [HRS.out]; simp [h1, h2])
            go_wp2
            go_roundw
            case rel => exact ⟨k + 1, by omega, by go_num, HRS, HB1, HKG1⟩
            case measure => simp [intOf]; omega
          · have e1 : decide (su < 0) = false := by simp; omega
            have e2 : decide ((nl : Int) < su) = true := by simp; omega
            have HNO := Lib.hid (ret_bool (show false = r by rw [HRS.out]; simp [h2]))
            clear HRS
            go_wp2
            go_ret
            exact ⟨HNO.out, HB1.out⟩
        · have e1 : decide (su < 0) = true := by simp; omega
          have HNO := Lib.hid (ret_bool (show false = r by rw [HRS.out]; simp [h1]))
          clear HRS
          go_wp2
          go_ret
          exact ⟨HNO.out, HB1.out⟩
    · have HYES := Lib.hid (ret_bool (show true = r by rw [HR.out, repsB_end (by simp; omega)]))
      clear HR
      go_wp2
      go_ret
      exact ⟨HYES.out, HB.out⟩

set_option maxRecDepth 100000 in
set_option maxHeartbeats 4000000 in
theorem implGoodGroup_any (A : Option Addr) (n c : Nat) (tm ld : Int) (hs : List RH) (B : Nat) (w : World) (hn : hs.length = n) (h : RowsB KR w B A hs) (hB : B ≤ w.heap.size) (hm : RpSmall (hs.map rdat)) :
    Calls Try.prog 21 #[.agg #[.slice A n c, .int .i64 tm, .int .i64 ld]] w fun e w' => e = .returned (.bool (grpB tm ld (hs.map rdat))) ∧ Below w.heap.size w w' := by
  have hb0 := below1 w (.cells #[.slice A n c, .int .i64 tm, .int .i64 ld] 24)
  have hk0 := heap_alloc_new w (.cells #[.slice A n c, .int .i64 tm, .int .i64 ld] 24)
  have hnl : n ≤ 1048576 := by have := hm.1; simp at this; omega
  have HZ := Lib.hid (fun W => isSize_any n W hnl)
  have HL := Lib.hid (fun W (hW : Below w.heap.size w W) => goodLead_any A n c tm ld hs B W hn (h.below (hW.mono hB)) (Nat.le_trans hB hW.size) hnl)
  have HG := Lib.hid (fun W (hW : Below w.heap.size w W) => goodReps_any A n c tm ld hs B W hn (h.below (hW.mono hB)) (Nat.le_trans hB hW.size) hm)
  obtain ⟨r, hr⟩ : ∃ r, r = grpB tm ld (hs.map rdat) := ⟨_, rfl⟩
  rw [← hr]
  rw [grpB, List.length_map, hn] at hr
  obtain ⟨g0, hg0⟩ : ∃ g, g = szB n := ⟨_, rfl⟩
  obtain ⟨g1, hg1⟩ : ∃ g, g = decide (0 ≤ tm) := ⟨_, rfl⟩
  obtain ⟨g2, hg2⟩ : ∃ g, g = decide (tm ≤ 200) := ⟨_, rfl⟩
  obtain ⟨g3, hg3⟩ : ∃ g, g = leadB tm ld (hs.map rdat) := ⟨_, rfl⟩
  obtain ⟨g4, hg4⟩ : ∃ g, g = repsB tm (hs.map rdat) := ⟨_, rfl⟩
  rw [← hg0, ← hg1, ← hg2, ← hg3, ← hg4] at hr
  rw [← hg0] at HZ
  rw [← hg3] at HL
  rw [← hg4] at HG
  have e1 := hg1.symm
  have e2 := hg2.symm
  have HB0 := Lib.hid hb0
  have HK := Lib.hid hk0
  have HR := Lib.hid hr
  clear hb0 hk0 hn h hB hm hg0 hg1 hg2 hg3 hg4 hr
  go_enter Try.func21, Try.ntmps21
  go_wp2_with fail
  refine (HZ.out _).mono ?_
  rintro e w1 ⟨rfl, rfl⟩
  cases g0 with
  | false =>
    have HX := Lib.hid (ret_bool (show false = r by rw [HR.out]; rfl))
    clear HR
    go_wp2
    go_ret
    exact ⟨HX.out, HB0.out⟩
  | true =>
    cases g1 with
    | false =>
      have HX := Lib.hid (ret_bool (show false = r by rw [HR.out]; rfl))
      clear HR
      go_wp2
      go_ret
      exact ⟨HX.out, HB0.out⟩
    | true =>
      cases g2 with
      | false =>
        have HX := Lib.hid (ret_bool (show false = r by rw [HR.out]; rfl))
        clear HR
        go_wp2
        go_ret
        exact ⟨HX.out, HB0.out⟩
      | true =>
        go_wp2_with fail
        refine (HL.out _ HB0.out).mono ?_
        rintro e w2 ⟨rfl, ha2⟩
        have HB2 := Lib.hid (HB0.out.trans (ha2.mono HB0.out.size))
        have hk2 := (ha2.block w.heap.size (lt_blk HK.out)).trans HK.out
        have y0 := cell_of_row _ _ 0 _ 24 (0, 0) hk2
        have y1 := cell_of_row _ _ 1 _ 24 (0, 0) hk2
        have y2 := cell_of_row _ _ 2 _ 24 (0, 0) hk2
        have yl := lt_blk hk2
        clear ha2 hk2
        cases g3 with
        | false =>
          have HX := Lib.hid (ret_bool (show false = r by rw [HR.out]; rfl))
          clear HR
          go_wp2
          go_ret
          exact ⟨HX.out, HB2.out⟩
        | true =>
          cases g4 with
          | false =>
            go_wp2_with fail
            refine (HG.out _ HB2.out).mono ?_
            rintro e w3 ⟨rfl, ha3⟩
            have HB3 := Lib.hid (HB2.out.trans (ha3.mono HB2.out.size))
            clear ha3 y0 y1 y2
            have HX := Lib.hid (ret_bool (show false = r by rw [HR.out]; rfl))
            clear HR
            go_wp2
            go_ret
            exact ⟨HX.out, HB3.out⟩
          | true =>
            go_wp2_with fail
            refine (HG.out _ HB2.out).mono ?_
            rintro e w3 ⟨rfl, ha3⟩
            have HB3 := Lib.hid (HB2.out.trans (ha3.mono HB2.out.size))
            clear ha3 y0 y1 y2
            have HX := Lib.hid (ret_bool (show true = r by rw [HR.out]; rfl))
            clear HR
            go_wp2
            go_ret
            exact ⟨HX.out, HB3.out⟩
end Go.Proofs.Ytnmhigbnlpcedaa.Gr
