/-
  Contracts for the model's checks of a group: l9GoodRep, GoodGroup.
-/
import Derived.Test.YtnmhigbnlpcedaaGrM
import Derived.Test.YtnmhigbnlpcedaaGoodL
import Derived.Test.YtnmhigbnlpcedaaBel
namespace Go.Proofs.Ytnmhigbnlpcedaa.Gr
open Go.RowKit CM
set_option linter.unusedVariables false
set_option linter.unusedSimpArgs false

theorem repB_model (term : Int) (up : Bool) (su : Int) (l : List ED) : repB term ⟨up, su, l⟩ = (decide (l.length ≤ 60) && (inB su 0 (l.length : Int) && lgB term 1 l)) := by
  simp only [repB, logB, inB]
  cases decide (l.length ≤ 60) <;> cases lgB term 1 l <;> simp

set_option maxRecDepth 100000 in
set_option maxHeartbeats 4000000 in
theorem l9GoodRep_any (up : Bool) (su : Int) (Al : Option Addr) (nl cl : Nat) (term : Int) (es : List EH) (B : Nat) (w : World) (hn : es.length = nl) (h : RowsB KE w B Al es) (hB : B ≤ w.heap.size) (hm : LgSmall (es.map EH.d)) :
    Calls Try.prog 52 #[.agg #[.bool up, .slice Al nl cl, .int .i64 su], .int .i64 term] w fun e w' => e = .returned (.bool (repB term ⟨up, su, es.map EH.d⟩)) ∧ Below w.heap.size w w' := by
  obtain ⟨hl, hms⟩ := hm
  have HN := Lib.hid hn
  have hge := Nat.le_of_eq hn
  have hle := Nat.le_of_eq hn.symm
  have hnl : nl ≤ 1048576 := by simp at hl; omega
  have HS := Lib.hid h
  have HM := Lib.hid hms
  obtain ⟨r, hr⟩ : ∃ r, r = repB term ⟨up, su, es.map EH.d⟩ := ⟨_, rfl⟩
  rw [← hr]
  rw [repB_model, List.length_map, hn] at hr
  have hb0 := below1 w (.cells #[.bool up, .slice Al nl cl, .int .i64 su] 59)
  have hk0 := heap_alloc_new w (.cells #[.bool up, .slice Al nl cl, .int .i64 su] 59)
  have HK0 := Lib.hid hk0
  have HB0 := Lib.hid hb0
  clear hn h hms hl hb0 hk0
  by_cases h60 : nl ≤ 60
  · have e60 : decide ((60 : Int) < (nl : Int)) = false := by simp; omega
    rw [decide_eq_true h60, Bool.true_and] at hr
    have HI := Lib.hid (fun W => l1In_any su 0 (nl : Int) W)
    obtain ⟨g0, hg0⟩ : ∃ g, g = inB su 0 (nl : Int) := ⟨_, rfl⟩
    rw [← hg0] at hr HI
    cases g0 with
    | false =>
      have HNO := Lib.hid (ret_bool (show false = r by rw [hr]; rfl))
      clear hr hg0
      go_enter Try.func52, Try.ntmps52
      go_wp2_with fail
      refine (HI.out _).mono ?_
      rintro e w1 ⟨rfl, rfl⟩
      go_wp2
      go_ret
      exact ⟨HNO.out, HB0.out⟩
    | true =>
      rw [Bool.true_and] at hr
      have HR0 := Lib.hid (show r = lgB term 1 ((es.map EH.d).drop 0) from hr)
      clear hr hg0
      go_enter Try.func52, Try.ntmps52
      go_wp2_with fail
      refine (HI.out _).mono ?_
      rintro e w1 ⟨rfl, rfl⟩
      go_wp2_with fail
      go_loopw [5, 6] (fun v j wr => ∃ (k : Nat) (b0 : Int), k ≤ nl ∧ j = .int .i64 k ∧ v = .int .i64 b0 ∧ Hid (r = lgB term b0 ((es.map EH.d).drop k)) ∧ Hid (Below w.heap.size w wr) ∧ Hid (wr.heap[w.heap.size]? = some (.cells #[.bool up, .slice Al nl cl, .int .i64 su] 59 (0, 0)))) (fun _ j _ => nl - (intOf j).toNat)
      case atStart => exact ⟨0, 1, by omega, rfl, rfl, HR0, HB0, HK0⟩
      case round =>
        clear HR0 HB0 HK0
        obtain ⟨k, b0, hk, rfl, rfl, HR, HB, HK⟩ := hrel
        have a1 := cell_of_row _ _ 1 _ 59 (0, 0) HK.out
        by_cases hlt : k < nl
        · obtain ⟨b, off, rfl, hbB, hc⟩ := en_get HS.out (by omega)
          obtain ⟨hc0, hc1, hc2, hc3, hc4, hc5, hc6, hc7⟩ := hc k (by omega)
          have hb := HB.out
          have c0 := (hb.cell (p := ⟨b, off + k * 8, none⟩) (Nat.lt_of_lt_of_le hbB hB)).trans hc0
          have c1 := (hb.cell (p := ⟨b, off + k * 8 + 1, none⟩) (Nat.lt_of_lt_of_le hbB hB)).trans hc1
          have c2 := (hb.cell (p := ⟨b, off + k * 8 + 2, none⟩) (Nat.lt_of_lt_of_le hbB hB)).trans hc2
          have c3 := (hb.cell (p := ⟨b, off + k * 8 + 3, none⟩) (Nat.lt_of_lt_of_le hbB hB)).trans hc3
          have c4 := (hb.cell (p := ⟨b, off + k * 8 + 4, none⟩) (Nat.lt_of_lt_of_le hbB hB)).trans hc4
          have c5 := (hb.cell (p := ⟨b, off + k * 8 + 5, none⟩) (Nat.lt_of_lt_of_le hbB hB)).trans hc5
          have c6 := (hb.cell (p := ⟨b, off + k * 8 + 6, none⟩) (Nat.lt_of_lt_of_le hbB hB)).trans hc6
          have c7 := (hb.cell (p := ⟨b, off + k * 8 + 7, none⟩) (Nat.lt_of_lt_of_le hbB hB)).trans hc7
          have HRS := Lib.hid (HR.out.trans (lgB_step (show k < (es.map EH.d).length by simp; omega)))
          have HBr := Nat.le_trans hB hb.size
          have hrd := KE.rd_below (HS.out.at k (by omega)) (hb.mono hB)
          have hsm := HM.out (es[k]'(by omega)).d (List.mem_map.2 ⟨_, List.getElem_mem (show k < es.length by omega), rfl⟩)
          rw [d_at (show k < es.length by omega)] at HRS
          obtain ⟨y, hy⟩ : ∃ y, y = es[k]'(by omega) := ⟨_, rfl⟩
          rw [← hy] at c0 c1 c2 c3 c4 c5 c6 c7 hrd hsm HRS
          obtain ⟨⟨tm, kk, tt, xx, ll, yy, rs, ws⟩, Ar, cr, Aw, cw, elo, em, ehi⟩ := y
          simp only [erB] at c0 c1 c2 c3 c4 c5 c6 c7 hrd hsm HRS
          have HG := Lib.hid (specGoodRec_any kk tt xx ll yy Ar Aw rs.length ws.length cr cw rs ws B wr rfl rfl hrd.1 hrd.2 HBr hsm.1 hsm.2)
          have HT := Lib.hid (fun W => l1In_any tm b0 term W)
          obtain ⟨g, hg⟩ : ∃ g, g = recB kk tt xx ll yy rs ws := ⟨_, rfl⟩
          rw [← hg] at HG HRS
          obtain ⟨gi, hgi⟩ : ∃ g, g = inB tm b0 term := ⟨_, rfl⟩
          rw [← hgi] at HT HRS
          obtain ⟨nr, hvnr⟩ : ∃ nr, nr = rs.length := ⟨_, rfl⟩
          rw [← hvnr] at c5 HG
          obtain ⟨nw, hvnw⟩ : ∃ nw, nw = ws.length := ⟨_, rfl⟩
          rw [← hvnw] at c6 HG
          have hk0 : (0 : Int) ≤ (k : Int) := by omega
          have hkn : (k : Int) < (nl : Int) := by omega
          have hbw : b < wr.heap.size := Nat.lt_of_lt_of_le hbB HBr
          clear hc hc0 hc1 hc2 hc3 hc4 hc5 hc6 hc7 hy hrd hsm hg hgi hvnr hvnw hb HR HBr
          cases gi with
          | false =>
            have HNO := Lib.hid (ret_bool (show false = r by rw [HRS.out]; rfl))
            clear HRS
            go_wp2_with fail
            refine (HT.out _).mono ?_
            rintro e w1 ⟨rfl, rfl⟩
            go_wp2
            go_ret
            exact ⟨HNO.out, HB.out⟩
          | true =>
            rw [Bool.true_and] at HRS
            cases g with
            | false =>
              have HNO := Lib.hid (ret_bool (show false = r by rw [HRS.out]; rfl))
              clear HRS
              go_wp2_with fail
              refine (HT.out _).mono ?_
              rintro e w1 ⟨rfl, rfl⟩
              go_wp2_with fail
              refine HG.out.mono ?_
              rintro e w1 ⟨rfl, ha1⟩
              have HB1 := Lib.hid (HB.out.trans (ha1.mono HB.out.size))
              clear ha1
              go_wp2
              go_ret
              exact ⟨HNO.out, HB1.out⟩
            | true =>
              rw [Bool.true_and] at HRS
              go_wp2_with fail
              refine (HT.out _).mono ?_
              rintro e w1 ⟨rfl, rfl⟩
              go_wp2_with fail
              refine HG.out.mono ?_
              rintro e w1 ⟨rfl, ha1⟩
              have HB1 := Lib.hid (HB.out.trans (ha1.mono HB.out.size))
              have HK1 := Lib.hid ((ha1.block w.heap.size (lt_blk HK.out)).trans HK.out)
              have d0 := (ha1.cell (p := ⟨b, off + k * 8, none⟩) hbw).trans c0
              have a2 := cell_of_row _ _ 1 _ 59 (0, 0) HK1.out
              clear ha1 c0 c1 c2 c3 c4 c5 c6 c7 a1
              go_wp2
              go_roundw
              case rel => exact ⟨k + 1, tm, by omega, by go_num, rfl, HRS, HB1, HK1⟩
              case measure => simp [intOf]; omega
        · have HYES := Lib.hid (ret_bool (show true = r by rw [HR.out, lgB_end (by simp; omega)]))
          clear HR
          go_wp2
          go_ret
          exact ⟨HYES.out, HB.out⟩
  · have e60 : decide ((60 : Int) < (nl : Int)) = true := by simp; omega
    have HNO := Lib.hid (ret_bool (show false = r by rw [hr]; simp [h60]))
    clear hr
    go_enter Try.func52, Try.ntmps52
    go_wp2
    go_ret
    exact ⟨HNO.out, HB0.out⟩

set_option maxRecDepth 100000 in
set_option maxHeartbeats 4000000 in
theorem specGoodGroup_any (A : Option Addr) (n c : Nat) (tm ld : Int) (hs : List RH) (B : Nat) (w : World) (hn : hs.length = n) (h : RowsB KR w B A hs) (hB : B ≤ w.heap.size) (hm : RpSmall (hs.map rdat)) :
    Calls Try.prog 19 #[.agg #[.slice A n c, .int .i64 tm, .int .i64 ld]] w fun e w' => e = .returned (.bool (grpB tm ld (hs.map rdat))) ∧ Below w.heap.size w w' := by
  have hb0 := below1 w (.cells #[.slice A n c, .int .i64 tm, .int .i64 ld] 24)
  have hk0 := heap_alloc_new w (.cells #[.slice A n c, .int .i64 tm, .int .i64 ld] 24)
  have hnl : n ≤ 1048576 := by have := hm.1; simp at this; omega
  have HM := Lib.hid hm.2
  have HN := Lib.hid hn
  have HS := Lib.hid h
  have hge := Nat.le_of_eq hn
  have hle := Nat.le_of_eq hn.symm
  have HT := Lib.hid (fun W => l1In_any tm 0 200 W)
  have HL := Lib.hid (fun W => l1In_any ld (-1) ((n : Int) - 1) W)
  obtain ⟨r, hr⟩ : ∃ r, r = grpB tm ld (hs.map rdat) := ⟨_, rfl⟩
  rw [← hr]
  rw [grpB_model, List.length_map, hn] at hr
  obtain ⟨g1, hg1⟩ : ∃ g, g = inB tm 0 200 := ⟨_, rfl⟩
  obtain ⟨g2, hg2⟩ : ∃ g, g = inB ld (-1) ((n : Int) - 1) := ⟨_, rfl⟩
  obtain ⟨g3, hg3⟩ : ∃ g, g = repsB tm (hs.map rdat) := ⟨_, rfl⟩
  rw [← hg1, ← hg2, ← hg3] at hr
  rw [← hg1] at HT
  rw [← hg2] at HL
  have HG3 := Lib.hid (show g3 = repsB tm ((hs.map rdat).drop 0) from hg3)
  have HG2 := Lib.hid hg2
  have HB0 := Lib.hid hb0
  have HK0 := Lib.hid hk0
  have HR := Lib.hid hr
  clear hb0 hk0 hn h hm hg1 hg2 hg3 hr
  by_cases hsz : n = 3 ∨ n = 5
  · have hsb : szB n = true := by simpa [szB] using hsz
    have HR := Lib.hid (HR.out.trans (by rw [hsb, Bool.true_and]))
    have HSZ := Lib.hid (show (n : Int) = 3 ∨ (n : Int) = 5 by omega)
    have hn1 : 1 ≤ n := by omega
    obtain ⟨p3, hp3⟩ : ∃ p, p = ((n : Int) != 3) := ⟨_, rfl⟩
    obtain ⟨p5, hp5⟩ : ∃ p, p = ((n : Int) != 5) := ⟨_, rfl⟩
    have HPP := Lib.hid (show (p3 && p5) = false by rw [hp3, hp5]; rcases hsz with rfl | rfl <;> rfl)
    have q3 := hp3.symm
    have q5 := hp5.symm
    clear hsb hsz hp3 hp5
    cases p3
    · go_enter Try.func19, Try.ntmps19
      go_wp2_with fail
      refine (HT.out _).mono ?_
      rintro e w1 ⟨rfl, rfl⟩
      cases g1 with
      | false =>
        have HX := Lib.hid (ret_bool (show false = r by rw [HR.out]; rfl))
        clear HR
        go_wp2
        go_ret
        exact ⟨HX.out, HB0.out⟩
      | true =>
        have HR := Lib.hid (HR.out.trans (Bool.true_and _))
        go_wp2_with fail
        refine (HL.out _).mono ?_
        rintro e w1 ⟨rfl, rfl⟩
        cases g2 with
        | false =>
          have HX := Lib.hid (ret_bool (show false = r by rw [HR.out]; rfl))
          clear HR
          go_wp2
          go_ret
          exact ⟨HX.out, HB0.out⟩
        | true =>
          have HR := Lib.hid (HR.out.trans (Bool.true_and _))
          have HIN := Lib.hid (inB_true HG2.out.symm)
          go_wp2_with fail
          go_loopw [3] (fun j wr => ∃ k : Nat, k ≤ n ∧ j = .int .i64 k ∧ Hid (g3 = repsB tm ((hs.map rdat).drop k)) ∧ Hid (Below w.heap.size w wr) ∧ Hid (wr.heap[w.heap.size]? = some (.cells #[.slice A n c, .int .i64 tm, .int .i64 ld] 24 (0, 0)))) (fun j _ => n - (intOf j).toNat)
          case atStart => exact ⟨0, by omega, rfl, HG3, HB0, HK0⟩
          case round =>
            clear HG3 HB0 HK0
            obtain ⟨k, hk, rfl, HGR, HB, HK⟩ := hrel
            have a0 := cell_of_row _ _ 0 _ 24 (0, 0) HK.out
            have a1 := cell_of_row _ _ 1 _ 24 (0, 0) HK.out
            have a2 := cell_of_row _ _ 2 _ 24 (0, 0) HK.out
            have al := lt_blk HK.out
            by_cases hlt : k < n
            · obtain ⟨b, off, rfl, hbB, hc⟩ := rp_get HS.out (by omega)
              obtain ⟨hc0, hc1, hc2⟩ := hc k (by omega)
              have hb := HB.out
              have c0 := (hb.cell (p := ⟨b, off + k * 3, none⟩) (Nat.lt_of_lt_of_le hbB hB)).trans hc0
              have c1 := (hb.cell (p := ⟨b, off + k * 3 + 1, none⟩) (Nat.lt_of_lt_of_le hbB hB)).trans hc1
              have c2 := (hb.cell (p := ⟨b, off + k * 3 + 2, none⟩) (Nat.lt_of_lt_of_le hbB hB)).trans hc2
              have HRS := Lib.hid (HGR.out.trans (repsB_step (show k < (hs.map rdat).length by simp; omega)))
              have HBr := Nat.le_trans hB hb.size
              have hrd := KR.rd_below (HS.out.at k (by omega)) (hb.mono hB)
              have hsm := HM.out (rdat (hs[k]'(by omega))) (List.mem_map.2 ⟨_, List.getElem_mem (show k < hs.length by omega), rfl⟩)
              rw [r_at (show k < hs.length by omega)] at HRS
              obtain ⟨y, hy⟩ : ∃ y, y = hs[k]'(by omega) := ⟨_, rfl⟩
              rw [← hy] at c0 c1 c2 hrd hsm HRS
              obtain ⟨up, su, Al, cl, es, rlo, rhi⟩ := y
              simp only [rdat] at c0 c1 c2 hrd hsm HRS
              have HG := Lib.hid (fun W (hW : Below wr.heap.size wr W) => l9GoodRep_any up su Al es.length cl tm es B W rfl (RowsB.below (K := KE) hrd (hW.mono HBr)) (Nat.le_trans HBr hW.size) hsm)
              obtain ⟨g, hg⟩ : ∃ g, g = repB tm ⟨up, su, es.map EH.d⟩ := ⟨_, rfl⟩
              rw [← hg] at HG HRS
              obtain ⟨nl, hvnl⟩ : ∃ nl, nl = es.length := ⟨_, rfl⟩
              rw [← hvnl] at c1 HG
              have hk0 : (0 : Int) ≤ (k : Int) := by omega
              have hkn : (k : Int) < (n : Int) := by omega
              have hbw : b < wr.heap.size := Nat.lt_of_lt_of_le hbB HBr
              have z0 := bel_cell c0 hbw
              have z1 := bel_cell c1 hbw
              have z2 := bel_cell c2 hbw
              have b0 := bel_cell a0 al
              have b1 := bel_cell a1 al
              clear hc hc0 hc1 hc2 hy hrd hsm hg hvnl hb HGR HBr
              go_wp2_with fail
              refine bel_region (by kernel_rfl) (by kernel_rfl) ?_
              repeat (go_big_quiet_step ((go_at_call 52; (with_reducible exact bel_call (HG.out _ (BelT.below _))))))
              refine wpQuiet_nil ?_
              intro p
              have HB3 := Lib.hid (HB.out.trans (p.below.mono HB.out.size))
              have HK3 := Lib.hid ((p.below.block w.heap.size (lt_blk HK.out)).trans HK.out)
              cases g with
              | false =>
                have HX := Lib.hid (ret_bool (show false = r by rw [HR.out, HRS.out]; rfl))
                clear HRS HR
                go_wp2
                go_ret
                exact ⟨HX.out, HB3.out⟩
              | true =>
                rw [Bool.true_and] at HRS
                go_wp2
                go_roundw
                case rel => exact ⟨k + 1, by omega, by go_num, HRS, HB3, HK3⟩
                case measure => simp [intOf]; omega
            · have hg3 : g3 = true := HGR.out.trans (repsB_end (by simp; omega))
              have HR := Lib.hid (HR.out.trans (by rw [hg3, Bool.true_and]))
              clear hg3 HGR
              by_cases hneg : ld < 0
              · have HX := Lib.hid (ret_bool (show true = r by rw [HR.out]; simp [hneg]))
                clear HR
                have e1 : decide (ld < 0) = true := by simp [hneg]
                go_wp2
                go_ret
                exact ⟨HX.out, HB.out⟩
              · have HR := Lib.hid (HR.out.trans (show _ = (decide (0 < tm) && upAt (hs.map rdat) ld.toNat) by simp [hneg]))
                have e1 : decide (ld < 0) = false := by simp; omega
                obtain ⟨q, hq⟩ : ∃ q : Nat, ld = (q : Int) := ⟨ld.toNat, by omega⟩
                have hqn : q < hs.length := by have := HIN.out; omega
                obtain ⟨b, off, rfl, hbB, hc⟩ := rp_get HS.out (by omega)
                obtain ⟨hc0, hc1, hc2⟩ := hc q hqn
                have c0 := (HB.out.cell (p := ⟨b, off + q * 3, none⟩) (Nat.lt_of_lt_of_le hbB hB)).trans hc0
                have HR := Lib.hid (HR.out.trans (show _ = (decide (0 < tm) && (hs[q]'hqn).up) by rw [hq, Int.toNat_natCast, upAt_map hqn]))
                obtain ⟨u, hu⟩ : ∃ u, u = (hs[q]'hqn).up := ⟨_, rfl⟩
                rw [← hu] at c0 HR
                obtain ⟨t, ht⟩ : ∃ t, t = decide (0 < tm) := ⟨_, rfl⟩
                rw [← ht] at HR
                have ht2 := ht.symm
                have h3 : (q : Int) < (n : Int) := by omega
                have h4 : (0 : Int) ≤ (q : Int) := by omega
                have hbw : b < wr.heap.size := Nat.lt_of_lt_of_le hbB (Nat.le_trans hB HB.out.size)
                subst hq
                clear hc hc0 hc1 hc2 hu ht hqn hneg HIN
                cases t <;> cases u
                all_goals
                  have HX := Lib.hid (ret_bool HR.out.symm)
                  clear HR
                  go_wp2
                  go_ret
                  exact ⟨HX.out, HB.out⟩
    · cases p5
      · go_enter Try.func19, Try.ntmps19
        go_wp2_with fail
        refine (HT.out _).mono ?_
        rintro e w1 ⟨rfl, rfl⟩
        cases g1 with
        | false =>
          have HX := Lib.hid (ret_bool (show false = r by rw [HR.out]; rfl))
          clear HR
          go_wp2
          go_ret
          exact ⟨HX.out, HB0.out⟩
        | true =>
          have HR := Lib.hid (HR.out.trans (Bool.true_and _))
          go_wp2_with fail
          refine (HL.out _).mono ?_
          rintro e w1 ⟨rfl, rfl⟩
          cases g2 with
          | false =>
            have HX := Lib.hid (ret_bool (show false = r by rw [HR.out]; rfl))
            clear HR
            go_wp2
            go_ret
            exact ⟨HX.out, HB0.out⟩
          | true =>
            have HR := Lib.hid (HR.out.trans (Bool.true_and _))
            have HIN := Lib.hid (inB_true HG2.out.symm)
            go_wp2_with fail
            go_loopw [3] (fun j wr => ∃ k : Nat, k ≤ n ∧ j = .int .i64 k ∧ Hid (g3 = repsB tm ((hs.map rdat).drop k)) ∧ Hid (Below w.heap.size w wr) ∧ Hid (wr.heap[w.heap.size]? = some (.cells #[.slice A n c, .int .i64 tm, .int .i64 ld] 24 (0, 0)))) (fun j _ => n - (intOf j).toNat)
            case atStart => exact ⟨0, by omega, rfl, HG3, HB0, HK0⟩
            case round =>
              clear HG3 HB0 HK0
              obtain ⟨k, hk, rfl, HGR, HB, HK⟩ := hrel
              have a0 := cell_of_row _ _ 0 _ 24 (0, 0) HK.out
              have a1 := cell_of_row _ _ 1 _ 24 (0, 0) HK.out
              have a2 := cell_of_row _ _ 2 _ 24 (0, 0) HK.out
              have al := lt_blk HK.out
              by_cases hlt : k < n
              · obtain ⟨b, off, rfl, hbB, hc⟩ := rp_get HS.out (by omega)
                obtain ⟨hc0, hc1, hc2⟩ := hc k (by omega)
                have hb := HB.out
                have c0 := (hb.cell (p := ⟨b, off + k * 3, none⟩) (Nat.lt_of_lt_of_le hbB hB)).trans hc0
                have c1 := (hb.cell (p := ⟨b, off + k * 3 + 1, none⟩) (Nat.lt_of_lt_of_le hbB hB)).trans hc1
                have c2 := (hb.cell (p := ⟨b, off + k * 3 + 2, none⟩) (Nat.lt_of_lt_of_le hbB hB)).trans hc2
                have HRS := Lib.hid (HGR.out.trans (repsB_step (show k < (hs.map rdat).length by simp; omega)))
                have HBr := Nat.le_trans hB hb.size
                have hrd := KR.rd_below (HS.out.at k (by omega)) (hb.mono hB)
                have hsm := HM.out (rdat (hs[k]'(by omega))) (List.mem_map.2 ⟨_, List.getElem_mem (show k < hs.length by omega), rfl⟩)
                rw [r_at (show k < hs.length by omega)] at HRS
                obtain ⟨y, hy⟩ : ∃ y, y = hs[k]'(by omega) := ⟨_, rfl⟩
                rw [← hy] at c0 c1 c2 hrd hsm HRS
                obtain ⟨up, su, Al, cl, es, rlo, rhi⟩ := y
                simp only [rdat] at c0 c1 c2 hrd hsm HRS
                have HG := Lib.hid (fun W (hW : Below wr.heap.size wr W) => l9GoodRep_any up su Al es.length cl tm es B W rfl (RowsB.below (K := KE) hrd (hW.mono HBr)) (Nat.le_trans HBr hW.size) hsm)
                obtain ⟨g, hg⟩ : ∃ g, g = repB tm ⟨up, su, es.map EH.d⟩ := ⟨_, rfl⟩
                rw [← hg] at HG HRS
                obtain ⟨nl, hvnl⟩ : ∃ nl, nl = es.length := ⟨_, rfl⟩
                rw [← hvnl] at c1 HG
                have hk0 : (0 : Int) ≤ (k : Int) := by omega
                have hkn : (k : Int) < (n : Int) := by omega
                have hbw : b < wr.heap.size := Nat.lt_of_lt_of_le hbB HBr
                have z0 := bel_cell c0 hbw
                have z1 := bel_cell c1 hbw
                have z2 := bel_cell c2 hbw
                have b0 := bel_cell a0 al
                have b1 := bel_cell a1 al
                clear hc hc0 hc1 hc2 hy hrd hsm hg hvnl hb HGR HBr
                go_wp2_with fail
                refine bel_region (by kernel_rfl) (by kernel_rfl) ?_
                repeat (go_big_quiet_step ((go_at_call 52; (with_reducible exact bel_call (HG.out _ (BelT.below _))))))
                refine wpQuiet_nil ?_
                intro p
                have HB3 := Lib.hid (HB.out.trans (p.below.mono HB.out.size))
                have HK3 := Lib.hid ((p.below.block w.heap.size (lt_blk HK.out)).trans HK.out)
                cases g with
                | false =>
                  have HX := Lib.hid (ret_bool (show false = r by rw [HR.out, HRS.out]; rfl))
                  clear HRS HR
                  go_wp2
                  go_ret
                  exact ⟨HX.out, HB3.out⟩
                | true =>
                  rw [Bool.true_and] at HRS
                  go_wp2
                  go_roundw
                  case rel => exact ⟨k + 1, by omega, by go_num, HRS, HB3, HK3⟩
                  case measure => simp [intOf]; omega
              · have hg3 : g3 = true := HGR.out.trans (repsB_end (by simp; omega))
                have HR := Lib.hid (HR.out.trans (by rw [hg3, Bool.true_and]))
                clear hg3 HGR
                by_cases hneg : ld < 0
                · have HX := Lib.hid (ret_bool (show true = r by rw [HR.out]; simp [hneg]))
                  clear HR
                  have e1 : decide (ld < 0) = true := by simp [hneg]
                  go_wp2
                  go_ret
                  exact ⟨HX.out, HB.out⟩
                · have HR := Lib.hid (HR.out.trans (show _ = (decide (0 < tm) && upAt (hs.map rdat) ld.toNat) by simp [hneg]))
                  have e1 : decide (ld < 0) = false := by simp; omega
                  obtain ⟨q, hq⟩ : ∃ q : Nat, ld = (q : Int) := ⟨ld.toNat, by omega⟩
                  have hqn : q < hs.length := by have := HIN.out; omega
                  obtain ⟨b, off, rfl, hbB, hc⟩ := rp_get HS.out (by omega)
                  obtain ⟨hc0, hc1, hc2⟩ := hc q hqn
                  have c0 := (HB.out.cell (p := ⟨b, off + q * 3, none⟩) (Nat.lt_of_lt_of_le hbB hB)).trans hc0
                  have HR := Lib.hid (HR.out.trans (show _ = (decide (0 < tm) && (hs[q]'hqn).up) by rw [hq, Int.toNat_natCast, upAt_map hqn]))
                  obtain ⟨u, hu⟩ : ∃ u, u = (hs[q]'hqn).up := ⟨_, rfl⟩
                  rw [← hu] at c0 HR
                  obtain ⟨t, ht⟩ : ∃ t, t = decide (0 < tm) := ⟨_, rfl⟩
                  rw [← ht] at HR
                  have ht2 := ht.symm
                  have h3 : (q : Int) < (n : Int) := by omega
                  have h4 : (0 : Int) ≤ (q : Int) := by omega
                  have hbw : b < wr.heap.size := Nat.lt_of_lt_of_le hbB (Nat.le_trans hB HB.out.size)
                  subst hq
                  clear hc hc0 hc1 hc2 hu ht hqn hneg HIN
                  cases t <;> cases u
                  all_goals
                    have HX := Lib.hid (ret_bool HR.out.symm)
                    clear HR
                    go_wp2
                    go_ret
                    exact ⟨HX.out, HB.out⟩
      · exact absurd HPP.out (by simp)
  · have hsb : szB n = false := by simpa [szB] using hsz
    have HNO := Lib.hid (ret_bool (show false = r by rw [HR.out, hsb]; rfl))
    have q3 : ((n : Int) != 3) = true := by simp; omega
    have q5 : ((n : Int) != 5) = true := by simp; omega
    clear hsb hsz HR
    go_enter Try.func19, Try.ntmps19
    go_wp2
    go_ret
    exact ⟨HNO.out, HB0.out⟩
end Go.Proofs.Ytnmhigbnlpcedaa.Gr
