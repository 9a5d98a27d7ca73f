/-
  Contracts for ElectRep of the model.
-/
import Derived.Test.YtnmhigbnlpcedaaGrUp
import Derived.Test.YtnmhigbnlpcedaaGrOw
import Derived.Test.YtnmhigbnlpcedaaGrElI
import Derived.Deep.QuietTactic
import Derived.BigQuiet
import Derived.Deep.Cut
namespace Go.Proofs.Ytnmhigbnlpcedaa.Gr
open Go.RowKit CM
set_option linter.unusedVariables false
set_option linter.unusedSimpArgs false

theorem bel_dn {B : Nat} {a w : World} (h : Below B a w) (n : Nat) : Below B a (w.drewN n) := h.trans ⟨rfl, rfl, rfl, Nat.le_refl _, fun _ _ => rfl⟩

set_option maxRecDepth 100000 in
set_option maxHeartbeats 8000000 in
theorem specElectRep_any (A : Option Addr) (n c : Nat) (tm ld r : Int) (hs : List RH) (B : Nat) (w : World) (hn : hs.length = n) (h : RowsB KR w B A hs) (hB : B ≤ w.heap.size) (hm : RpSmall (hs.map rdat)) :
    Calls Try.prog 26 #[.agg #[.slice A n c, .int .i64 tm, .int .i64 ld], .int .i64 r] w (GAPost (electA tm ld (hs.map rdat) r) w) := by
  have hb0 := below2 w (.cells #[.slice A n c, .int .i64 tm, .int .i64 ld] 24) (.cells #[.slice none 0 0, .int .i64 0, .int .i64 0] 24)
  have ka0 := alloc2_a w (.cells #[.slice A n c, .int .i64 tm, .int .i64 ld] 24) (.cells #[.slice none 0 0, .int .i64 0, .int .i64 0] 24)
  have kb0 := alloc2_b w (.cells #[.slice A n c, .int .i64 tm, .int .i64 ld] 24) (.cells #[.slice none 0 0, .int .i64 0, .int .i64 0] 24)
  have HUP := Lib.hid (l9Up_any A n c tm ld r true hs B _ hn (h.below (hb0.mono hB)) (Nat.le_trans hB hb0.size) hm)
  have HOW := Lib.hid (fun W (hW : Below w.heap.size w W) => l9Own_any A n c tm ld hs B W hn (h.below (hW.mono hB)) (Nat.le_trans hB hW.size) hm)
  have HB0 := Lib.hid hb0
  have HKA := Lib.hid ka0
  have HKB := Lib.hid kb0
  have hza : w.heap.size < ((w.alloc (.cells #[.slice A n c, .int .i64 tm, .int .i64 ld] 24)).alloc (.cells #[.slice none 0 0, .int .i64 0, .int .i64 0] 24)).heap.size := by simp; omega
  have hzb : w.heap.size + 1 < ((w.alloc (.cells #[.slice A n c, .int .i64 tm, .int .i64 ld] 24)).alloc (.cells #[.slice none 0 0, .int .i64 0, .int .i64 0] 24)).heap.size := by simp
  clear hb0 ka0 kb0
  by_cases hg : grpB tm ld (hs.map rdat) = true ∧ isUpB (hs.map rdat) r = true
  · have hx := hg.2
    unfold isUpB at hx
    rw [List.length_map, hn] at hx
    simp only [Bool.and_eq_true] at hx
    rw [show (grpB tm ld (hs.map rdat) && (hasB n r && (upAt (hs.map rdat) r.toNat == true))) = true by rw [hg.1, hx.1, hx.2]; rfl] at HUP
    obtain ⟨ht0, ht1⟩ := grp_term hg.1
    by_cases h2 : tm = 200
    · rw [electA_no (.inr (by unfold elB; simp [h2]))]
      have e1 : (tm == 200) = true := by simp [h2]
      clear hg hx h hm hn h2
      go_enter Try.func26, Try.ntmps26
      go_wp2_with fail
      (with_reducible refine HUP.out.mono ?_)
      rintro e w1 ⟨rfl, ha1⟩
      have HB1 := Lib.hid (HB0.out.trans (ha1.mono HB0.out.size))
      have ka1 := (ha1.block w.heap.size hza).trans HKA.out
      have kb1 := (ha1.block (w.heap.size + 1) hzb).trans HKB.out
      have hz1 : w.heap.size + 1 < w1.heap.size := Nat.lt_of_lt_of_le hzb ha1.size
      have hz0 : w.heap.size < w1.heap.size := by omega
      have a1 := cell_blk (i := 1) ka1 rfl
      have b0 := cell_blk (i := 0) kb1 rfl
      have b1 := cell_blk (i := 1) kb1 rfl
      have b2 := cell_blk (i := 2) kb1 rfl
      have fb := free_all kb1
      clear ha1 ka1 kb1
      go_wp2
      exact bodyPost_ret (v := .tuple #[.agg #[.slice none 0 0, .int .i64 0, .int .i64 0], .bool false]) (by simp [results, Try.results26, go_sem, *]) rfl (noGA_post (below_putN HB1.out (show w.heap.size ≤ w.heap.size + 1 by omega) 0 [.slice none 0 0, .int .i64 0, .int .i64 0]))
    · have e1 : (tm == 200) = false := by simp [h2]
      have ht2 : tm ≤ 199 := by omega
      obtain ⟨q, hq, hqn⟩ := hasB_nat hx.1
      subst hq
      have hqh : q < hs.length := by omega
      obtain ⟨tot, htot⟩ : ∃ tot, tot = cntV (hs[q].es.map EH.d) (hs.map rdat) := ⟨_, rfl⟩
      obtain ⟨ans9, hans⟩ : ∃ ans9, ans9 = electA tm ld (hs.map rdat) (q : Int) := ⟨_, rfl⟩
      have hea : ans9 = if n < 2 * tot then (hs.map rdat, tm + 1, (q : Int), true) else noGA := by
        rw [hans]
        unfold electA elB
        rw [hg.1, hg.2, Int.toNat_natCast, logAt_map hqh, List.length_map, hn, ← htot]
        by_cases h9 : n < 2 * tot <;> simp [h2, h9]
      rw [← hans]
      have HEA := Lib.hid hea
      have hnl : n ≤ 1048576 := by have := hm.1; simp at this; omega
      have htl : tot ≤ n := by rw [htot, ← hn]; have := cntV_le (hs[q].es.map EH.d) (hs.map rdat); simpa using this
      have HR0 := Lib.hid (show tot = 0 + cntV (hs[q].es.map EH.d) ((hs.map rdat).drop 0) by rw [htot]; simp)
      have HLS := Lib.hid (logs_small hm rfl)
      have HS := Lib.hid h
      have HN := Lib.hid hn
      have HSL := Lib.hid (show (hs.map rdat).length = n by rw [List.length_map]; exact hn)
      have HQH := Lib.hid hqh
      obtain ⟨b, off, rfl, hbB, hc⟩ := rp_get h (by omega)
      have HC := Lib.hid hc
      obtain ⟨yq, hyq⟩ : ∃ yq, yq = hs[q]'hqh := ⟨_, rfl⟩
      have hrq0 := HS.out.2 yq (by rw [hyq]; exact List.getElem_mem hqh)
      have hsq0 := HLS.out yq (by rw [hyq]; exact List.getElem_mem hqh)
      have hcq := (hc q hqh).2.1
      rw [← hyq] at HR0 hcq
      have HYQ := Lib.hid hyq
      obtain ⟨upq, suq, Aq, cq, esq, qlo, qhi⟩ := yq
      simp only at HR0 hcq hsq0
      obtain ⟨nq, hnq⟩ : ∃ nq, nq = esq.length := ⟨_, rfl⟩
      rw [← hnq] at hcq hsq0
      have HNQ := Lib.hid hnq.symm
      have HRQ := Lib.hid (show RowsB KE w B Aq esq from hrq0)
      have HSQ := Lib.hid hsq0
      have HCQ := Lib.hid hcq
      have hq0 : (0 : Int) ≤ (q : Int) := by omega
      have hq1 : (q : Int) < (n : Int) := by omega
      clear hg hx h hm hn h2 hea hans htot hyq hc hrq0 hsq0 hcq hnq
      go_enter Try.func26, Try.ntmps26
      go_wp2_with fail
      (with_reducible refine HUP.out.mono ?_)
      rintro e w1 ⟨rfl, ha1⟩
      have HB1 := Lib.hid (HB0.out.trans (ha1.mono HB0.out.size))
      have ka1 := (ha1.block w.heap.size hza).trans HKA.out
      have kb1 := (ha1.block (w.heap.size + 1) hzb).trans HKB.out
      have hz1 : w.heap.size + 1 < w1.heap.size := Nat.lt_of_lt_of_le hzb ha1.size
      have hz0 : w.heap.size < w1.heap.size := by omega
      have a0 := cell_blk (i := 0) ka1 rfl
      have a1 := cell_blk (i := 1) ka1 rfl
      have HKA1 := Lib.hid ka1
      have HKB1 := Lib.hid kb1
      clear ha1 ka1 kb1
      go_wp2_with fail
      clear a0 a1
      go_loopw [6, 7] (fun v j wr => ∃ (k a : Nat), k ≤ n ∧ a ≤ k ∧ j = .int .i64 k ∧ v = .int .i64 a ∧ Hid (tot = a + cntV (esq.map EH.d) ((hs.map rdat).drop k)) ∧ Below w1.heap.size w1 wr) (fun _ j _ => n - (intOf j).toNat)
      case atStart => exact ⟨0, 0, by omega, by omega, rfl, rfl, HR0, Below.refl _ _⟩
      case round =>
        clear HR0
        obtain ⟨k, a, hk, hak, rfl, rfl, HR, hb⟩ := hrel
        have hbw := HB1.out.trans (hb.mono HB1.out.size)
        have ka2 := (hb.block w.heap.size hz0).trans HKA1.out
        have kb2 := (hb.block (w.heap.size + 1) hz1).trans HKB1.out
        have y0 := cell_blk (i := 0) ka2 rfl
        have y1 := cell_blk (i := 1) ka2 rfl
        have y2 := cell_blk (i := 2) ka2 rfl
        have yl := lt_blk ka2
        by_cases hlt : k < n
        · have hkh : k < hs.length := by have := HN.out; omega
          obtain ⟨hc0, hc1, hc2⟩ := HC.out k hkh
          have p0 := (hbw.cell (p := ⟨b, off + k * 3, none⟩) (Nat.lt_of_lt_of_le hbB hB)).trans hc0
          have p1 := (hbw.cell (p := ⟨b, off + k * 3 + 1, none⟩) (Nat.lt_of_lt_of_le hbB hB)).trans hc1
          have pq := (hbw.cell (p := ⟨b, off + q * 3 + 1, none⟩) (Nat.lt_of_lt_of_le hbB hB)).trans HCQ.out
          have HRS := Lib.hid (HR.out.trans (by rw [cntV_step (show k < (hs.map rdat).length by simpa using hkh), r_at hkh]))
          have hrd := KR.rd_below (HS.out.at k hkh) (hbw.mono hB)
          have hrq := HRQ.out.below (hbw.mono hB)
          have hsm := HLS.out hs[k] (List.getElem_mem hkh)
          obtain ⟨y, hy⟩ : ∃ y, y = hs[k]'hkh := ⟨_, rfl⟩
          rw [← hy] at p0 p1 hrd hsm HRS
          obtain ⟨up, su, Al, cl, es, rlo, rhi⟩ := y
          simp only [rdat, yesV] at p0 p1 hrd hsm HRS
          obtain ⟨mb, hmb⟩ : ∃ mb, mb = moreB (es.map EH.d) (esq.map EH.d) := ⟨_, rfl⟩
          rw [← hmb] at HRS
          have HLT := Lib.hid (fun (m : Nat) => (l9Later_any Al es.length cl es Aq nq cq esq B (wr.drewN m) rfl (RowsB.below (K := KE) hrd (bel_dn (Below.refl _ _) m)) hsm HNQ.out (RowsB.below (K := KE) hrq (bel_dn (Below.refl _ _) m)) HSQ.out mb hmb).mono fun e w' hh => (show e = .returned (.bool mb) ∧ ∃ j, w' = (wr.drewN m).drewN j from ⟨hh.1, 0, hh.2.symm⟩))
          obtain ⟨nl, hvnl⟩ : ∃ nl, nl = es.length := ⟨_, rfl⟩
          rw [← hvnl] at p1 HLT
          have hk0 : (0 : Int) ≤ (k : Int) := by omega
          have ha0 : (0 : Int) ≤ (a : Int) := by omega
          have hkn : (k : Int) < (n : Int) := by omega
          have HBB := Lib.hid hb
          clear hc0 hc1 hc2 hy hrd hrq hsm hmb hvnl hb hbw ka2 kb2 HR
          cases up with
          | false =>
            rw [Bool.false_and] at HRS
            go_wp2_with fail
            go_quiet (fail)
            clear p0 p1 pq y0 y1 y2
            go_wp2
            go_roundw
            case rel => exact ⟨k + 1, a, by omega, by omega, by go_num, rfl, Lib.hid (by have h9 := HRS.out; simp at h9; omega), bel_dn HBB.out _⟩
            case measure => simp [intOf]; omega
          | true =>
            rw [Bool.true_and] at HRS
            go_wp2_with fail
            go_quiet ((go_at_call 63; exact Calls.quiet_of (HLT.out _)))
            clear p0 p1 pq y0 y1 y2
            cases mb with
            | false =>
              go_wp2
              go_roundw
              case rel => exact ⟨k + 1, a + 1, by omega, by omega, by go_num, by go_num, Lib.hid (by have h9 := HRS.out; simp at h9; omega), bel_dn HBB.out _⟩
              case measure => simp [intOf]; omega
            | true =>
              go_wp2
              go_roundw
              case rel => exact ⟨k + 1, a, by omega, by omega, by go_num, rfl, Lib.hid (by have h9 := HRS.out; simp at h9; omega), bel_dn HBB.out _⟩
              case measure => simp [intOf]; omega
        · have hkn : k = n := by omega
          subst hkn
          have hta : tot = a := by have h9 := HR.out; rw [List.drop_of_length_le (by rw [List.length_map, HN.out]; exact Nat.le_refl _)] at h9; simpa [cntV] using h9
          subst hta
          have HBW := Lib.hid hbw
          have HKA2 := Lib.hid ka2
          have HKB2 := Lib.hid kb2
          have ha0 : (0 : Int) ≤ (tot : Int) := by omega
          have hzr := hb.size
          clear hb HR hbw ka2 kb2
          by_cases hw : k < 2 * tot
          · have hi1 : ¬ 2 * (tot : Int) ≤ (k : Int) := by omega
            have hi2 : decide (2 * (tot : Int) ≤ (k : Int)) = false := decide_eq_false hi1
            have hi3 : decide (2 * tot ≤ k) = false := by simp; omega
            have he := HEA.out
            rw [if_pos hw] at he
            subst he
            rw [GAPost_un] at *
            go_wp2_with fail
            (with_reducible refine (HOW.out _ HBW.out).mono ?_)
            rintro e w2 ⟨A2, c2, gs, rfl, hd2, ho2, ha2⟩
            have hz2 := ha2.size
            have hzw : w.heap.size + 1 < wr.heap.size := lt_blk HKB2.out
            have hbx := below1 w2 (.cells #[.slice A2 k c2, .int .i64 tm, .int .i64 ld] 24)
            have hso := ho2.since hbx
            have kb3 := (hbx.block _ (Nat.lt_of_lt_of_le hzw hz2)).trans ((ha2.block _ hzw).trans HKB2.out)
            have k63 := heap_alloc_new w2 (.cells #[.slice A2 k c2, .int .i64 tm, .int .i64 ld] 24)
            have hb3 := (HBW.out.trans (ha2.mono HBW.out.size)).trans (hbx.mono (Nat.le_trans HBW.out.size hz2))
            go_upto_region 12 with fail
            obtain ⟨V, hV⟩ : ∃ V, V = w2.alloc (.cells #[.slice A2 k c2, .int .i64 tm, .int .i64 ld] 24) := ⟨_, rfl⟩
            rw [← hV] at hso kb3 k63 hb3 ⊢
            have hzV : V.heap.size = w2.heap.size + 1 := by rw [hV]; simp
            have HZV := Lib.hid hzV
            have HSO := Lib.hid hso
            have HB3 := Lib.hid hb3
            have HDD := Lib.hid (show gs.map rdat = hs.map rdat from hd2)
            have HZZ := Lib.hid (show w.heap.size + 1 < wr.heap.size ∧ wr.heap.size ≤ w2.heap.size from ⟨hzw, hz2⟩)
            have t0 := cell_blk (i := 0) k63 rfl
            have t1 := cell_blk (i := 1) k63 rfl
            have t2 := cell_blk (i := 2) k63 rfl
            have ft := free_all k63
            have b0 := cell_blk (i := 0) kb3 rfl
            have b1 := cell_blk (i := 1) kb3 rfl
            have b2 := cell_blk (i := 2) kb3 rfl
            have fb := free_all kb3
            have n1 : w.heap.size + 1 ≠ w2.heap.size := by omega
            have n2 : w2.heap.size ≠ w.heap.size + 1 := by omega
            have l1 : w.heap.size + 1 < V.heap.size := by omega
            have l2 : w2.heap.size < V.heap.size := by omega
            clear hV hzV hso kb3 k63 hb3 hbx hd2 ho2 ha2 y0 y1 y2 yl hz2 hzw hzr
            go_wp2
            exact bodyPost_ret (v := .tuple #[.agg #[.slice A2 k c2, .int .i64 (tm + 1), .int .i64 (q : Int)], .bool true]) (by simp [results, Try.results26, go_sem, *]) rfl ⟨A2, c2, gs, by rw [HSL.out], HDD.out,
              (HSO.out.keep (((keep_set (p := ⟨w2.heap.size, 2, none⟩) (.inr (Nat.le_refl _)) (.int .i64 (q : Int))).trans (keep_set (p := ⟨w2.heap.size, 1, none⟩) (.inr (Nat.le_refl _)) (.int .i64 (tm + 1))) (by simp [World.setCell])).trans (keep_putN (g := w.heap.size + 1) (.inl HZZ.out.1) 0 [.slice A2 k c2, .int .i64 (tm + 1), .int .i64 (q : Int)]) (by simp [World.setCell]))).wider (by have := HZZ.out; omega) (by simp [World.setCell]; have := HZV.out; omega),
              below_putN ((HB3.out.setCell (p := ⟨w2.heap.size, 2, none⟩) (show w.heap.size ≤ w2.heap.size by have := HZZ.out; omega) (.int .i64 (q : Int))).setCell (p := ⟨w2.heap.size, 1, none⟩) (show w.heap.size ≤ w2.heap.size by have := HZZ.out; omega) (.int .i64 (tm + 1))) (show w.heap.size ≤ w.heap.size + 1 by omega) 0 [.slice A2 k c2, .int .i64 (tm + 1), .int .i64 (q : Int)]⟩
          · have hi1 : 2 * (tot : Int) ≤ (k : Int) := by omega
            have he := HEA.out
            rw [if_neg hw] at he
            subst he
            have b0 := cell_blk (i := 0) HKB2.out rfl
            have b1 := cell_blk (i := 1) HKB2.out rfl
            have b2 := cell_blk (i := 2) HKB2.out rfl
            have fb := free_all HKB2.out
            have lb := lt_blk HKB2.out
            go_wp2
            exact bodyPost_ret (v := .tuple #[.agg #[.slice none 0 0, .int .i64 0, .int .i64 0], .bool false]) (by simp [results, Try.results26, go_sem, *]) rfl (noGA_post (below_putN HBW.out (show w.heap.size ≤ w.heap.size + 1 by omega) 0 [.slice none 0 0, .int .i64 0, .int .i64 0]))
  · rw [show (grpB tm ld (hs.map rdat) && (hasB n r && (upAt (hs.map rdat) r.toNat == true))) = false by
      rw [Bool.eq_false_iff]
      intro hc
      simp only [Bool.and_eq_true] at hc
      exact hg ⟨hc.1, by unfold isUpB; rw [List.length_map, hn, hc.2.1]; simpa using hc.2.2⟩] at HUP
    rw [electA_no (by
      rcases Bool.eq_false_or_eq_true (grpB tm ld (hs.map rdat)) with h9 | h9
      · exact .inr (by unfold elB; rw [Bool.eq_false_iff.2 (fun h8 => hg ⟨h9, h8⟩)]; rfl)
      · exact .inl h9)]
    clear hg h hm hn
    go_enter Try.func26, Try.ntmps26
    go_wp2_with fail
    (with_reducible refine HUP.out.mono ?_)
    rintro e w1 ⟨rfl, ha1⟩
    have HB1 := Lib.hid (HB0.out.trans (ha1.mono HB0.out.size))
    have ka1 := (ha1.block w.heap.size hza).trans HKA.out
    have kb1 := (ha1.block (w.heap.size + 1) hzb).trans HKB.out
    have hz1 : w.heap.size + 1 < w1.heap.size := Nat.lt_of_lt_of_le hzb ha1.size
    have hz0 : w.heap.size < w1.heap.size := by omega
    have b0 := cell_blk (i := 0) kb1 rfl
    have b1 := cell_blk (i := 1) kb1 rfl
    have b2 := cell_blk (i := 2) kb1 rfl
    have fb := free_all kb1
    clear ha1 ka1 kb1
    go_wp2
    exact bodyPost_ret (v := .tuple #[.agg #[.slice none 0 0, .int .i64 0, .int .i64 0], .bool false]) (by simp [results, Try.results26, go_sem, *]) rfl (noGA_post (below_putN HB1.out (show w.heap.size ≤ w.heap.size + 1 by omega) 0 [.slice none 0 0, .int .i64 0, .int .i64 0]))
end Go.Proofs.Ytnmhigbnlpcedaa.Gr
