/-
  The walk of FnLocks.
-/
import Derived.Test.YtlfdefjkfacngaaLkFm
namespace Go.Proofs.Ytlfdefjkfacngaa.Lk
open Go.RowKit CM Nt
set_option linter.unusedVariables false
set_option linter.unusedSimpArgs false

set_option maxRecDepth 100000 in
set_option maxHeartbeats 64000000 in
theorem fnLocks_walk (w : World) (A : Option Addr) (n c : Nat) (code : List UInt8) (hn : code.length = n) (hA : BytesAt w A code) (hmx : n ≤ maxLen) (B : Option Addr) (n' c' : Nat) (more : List UInt8) (hn' : more.length = n') (hB : BytesAt w B more) (hmx' : n' ≤ maxLen) :
    Calls Try.prog 3 #[.slice A n c, .slice B n' c'] w fun e w' => e = .returned (.bool true) ∧ Below w.heap.size w w' := by
  by_cases h : n + n' ≤ 1048576
  · have HBG := Lib.hid (big_no A B n c n' c' w h)
    have HD1 := Lib.hid (drawAskLock_any A n c code w hn hA (by omega))
    have HD2 := Lib.hid (fun W (hW : Below w.heap.size w W) => drawTakeLock_any B n' c' more W hn' (hB.below hW) (by omega))
    have HD3 := Lib.hid (fun W (hW : Below w.heap.size w W) => drawFreeLocks_any B n' c' more W hn' (hB.below hW) (by omega))
    clear h hn hA hmx hn' hB hmx'
    go_enter Try.func3, Try.ntmps3
    go_wp2_with fail
    refine HBG.out.mono ?_
    rintro e w0 ⟨rfl, rfl⟩
    go_wp2_with fail
    refine HD1.out.mono ?_
    rintro e w1 ⟨A1, ca, L, AF, cf, fs, s, t, g, rfl, ho1, hof1, hL, hfs, hty, hs, hb1⟩
    have HB1 := Lib.hid hb1
    have hz1 := hb1.size
    have HTY := Lib.hid hty
    obtain ⟨m, hm⟩ : ∃ m, m = L.length := ⟨_, rfl⟩
    obtain ⟨nf, hnf⟩ : ∃ nf, nf = fs.length := ⟨_, rfl⟩
    rw [← hm] at hL ⊢
    rw [← hnf] at hfs ⊢
    have HLM := Lib.hid hm.symm
    have HNF := Lib.hid hnf.symm
    have hcap : m ≤ ca := by rw [hm]; exact ho1.cap
    have HL_1 := Lib.hid ho1
    have HF_1 := Lib.hid hof1
    have hbx := below1 w1 (.cells #[.string s, .int .i64 t, .bool g] 27)
    have hkx := heap_alloc_new w1 (.cells #[.string s, .int .i64 t, .bool g] 27)
    obtain ⟨wx, hwx⟩ : ∃ x, x = w1.alloc (.cells #[.string s, .int .i64 t, .bool g] 27) := ⟨_, rfl⟩
    rw [← hwx] at hbx hkx
    clear hm hnf ho1 hof1 hb1 hty
    have HIA := Lib.hid (fun W (ho : OwnK W w.heap.size w1.heap.size A1 ca L) (hh : w1.heap.size ≤ W.heap.size) (ho2 : OwnI W w.heap.size w1.heap.size AF cf fs) => implAskLock_any s t g A1 m ca L W.heap.size W HLM.out hcap (ho.lks.mono hh) (Nat.le_refl _) (ktiny_small HTY.out (by rw [HLM.out]; omega)) AF nf cf fs HNF.out (ho2.ints.mono hh) (by omega) (by omega))
    have HSA := Lib.hid (fun W (ho : OwnK W w.heap.size w1.heap.size A1 ca L) (hh : w1.heap.size ≤ W.heap.size) (ho2 : OwnI W w.heap.size w1.heap.size AF cf fs) => specAskLock_any s t g A1 m ca L W.heap.size W HLM.out hcap (ho.lks.mono hh) (Nat.le_refl _) (ktiny_small HTY.out (by rw [HLM.out]; omega)) AF nf cf fs HNF.out (ho2.ints.mono hh) (by omega) (by omega))
    have HWA := Lib.hid (fun W (ho : OwnK W w.heap.size w1.heap.size A1 ca L) (hh : w1.heap.size ≤ W.heap.size) => implWaitsFor_any s t g A1 m ca L W.heap.size W HLM.out hcap (ho.lks.mono hh) (Nat.le_refl _) (ktiny_small HTY.out (by rw [HLM.out]; omega)) (by omega))
    have HGI := Lib.hid (fun W (ho : OwnK W w.heap.size w1.heap.size A1 ca L) (hh : w1.heap.size ≤ W.heap.size) => implGoodLocks_any A1 m ca L W.heap.size W HLM.out hcap (ho.lks.mono hh) (Nat.le_refl _) (ktiny_small HTY.out (by rw [HLM.out]; omega)))
    have HGS := Lib.hid (fun W (ho : OwnK W w.heap.size w1.heap.size A1 ca L) (hh : w1.heap.size ≤ W.heap.size) => specGoodLocks_any A1 m ca L W.heap.size W HLM.out hcap (ho.lks.mono hh) (Nat.le_refl _) (ktiny_small HTY.out (by rw [HLM.out]; omega)))
    have hal0 := askA_len L fs (s, t, g)
    have hwl0 := waitA_len L (s, t, g)
    obtain ⟨⟨cd, al, ok⟩, hr⟩ : ∃ r, r = askA L fs (s, t, g) := ⟨_, rfl⟩
    obtain ⟨⟨wl, wok⟩, hw⟩ : ∃ r, r = waitA L (s, t, g) := ⟨_, rfl⟩
    obtain ⟨gd, hgd⟩ : ∃ r, r = goodB L := ⟨_, rfl⟩
    simp only [← hr, NAPost_un] at HIA HSA
    simp only [← hw, IAPost_un] at HWA
    simp only [← hgd] at HGI HGS
    rw [← hr, HLM.out] at hal0
    rw [← hw, HLM.out] at hwl0
    simp only at hal0 hwl0
    obtain ⟨a, ha⟩ : ∃ a, a = al.length := ⟨_, rfl⟩
    obtain ⟨q, hq⟩ : ∃ q, q = wl.length := ⟨_, rfl⟩
    simp only [← ha] at HIA HSA
    simp only [← hq] at HWA
    rw [← ha] at hal0
    rw [← hq] at hwl0
    have HAL := Lib.hid ha.symm
    have HQL := Lib.hid hq.symm
    have HASK := Lib.hid hr.symm
    have HWAI := Lib.hid hw.symm
    have HBx := Lib.hid (HB1.out.trans (hbx.mono HB1.out.size))
    have hzx := hbx.size
    have HL_x := Lib.hid (HL_1.out.since hbx (Nat.le_refl _))
    have HF_x := Lib.hid (HF_1.out.since hbx (Nat.le_refl _))
    have bX_x := Lib.hid hkx
    clear hr hw hgd ha hq hbx hkx
    have y0 : wx.cell? ⟨w1.heap.size, 0, none⟩ = some (.string s) := cell_blk (i := 0) bX_x.out rfl
    have y1 : wx.cell? ⟨w1.heap.size, 1, none⟩ = some (.int .i64 t) := cell_blk (i := 1) bX_x.out rfl
    have y2 : wx.cell? ⟨w1.heap.size, 2, none⟩ = some (.bool g) := cell_blk (i := 2) bX_x.out rfl
    have yl := lt_blk bX_x.out
    go_wp2_with fail
    rw [← hwx]
    clear hwx
    refine (HIA.out _ HL_x.out (by omega) HF_x.out).mono ?_
    rintro e w2 ⟨A2, c2, rfl, ho2, hb2⟩
    clear y0 y1 y2 yl
    have HB2 := Lib.hid (HBx.out.trans (hb2.mono HBx.out.size))
    have hz2 := hb2.size
    have HL_2 := Lib.hid (HL_x.out.since hb2 (by omega))
    have HF_2 := Lib.hid (HF_x.out.since hb2 (by omega))
    have bX_2 := Lib.hid ((hb2.block w1.heap.size (lt_blk bX_x.out)).trans bX_x.out)
    clear hb2
    have R2_2 := Lib.hid ho2
    clear ho2
    have y0 : w2.cell? ⟨w1.heap.size, 0, none⟩ = some (.string s) := cell_blk (i := 0) bX_2.out rfl
    have y1 : w2.cell? ⟨w1.heap.size, 1, none⟩ = some (.int .i64 t) := cell_blk (i := 1) bX_2.out rfl
    have y2 : w2.cell? ⟨w1.heap.size, 2, none⟩ = some (.bool g) := cell_blk (i := 2) bX_2.out rfl
    have yl := lt_blk bX_2.out
    go_wp2_with fail
    refine (HSA.out _ HL_2.out (by omega) HF_2.out).mono ?_
    rintro e w3 ⟨A3, c3, rfl, ho3, hb3⟩
    clear y0 y1 y2 yl
    have HB3 := Lib.hid (HB2.out.trans (hb3.mono HB2.out.size))
    have hz3 := hb3.size
    have HL_3 := Lib.hid (HL_2.out.since hb3 (by omega))
    have HF_3 := Lib.hid (HF_2.out.since hb3 (by omega))
    have R2_3 := Lib.hid (R2_2.out.since hb3 (by omega))
    have bX_3 := Lib.hid ((hb3.block w1.heap.size (lt_blk bX_2.out)).trans bX_2.out)
    clear hb3
    have R3_3 := Lib.hid ho3
    clear ho3
    have y0 : w3.cell? ⟨w1.heap.size, 0, none⟩ = some (.string s) := cell_blk (i := 0) bX_3.out rfl
    have y1 : w3.cell? ⟨w1.heap.size, 1, none⟩ = some (.int .i64 t) := cell_blk (i := 1) bX_3.out rfl
    have y2 : w3.cell? ⟨w1.heap.size, 2, none⟩ = some (.bool g) := cell_blk (i := 2) bX_3.out rfl
    have yl := lt_blk bX_3.out
    go_wp2_with fail
    refine (HWA.out _ HL_3.out (by omega)).mono ?_
    rintro e w4 ⟨A4, c4, rfl, ho4, hb4⟩
    clear y0 y1 y2 yl
    have HB4 := Lib.hid (HB3.out.trans (hb4.mono HB3.out.size))
    have hz4 := hb4.size
    have HL_4 := Lib.hid (HL_3.out.since hb4 (by omega))
    have HF_4 := Lib.hid (HF_3.out.since hb4 (by omega))
    have R2_4 := Lib.hid (R2_3.out.since hb4 (by omega))
    have R3_4 := Lib.hid (R3_3.out.since hb4 (by omega))
    have bX_4 := Lib.hid ((hb4.block w1.heap.size (lt_blk bX_3.out)).trans bX_3.out)
    clear hb4
    have R4_4 := Lib.hid ho4
    clear ho4
    have HSI := Lib.hid (sameInts_any A2 A3 a c2 c3 al w4.heap.size w4 HAL.out (R2_4.out.ints.mono (by omega)) (R3_4.out.ints.mono (by omega)) (Nat.le_refl _) (by omega))
    cases ok with
    | false =>
      go_wp2_with fail
      refine (HSI.out).mono ?_
      rintro e w5 ⟨rfl, hb5⟩
      have HB5 := Lib.hid (HB4.out.trans (hb5.mono HB4.out.size))
      have hz5 := hb5.size
      have HL_5 := Lib.hid (HL_4.out.since hb5 (by omega))
      have HF_5 := Lib.hid (HF_4.out.since hb5 (by omega))
      have R2_5 := Lib.hid (R2_4.out.since hb5 (by omega))
      have R3_5 := Lib.hid (R3_4.out.since hb5 (by omega))
      have R4_5 := Lib.hid (R4_4.out.since hb5 (by omega))
      have bX_5 := Lib.hid ((hb5.block w1.heap.size (lt_blk bX_4.out)).trans bX_4.out)
      clear hb5
      go_wp2_with fail
      refine (HGI.out _ HL_5.out (by omega)).mono ?_
      rintro e w6 ⟨rfl, hb6⟩
      have HB6 := Lib.hid (HB5.out.trans (hb6.mono HB5.out.size))
      have hz6 := hb6.size
      have HL_6 := Lib.hid (HL_5.out.since hb6 (by omega))
      have HF_6 := Lib.hid (HF_5.out.since hb6 (by omega))
      have R2_6 := Lib.hid (R2_5.out.since hb6 (by omega))
      have R4_6 := Lib.hid (R4_5.out.since hb6 (by omega))
      have bX_6 := Lib.hid ((hb6.block w1.heap.size (lt_blk bX_5.out)).trans bX_5.out)
      clear hb6
      go_wp2_with fail
      refine (HGS.out _ HL_6.out (by omega)).mono ?_
      rintro e w7 ⟨rfl, hb7⟩
      have HB7 := Lib.hid (HB6.out.trans (hb7.mono HB6.out.size))
      have hz7 := hb7.size
      have HL_7 := Lib.hid (HL_6.out.since hb7 (by omega))
      have HF_7 := Lib.hid (HF_6.out.since hb7 (by omega))
      have R2_7 := Lib.hid (R2_6.out.since hb7 (by omega))
      have R4_7 := Lib.hid (R4_6.out.since hb7 (by omega))
      have bX_7 := Lib.hid ((hb7.block w1.heap.size (lt_blk bX_6.out)).trans bX_6.out)
      clear hb7
      go_wp2_with fail
      refine (HD2.out _ HB7.out).mono ?_
      rintro e w40 ⟨A2, ca2, L2, s2, t2, g2, rfl, ho40, hL2, hty2, hs2, hb40⟩
      have HB40 := Lib.hid (HB7.out.trans (hb40.mono HB7.out.size))
      have hz40 := hb40.size
      clear hb40
      have L2_40 := Lib.hid ho40
      clear ho40
      have HTY2 := Lib.hid hty2
      obtain ⟨m2, hm2⟩ : ∃ m2, m2 = L2.length := ⟨_, rfl⟩
      rw [← hm2] at hL2 ⊢
      have HM2 := Lib.hid hm2.symm
      have hcap2 : m2 ≤ ca2 := by rw [hm2]; exact L2_40.out.cap
      clear hm2 hty2
      have hb41 := below1 w40 (.cells #[.string s2, .int .i64 t2, .bool g2] 27)
      have hky := heap_alloc_new w40 (.cells #[.string s2, .int .i64 t2, .bool g2] 27)
      obtain ⟨w41, hw41⟩ : ∃ x, x = w40.alloc (.cells #[.string s2, .int .i64 t2, .bool g2] 27) := ⟨_, rfl⟩
      rw [← hw41] at hb41 hky
      have HB41 := Lib.hid (HB40.out.trans (hb41.mono HB40.out.size))
      have hz41 := hb41.size
      have L2_41 := Lib.hid (L2_40.out.since hb41 (by omega))
      clear hb41
      have bY_41 := Lib.hid hky
      clear hky
      have HIT := Lib.hid (fun W (ho : OwnK W w7.heap.size w40.heap.size A2 ca2 L2) (hh : w40.heap.size ≤ W.heap.size) => implTakeLock_any s2 t2 g2 A2 m2 ca2 L2 W.heap.size W HM2.out hcap2 (ho.lks.mono hh) (Nat.le_refl _) (ktiny_small HTY2.out (by rw [HM2.out]; omega)) (by omega))
      have HST := Lib.hid (fun W (ho : OwnK W w7.heap.size w40.heap.size A2 ca2 L2) (hh : w40.heap.size ≤ W.heap.size) => specTakeLock_any s2 t2 g2 A2 m2 ca2 L2 W.heap.size W HM2.out hcap2 (ho.lks.mono hh) (Nat.le_refl _) (ktiny_small HTY2.out (by rw [HM2.out]; omega)) (by omega))
      have HTL := Lib.hid (takeA_len L2 (s2, t2, g2))
      obtain ⟨⟨tk, tok⟩, htk⟩ : ∃ r, r = takeA L2 (s2, t2, g2) := ⟨_, rfl⟩
      simp only [← htk, KAPost_un] at HIT HST HTL
      obtain ⟨mt, hmt⟩ : ∃ mt, mt = tk.length := ⟨_, rfl⟩
      simp only [← hmt] at HIT HST HTL
      have HMT := Lib.hid hmt.symm
      have hmtb : mt ≤ 60 := HTL.out
      clear htk hmt HTL
      have y0 : w41.cell? ⟨w40.heap.size, 0, none⟩ = some (.string s2) := cell_blk (i := 0) bY_41.out rfl
      have y1 : w41.cell? ⟨w40.heap.size, 1, none⟩ = some (.int .i64 t2) := cell_blk (i := 1) bY_41.out rfl
      have y2 : w41.cell? ⟨w40.heap.size, 2, none⟩ = some (.bool g2) := cell_blk (i := 2) bY_41.out rfl
      have yl := lt_blk bY_41.out
      go_wp2_with fail
      rw [← hw41]
      clear hw41
      refine (HIT.out _ L2_41.out (by omega)).mono ?_
      rintro e w42 ⟨A5, c5, rfl, ho42, hb42⟩
      clear y0 y1 y2 yl
      have HB42 := Lib.hid (HB41.out.trans (hb42.mono HB41.out.size))
      have hz42 := hb42.size
      have L2_42 := Lib.hid (L2_41.out.since hb42 (by omega))
      have bY_42 := Lib.hid ((hb42.block w40.heap.size (lt_blk bY_41.out)).trans bY_41.out)
      clear hb42
      have T1_42 := Lib.hid ho42
      clear ho42
      have y0 : w42.cell? ⟨w40.heap.size, 0, none⟩ = some (.string s2) := cell_blk (i := 0) bY_42.out rfl
      have y1 : w42.cell? ⟨w40.heap.size, 1, none⟩ = some (.int .i64 t2) := cell_blk (i := 1) bY_42.out rfl
      have y2 : w42.cell? ⟨w40.heap.size, 2, none⟩ = some (.bool g2) := cell_blk (i := 2) bY_42.out rfl
      have yl := lt_blk bY_42.out
      go_wp2_with fail
      refine (HST.out _ L2_42.out (by omega)).mono ?_
      rintro e w43 ⟨A6, c6, rfl, ho43, hb43⟩
      clear y0 y1 y2 yl
      have HB43 := Lib.hid (HB42.out.trans (hb43.mono HB42.out.size))
      have hz43 := hb43.size
      have L2_43 := Lib.hid (L2_42.out.since hb43 (by omega))
      have T1_43 := Lib.hid (T1_42.out.since hb43 (by omega))
      have bY_43 := Lib.hid ((hb43.block w40.heap.size (lt_blk bY_42.out)).trans bY_42.out)
      clear hb43
      have T2_43 := Lib.hid ho43
      clear ho43
      go_wp2_with fail
      refine (HD3.out _ HB43.out).mono ?_
      rintro e w44 ⟨A3, ca3, L3, v3, rfl, ho44, hL3, hty3, hb44⟩
      have HB44 := Lib.hid (HB43.out.trans (hb44.mono HB43.out.size))
      have hz44 := hb44.size
      have T1_44 := Lib.hid (T1_43.out.since hb44 (by omega))
      have T2_44 := Lib.hid (T2_43.out.since hb44 (by omega))
      clear hb44
      have L3_44 := Lib.hid ho44
      clear ho44
      have HTY3 := Lib.hid hty3
      obtain ⟨m3, hm3⟩ : ∃ m3, m3 = L3.length := ⟨_, rfl⟩
      rw [← hm3] at hL3 ⊢
      have HM3 := Lib.hid hm3.symm
      have hcap3 : m3 ≤ ca3 := by rw [hm3]; exact L3_44.out.cap
      clear hm3 hty3
      have HIF := Lib.hid (fun W (ho : OwnK W w43.heap.size w44.heap.size A3 ca3 L3) (hh : w44.heap.size ≤ W.heap.size) => implFreeLocks_any v3 A3 m3 ca3 L3 W.heap.size W HM3.out hcap3 (ho.lks.mono hh) (Nat.le_refl _) (ktiny_small HTY3.out (by rw [HM3.out]; omega)))
      have HSF := Lib.hid (fun W (ho : OwnK W w43.heap.size w44.heap.size A3 ca3 L3) (hh : w44.heap.size ≤ W.heap.size) => specFreeLocks_any v3 A3 m3 ca3 L3 W.heap.size W HM3.out hcap3 (ho.lks.mono hh) (Nat.le_refl _) (ktiny_small HTY3.out (by rw [HM3.out]; omega)))
      have HIO := Lib.hid (fun W (ho : OwnK W w43.heap.size w44.heap.size A3 ca3 L3) (hh : w44.heap.size ≤ W.heap.size) => implLocksOf_any v3 A3 m3 ca3 L3 W.heap.size W HM3.out hcap3 (ho.lks.mono hh) (Nat.le_refl _) (ktiny_small HTY3.out (by rw [HM3.out]; omega)))
      have HSO := Lib.hid (fun W (ho : OwnK W w43.heap.size w44.heap.size A3 ca3 L3) (hh : w44.heap.size ≤ W.heap.size) => specLocksOf_any v3 A3 m3 ca3 L3 W.heap.size W HM3.out hcap3 (ho.lks.mono hh) (Nat.le_refl _) (ktiny_small HTY3.out (by rw [HM3.out]; omega)))
      have hparts : (freeA L3 v3).2 = true → (freeA L3 v3).1.length + (ofA L3 v3).1.length = m3 := by
        intro h
        have e := part_len L3 v3
        rw [HM3.out] at e
        unfold freeA ofA at *
        split at h
        · next hc => rw [if_pos hc, if_pos hc]; exact e
        · cases h
      have hfl : (freeA L3 v3).1.length ≤ m3 := by rw [← HM3.out]; exact freeA_len _ _
      have hol : (ofA L3 v3).1.length ≤ m3 := by rw [← HM3.out]; exact ofA_len _ _
      obtain ⟨⟨fl, fok⟩, hfa⟩ : ∃ r, r = freeA L3 v3 := ⟨_, rfl⟩
      obtain ⟨⟨ol, ook⟩, hoa⟩ : ∃ r, r = ofA L3 v3 := ⟨_, rfl⟩
      simp only [← hfa, ← hoa] at hparts hfl hol
      simp only [← hfa, KAPost_un] at HIF HSF
      simp only [← hoa, KAPost_un] at HIO HSO
      obtain ⟨p1, hp1⟩ : ∃ p1, p1 = fl.length := ⟨_, rfl⟩
      obtain ⟨p2, hp2⟩ : ∃ p2, p2 = ol.length := ⟨_, rfl⟩
      simp only [← hp1] at HIF HSF hparts hfl
      simp only [← hp2] at HIO HSO hparts hol
      have HP1 := Lib.hid hp1.symm
      have HP2 := Lib.hid hp2.symm
      have HPT := Lib.hid hparts
      clear hfa hoa hp1 hp2 hparts
      cases fok with
      | false =>
        go_wp2_with fail
        refine (HIF.out _ L3_44.out (by omega)).mono ?_
        rintro e w45 ⟨A7, c7, rfl, ho45, hb45⟩
        have HB45 := Lib.hid (HB44.out.trans (hb45.mono HB44.out.size))
        have hz45 := hb45.size
        have T1_45 := Lib.hid (T1_44.out.since hb45 (by omega))
        have T2_45 := Lib.hid (T2_44.out.since hb45 (by omega))
        have L3_45 := Lib.hid (L3_44.out.since hb45 (by omega))
        clear hb45
        have F1_45 := Lib.hid ho45
        clear ho45
        go_wp2_with fail
        refine (HSF.out _ L3_45.out (by omega)).mono ?_
        rintro e w46 ⟨A8, c8, rfl, ho46, hb46⟩
        have HB46 := Lib.hid (HB45.out.trans (hb46.mono HB45.out.size))
        have hz46 := hb46.size
        have T1_46 := Lib.hid (T1_45.out.since hb46 (by omega))
        have T2_46 := Lib.hid (T2_45.out.since hb46 (by omega))
        have L3_46 := Lib.hid (L3_45.out.since hb46 (by omega))
        have F1_46 := Lib.hid (F1_45.out.since hb46 (by omega))
        clear hb46
        have F2_46 := Lib.hid ho46
        clear ho46
        go_wp2_with fail
        refine (HIO.out _ L3_46.out (by omega)).mono ?_
        rintro e w47 ⟨A9, c9, rfl, ho47, hb47⟩
        have HB47 := Lib.hid (HB46.out.trans (hb47.mono HB46.out.size))
        have hz47 := hb47.size
        have T1_47 := Lib.hid (T1_46.out.since hb47 (by omega))
        have T2_47 := Lib.hid (T2_46.out.since hb47 (by omega))
        have L3_47 := Lib.hid (L3_46.out.since hb47 (by omega))
        have F1_47 := Lib.hid (F1_46.out.since hb47 (by omega))
        have F2_47 := Lib.hid (F2_46.out.since hb47 (by omega))
        clear hb47
        have O1_47 := Lib.hid ho47
        clear ho47
        go_wp2_with fail
        refine (HSO.out _ L3_47.out (by omega)).mono ?_
        rintro e w48 ⟨A10, c10, rfl, ho48, hb48⟩
        have HB48 := Lib.hid (HB47.out.trans (hb48.mono HB47.out.size))
        have hz48 := hb48.size
        have T1_48 := Lib.hid (T1_47.out.since hb48 (by omega))
        have T2_48 := Lib.hid (T2_47.out.since hb48 (by omega))
        have L3_48 := Lib.hid (L3_47.out.since hb48 (by omega))
        have F1_48 := Lib.hid (F1_47.out.since hb48 (by omega))
        have F2_48 := Lib.hid (F2_47.out.since hb48 (by omega))
        have O1_48 := Lib.hid (O1_47.out.since hb48 (by omega))
        clear hb48
        have O2_48 := Lib.hid ho48
        clear ho48
        have HE49 := Lib.hid (pSame_any A5 A6 mt c5 c6 tk w48.heap.size w48 HMT.out (T1_48.out.lks.mono (by omega)) (T2_48.out.lks.mono (by omega)) (Nat.le_refl _) (by omega))
        go_wp2_with fail
        refine (HE49.out).mono ?_
        rintro e w49 ⟨rfl, hb49⟩
        have HB49 := Lib.hid (HB48.out.trans (hb49.mono HB48.out.size))
        have hz49 := hb49.size
        have T1_49 := Lib.hid (T1_48.out.since hb49 (by omega))
        have T2_49 := Lib.hid (T2_48.out.since hb49 (by omega))
        have F1_49 := Lib.hid (F1_48.out.since hb49 (by omega))
        have F2_49 := Lib.hid (F2_48.out.since hb49 (by omega))
        have O1_49 := Lib.hid (O1_48.out.since hb49 (by omega))
        have O2_49 := Lib.hid (O2_48.out.since hb49 (by omega))
        clear hb49
        have HE50 := Lib.hid (pSame_any A7 A8 p1 c7 c8 fl w49.heap.size w49 HP1.out (F1_49.out.lks.mono (by omega)) (F2_49.out.lks.mono (by omega)) (Nat.le_refl _) (by omega))
        go_wp2_with fail
        refine (HE50.out).mono ?_
        rintro e w50 ⟨rfl, hb50⟩
        have HB50 := Lib.hid (HB49.out.trans (hb50.mono HB49.out.size))
        have hz50 := hb50.size
        have F1_50 := Lib.hid (F1_49.out.since hb50 (by omega))
        have F2_50 := Lib.hid (F2_49.out.since hb50 (by omega))
        have O1_50 := Lib.hid (O1_49.out.since hb50 (by omega))
        have O2_50 := Lib.hid (O2_49.out.since hb50 (by omega))
        clear hb50
        have HE51 := Lib.hid (pSame_any A9 A10 p2 c9 c10 ol w50.heap.size w50 HP2.out (O1_50.out.lks.mono (by omega)) (O2_50.out.lks.mono (by omega)) (Nat.le_refl _) (by omega))
        go_wp2_with fail
        refine (HE51.out).mono ?_
        rintro e w51 ⟨rfl, hb51⟩
        have HB51 := Lib.hid (HB50.out.trans (hb51.mono HB50.out.size))
        have hz51 := hb51.size
        have O1_51 := Lib.hid (O1_50.out.since hb51 (by omega))
        have O2_51 := Lib.hid (O2_50.out.since hb51 (by omega))
        clear hb51
        go_wp2
        go_ret
        exact ⟨rfl, HB51.out⟩
      | true =>
        have hsum : p1 + p2 = m3 := HPT.out rfl
        have hsumi : ((p1 : Int) + (p2 : Int) == (m3 : Int)) = true := by rw [beq_iff_eq]; omega
        have hsumi2 : (p1 : Int) + (p2 : Int) = (m3 : Int) := by omega
        clear hsumi2
        obtain rfl : m3 = p1 + p2 := by omega
        clear hsum
        go_wp2_with fail
        refine (HIF.out _ L3_44.out (by omega)).mono ?_
        rintro e w45 ⟨A7, c7, rfl, ho45, hb45⟩
        have HB45 := Lib.hid (HB44.out.trans (hb45.mono HB44.out.size))
        have hz45 := hb45.size
        have T1_45 := Lib.hid (T1_44.out.since hb45 (by omega))
        have T2_45 := Lib.hid (T2_44.out.since hb45 (by omega))
        have L3_45 := Lib.hid (L3_44.out.since hb45 (by omega))
        clear hb45
        have F1_45 := Lib.hid ho45
        clear ho45
        go_wp2_with fail
        refine (HSF.out _ L3_45.out (by omega)).mono ?_
        rintro e w46 ⟨A8, c8, rfl, ho46, hb46⟩
        have HB46 := Lib.hid (HB45.out.trans (hb46.mono HB45.out.size))
        have hz46 := hb46.size
        have T1_46 := Lib.hid (T1_45.out.since hb46 (by omega))
        have T2_46 := Lib.hid (T2_45.out.since hb46 (by omega))
        have L3_46 := Lib.hid (L3_45.out.since hb46 (by omega))
        have F1_46 := Lib.hid (F1_45.out.since hb46 (by omega))
        clear hb46
        have F2_46 := Lib.hid ho46
        clear ho46
        go_wp2_with fail
        refine (HIO.out _ L3_46.out (by omega)).mono ?_
        rintro e w47 ⟨A9, c9, rfl, ho47, hb47⟩
        have HB47 := Lib.hid (HB46.out.trans (hb47.mono HB46.out.size))
        have hz47 := hb47.size
        have T1_47 := Lib.hid (T1_46.out.since hb47 (by omega))
        have T2_47 := Lib.hid (T2_46.out.since hb47 (by omega))
        have L3_47 := Lib.hid (L3_46.out.since hb47 (by omega))
        have F1_47 := Lib.hid (F1_46.out.since hb47 (by omega))
        have F2_47 := Lib.hid (F2_46.out.since hb47 (by omega))
        clear hb47
        have O1_47 := Lib.hid ho47
        clear ho47
        go_wp2_with fail
        refine (HSO.out _ L3_47.out (by omega)).mono ?_
        rintro e w48 ⟨A10, c10, rfl, ho48, hb48⟩
        have HB48 := Lib.hid (HB47.out.trans (hb48.mono HB47.out.size))
        have hz48 := hb48.size
        have T1_48 := Lib.hid (T1_47.out.since hb48 (by omega))
        have T2_48 := Lib.hid (T2_47.out.since hb48 (by omega))
        have L3_48 := Lib.hid (L3_47.out.since hb48 (by omega))
        have F1_48 := Lib.hid (F1_47.out.since hb48 (by omega))
        have F2_48 := Lib.hid (F2_47.out.since hb48 (by omega))
        have O1_48 := Lib.hid (O1_47.out.since hb48 (by omega))
        clear hb48
        have O2_48 := Lib.hid ho48
        clear ho48
        have HE49 := Lib.hid (pSame_any A5 A6 mt c5 c6 tk w48.heap.size w48 HMT.out (T1_48.out.lks.mono (by omega)) (T2_48.out.lks.mono (by omega)) (Nat.le_refl _) (by omega))
        go_wp2_with fail
        refine (HE49.out).mono ?_
        rintro e w49 ⟨rfl, hb49⟩
        have HB49 := Lib.hid (HB48.out.trans (hb49.mono HB48.out.size))
        have hz49 := hb49.size
        have T1_49 := Lib.hid (T1_48.out.since hb49 (by omega))
        have T2_49 := Lib.hid (T2_48.out.since hb49 (by omega))
        have F1_49 := Lib.hid (F1_48.out.since hb49 (by omega))
        have F2_49 := Lib.hid (F2_48.out.since hb49 (by omega))
        have O1_49 := Lib.hid (O1_48.out.since hb49 (by omega))
        have O2_49 := Lib.hid (O2_48.out.since hb49 (by omega))
        clear hb49
        have HE50 := Lib.hid (pSame_any A7 A8 p1 c7 c8 fl w49.heap.size w49 HP1.out (F1_49.out.lks.mono (by omega)) (F2_49.out.lks.mono (by omega)) (Nat.le_refl _) (by omega))
        go_wp2_with fail
        refine (HE50.out).mono ?_
        rintro e w50 ⟨rfl, hb50⟩
        have HB50 := Lib.hid (HB49.out.trans (hb50.mono HB49.out.size))
        have hz50 := hb50.size
        have F1_50 := Lib.hid (F1_49.out.since hb50 (by omega))
        have F2_50 := Lib.hid (F2_49.out.since hb50 (by omega))
        have O1_50 := Lib.hid (O1_49.out.since hb50 (by omega))
        have O2_50 := Lib.hid (O2_49.out.since hb50 (by omega))
        clear hb50
        have HE51 := Lib.hid (pSame_any A9 A10 p2 c9 c10 ol w50.heap.size w50 HP2.out (O1_50.out.lks.mono (by omega)) (O2_50.out.lks.mono (by omega)) (Nat.le_refl _) (by omega))
        go_wp2_with fail
        refine (HE51.out).mono ?_
        rintro e w51 ⟨rfl, hb51⟩
        have HB51 := Lib.hid (HB50.out.trans (hb51.mono HB50.out.size))
        have hz51 := hb51.size
        have O1_51 := Lib.hid (O1_50.out.since hb51 (by omega))
        have O2_51 := Lib.hid (O2_50.out.since hb51 (by omega))
        clear hb51
        go_wp2
        go_ret
        exact ⟨rfl, HB51.out⟩
    | true =>
      obtain ⟨hg1, hl1, _⟩ := ask_ok HASK.out
      have hwa : waitA L (s, t, g) = (waitsL L (s, t, g), true) := by unfold waitA; rw [hg1, hl1]; rfl
      have hwe := HWAI.out
      rw [hwa] at hwe
      simp only [Prod.mk.injEq] at hwe
      obtain ⟨hwe1, hwe2⟩ := hwe
      subst hwe2
      have HWL := Lib.hid hwe1
      have HG1 := Lib.hid hg1
      have HL1 := Lib.hid hl1
      have HGV := Lib.hid (show (cd == 1) = ((q : Int) == 0) by rw [given HASK.out, hwe1, HQL.out])
      have HWO := Lib.hid (wounds HASK.out)
      clear hg1 hl1 hwa hwe1
      obtain ⟨b0, hb0⟩ : ∃ b0, b0 = ((q : Int) == 0) := ⟨_, rfl⟩
      have hq0b : ((q : Int) == 0) = b0 := hb0.symm
      have hcd1 : (cd == 1) = b0 := by rw [hb0]; exact HGV.out
      have hq0d : decide ((q : Int) = 0) = b0 := by rw [hb0]; rfl
      have hcd1d : decide (cd = 1) = b0 := by rw [← hcd1]; rfl
      clear hb0
      go_wp2_with fail
      refine (HSI.out).mono ?_
      rintro e w5 ⟨rfl, hb5⟩
      have HB5 := Lib.hid (HB4.out.trans (hb5.mono HB4.out.size))
      have hz5 := hb5.size
      have HL_5 := Lib.hid (HL_4.out.since hb5 (by omega))
      have HF_5 := Lib.hid (HF_4.out.since hb5 (by omega))
      have R2_5 := Lib.hid (R2_4.out.since hb5 (by omega))
      have R3_5 := Lib.hid (R3_4.out.since hb5 (by omega))
      have R4_5 := Lib.hid (R4_4.out.since hb5 (by omega))
      have bX_5 := Lib.hid ((hb5.block w1.heap.size (lt_blk bX_4.out)).trans bX_4.out)
      clear hb5
      go_wp2_with fail
      refine (HGI.out _ HL_5.out (by omega)).mono ?_
      rintro e w6 ⟨rfl, hb6⟩
      have HB6 := Lib.hid (HB5.out.trans (hb6.mono HB5.out.size))
      have hz6 := hb6.size
      have HL_6 := Lib.hid (HL_5.out.since hb6 (by omega))
      have HF_6 := Lib.hid (HF_5.out.since hb6 (by omega))
      have R2_6 := Lib.hid (R2_5.out.since hb6 (by omega))
      have R4_6 := Lib.hid (R4_5.out.since hb6 (by omega))
      have bX_6 := Lib.hid ((hb6.block w1.heap.size (lt_blk bX_5.out)).trans bX_5.out)
      clear hb6
      go_wp2_with fail
      refine (HGS.out _ HL_6.out (by omega)).mono ?_
      rintro e w7 ⟨rfl, hb7⟩
      have HB7 := Lib.hid (HB6.out.trans (hb7.mono HB6.out.size))
      have hz7 := hb7.size
      have HL_7 := Lib.hid (HL_6.out.since hb7 (by omega))
      have HF_7 := Lib.hid (HF_6.out.since hb7 (by omega))
      have R2_7 := Lib.hid (R2_6.out.since hb7 (by omega))
      have R4_7 := Lib.hid (R4_6.out.since hb7 (by omega))
      have bX_7 := Lib.hid ((hb7.block w1.heap.size (lt_blk bX_6.out)).trans bX_6.out)
      clear hb7
      go_wp2
      clear hq0b hcd1 hq0d hcd1d
      go_loopw [109] (fun i wr => ∃ k : Nat, k ≤ a ∧ i = .int .i64 k ∧ Hid (Below w7.heap.size w7 wr)) (fun i _ => a - (intOf i).toNat)
      case atStart => exact ⟨0, by omega, rfl, Lib.hid (Below.refl _ _)⟩
      case round =>
        obtain ⟨k, hk, rfl, HBR⟩ := hrel
        obtain ⟨w8, rfl⟩ : ∃ x, x = wr := ⟨wr, rfl⟩
        have hb8 := HBR.out
        have HB8 := Lib.hid (HB7.out.trans (hb8.mono HB7.out.size))
        have hz8 := hb8.size
        have HL_8 := Lib.hid (HL_7.out.since hb8 (by omega))
        have HF_8 := Lib.hid (HF_7.out.since hb8 (by omega))
        have R2_8 := Lib.hid (R2_7.out.since hb8 (by omega))
        have R4_8 := Lib.hid (R4_7.out.since hb8 (by omega))
        have bX_8 := Lib.hid ((hb8.block w1.heap.size (lt_blk bX_7.out)).trans bX_7.out)
        clear hb8
        by_cases hlt : k < a
        · have z1 : w8.cell? ⟨w1.heap.size, 1, none⟩ = some (.int .i64 t) := cell_blk (i := 1) bX_8.out rfl
          have zl := lt_blk bX_8.out
          obtain ⟨b, off, rfl, hbB, hc⟩ := R2_8.out.ints.get (by rw [HAL.out]; omega)
          have c0 := hc k (by rw [HAL.out]; omega)
          have hk0 : (0 : Int) ≤ (k : Int) := by omega
          have hkn : (k : Int) < (a : Int) := by omega
          have hwo := HWO.out _ (List.getElem_mem (show k < al.length by rw [HAL.out]; omega))
          obtain ⟨y, hy⟩ : ∃ y, y = al[k]'(by rw [HAL.out]; omega) := ⟨_, rfl⟩
          rw [← hy] at c0 hwo
          obtain ⟨hyt, hyf⟩ := hwo
          try simp only at hyt
          have hyd : decide (y ≤ t) = false := by simp; omega
          have HHA := Lib.hid (hasL_any y AF nf cf fs w8.heap.size w8 HNF.out (HF_8.out.ints.mono (by omega)) (by omega))
          rw [hyf] at HHA
          clear hc hy hyf
          go_wp2_with fail
          refine HHA.out.mono ?_
          rintro e w9 ⟨rfl, rfl⟩
          go_wp2
          go_roundw
          case rel => exact ⟨k + 1, by omega, by go_num, HBR⟩
          case measure => simp [intOf]; omega
        · clear HBR
          obtain ⟨b2, hb2⟩ : ∃ b2, b2 = (cd == 2) := ⟨_, rfl⟩
          have hcd2 : (cd == 2) = b2 := hb2.symm
          have hcd2d : decide (cd = 2) = b2 := by rw [hb2]; rfl
          clear hb2
          cases b2 with
          | false =>
            have HFA0 := Lib.hid (show L = freeAll L (wl.take 0) from rfl)
            have HO0 := Lib.hid (OwnK.wider HL_8.out (Nat.le_refl _) (show w1.heap.size ≤ w8.heap.size by omega))
            go_wp2
            go_loopw [21, 149] (fun v i wr => ∃ (k mf : Nat) (Af : Option Addr) (cF : Nat) (F : List LK), k ≤ q ∧ i = .int .i64 k ∧ v = .slice Af mf cF ∧ Hid (F = freeAll L (wl.take k)) ∧ Hid (F.length = mf) ∧ Hid (OwnK wr w.heap.size wr.heap.size Af cF F) ∧ Hid (Below w8.heap.size w8 wr)) (fun _ i _ => q - (intOf i).toNat)
            case atStart => exact ⟨0, m, A1, ca, L, by omega, rfl, rfl, HFA0, HLM, HO0, Lib.hid (Below.refl _ _)⟩
            case round =>
              clear HFA0 HO0
              obtain ⟨k, mf, Af, cF, F, hk, rfl, rfl, HFE, HFM, HFO, HBR⟩ := hrel
              obtain ⟨w30, rfl⟩ : ∃ x, x = wr := ⟨wr, rfl⟩
              have hb30 := HBR.out
              have HB30 := Lib.hid (HB8.out.trans (hb30.mono HB8.out.size))
              have hz30 := hb30.size
              have R4_30 := Lib.hid (R4_8.out.since hb30 (by omega))
              have bX_30 := Lib.hid ((hb30.block w1.heap.size (lt_blk bX_8.out)).trans bX_8.out)
              clear hb30
              have hmf8 : mf ≤ 8 := by rw [← HFM.out, HFE.out]; exact Nat.le_trans len_freeAll (by rw [HLM.out]; exact hL)
              have HFY := Lib.hid (show KTiny F by rw [HFE.out]; exact tiny_freeAll HTY.out)
              have HFG := Lib.hid (show goodB F = true by rw [HFE.out]; exact good_freeAll HG1.out)
              have hcapF : mf ≤ cF := by rw [← HFM.out]; exact HFO.out.cap
              by_cases hlt : k < q
              · obtain ⟨b, off, rfl, hbB, hc⟩ := R4_30.out.ints.get (by rw [HQL.out]; omega)
                have c0 := hc k (by rw [HQL.out]; omega)
                have hk0 : (0 : Int) ≤ (k : Int) := by omega
                have hkn : (k : Int) < (q : Int) := by omega
                have hin := waits_txn (x := (s, t, g)) (v := wl[k]'(by rw [HQL.out]; omega)) HG1.out (by rw [HWL.out]; exact List.getElem_mem _)
                have HTS := Lib.hid (show wl.take (k + 1) = wl.take k ++ [wl[k]'(by rw [HQL.out]; omega)] from List.take_succ_eq_append_getElem _)
                obtain ⟨y, hy⟩ : ∃ y, y = wl[k]'(by rw [HQL.out]; omega) := ⟨_, rfl⟩
                rw [← hy] at c0 hin HTS
                have HFR := Lib.hid (implFreeLocks_any y Af mf cF F w30.heap.size w30 HFM.out hcapF HFO.out.lks (Nat.le_refl _) (ktiny_small HFY.out (by rw [HFM.out]; omega)))
                rw [free_is HFG.out hin, KAPost_un] at HFR
                have HFE2 := Lib.hid (show F.filter (partB y false) = freeAll L (wl.take (k + 1)) by rw [HTS.out, freeAll_snoc, ← HFE.out])
                obtain ⟨m4, hm4⟩ : ∃ m4, m4 = (F.filter (partB y false)).length := ⟨_, rfl⟩
                simp only [← hm4] at HFR
                have HM4 := Lib.hid hm4.symm
                clear hc hy hin hm4
                go_wp2_with fail
                refine HFR.out.mono ?_
                rintro e w31 ⟨A5, c5, rfl, ho5, hb31⟩
                have HO5 := Lib.hid (OwnK.wider ho5 (show w.heap.size ≤ w30.heap.size from HB30.out.size) (Nat.le_refl _))
                have HBR5 := Lib.hid (HBR.out.trans (hb31.mono HBR.out.size))
                clear ho5 hb31
                go_wp2
                go_roundw
                case rel => exact ⟨k + 1, m4, A5, c5, F.filter (partB y false), by omega, by go_num, rfl, HFE2, HM4, HO5, HBR5⟩
                case measure => simp [intOf]; omega
              · have hkq : k = q := by omega
                have HFE3 := Lib.hid (show F = freeAll L (waitsL L (s, t, g)) by rw [HFE.out, HWL.out, List.take_of_length_le (by rw [HQL.out]; omega)])
                subst hkq
                have HTF := Lib.hid (show takeA F (s, t, g) = (takeL F (s, t, g), true) ∧ goodB (takeL F (s, t, g)) = true by rw [HFE3.out]; exact take_frees HG1.out HL1.out (by rw [HLM.out]; exact hL))
                have HTK := Lib.hid (implTakeLock_any s t g Af mf cF F w30.heap.size w30 HFM.out hcapF HFO.out.lks (Nat.le_refl _) (ktiny_small HFY.out (by rw [HFM.out]; omega)) (by omega))
                rw [HTF.out.1, KAPost_un] at HTK
                have htb := take_len F (s, t, g)
                rw [HFM.out] at htb
                have HTYT := Lib.hid (ktiny_take (x := (s, t, g)) HFY.out hs)
                have HGT := Lib.hid HTF.out.2
                obtain ⟨TT, hTT⟩ : ∃ TT, TT = takeL F (s, t, g) := ⟨_, rfl⟩
                rw [← hTT] at HTK htb HTYT HGT
                obtain ⟨m6, hm6⟩ : ∃ m6, m6 = TT.length := ⟨_, rfl⟩
                rw [← hm6] at htb
                simp only [← hm6] at HTK
                have HM6 := Lib.hid hm6.symm
                clear hTT hm6
                have y0 : w30.cell? ⟨w1.heap.size, 0, none⟩ = some (.string s) := cell_blk (i := 0) bX_30.out rfl
                have y1 : w30.cell? ⟨w1.heap.size, 1, none⟩ = some (.int .i64 t) := cell_blk (i := 1) bX_30.out rfl
                have y2 : w30.cell? ⟨w1.heap.size, 2, none⟩ = some (.bool g) := cell_blk (i := 2) bX_30.out rfl
                have yl := lt_blk bX_30.out
                go_wp2_with fail
                refine HTK.out.mono ?_
                rintro e w32 ⟨A6, c6, rfl, ho6, hb32⟩
                clear y0 y1 y2 yl
                have HB32 := Lib.hid (HB30.out.trans (hb32.mono HB30.out.size))
                have hz32 := hb32.size
                have HGG := Lib.hid (implGoodLocks_any A6 m6 c6 TT w32.heap.size w32 HM6.out (by rw [← HM6.out]; exact ho6.cap) ho6.lks (Nat.le_refl _) (ktiny_small HTYT.out (by rw [HM6.out]; omega)))
                rw [HGT.out] at HGG
                clear ho6 hb32
                go_wp2_with fail
                refine HGG.out.mono ?_
                rintro e w33 ⟨rfl, hb33⟩
                have HB33 := Lib.hid (HB32.out.trans (hb33.mono HB32.out.size))
                have hz33 := hb33.size
                clear hb33
                go_wp2_with fail
                refine (HD2.out _ HB33.out).mono ?_
                rintro e w40 ⟨A2, ca2, L2, s2, t2, g2, rfl, ho40, hL2, hty2, hs2, hb40⟩
                have HB40 := Lib.hid (HB33.out.trans (hb40.mono HB33.out.size))
                have hz40 := hb40.size
                clear hb40
                have L2_40 := Lib.hid ho40
                clear ho40
                have HTY2 := Lib.hid hty2
                obtain ⟨m2, hm2⟩ : ∃ m2, m2 = L2.length := ⟨_, rfl⟩
                rw [← hm2] at hL2 ⊢
                have HM2 := Lib.hid hm2.symm
                have hcap2 : m2 ≤ ca2 := by rw [hm2]; exact L2_40.out.cap
                clear hm2 hty2
                have hb41 := below1 w40 (.cells #[.string s2, .int .i64 t2, .bool g2] 27)
                have hky := heap_alloc_new w40 (.cells #[.string s2, .int .i64 t2, .bool g2] 27)
                obtain ⟨w41, hw41⟩ : ∃ x, x = w40.alloc (.cells #[.string s2, .int .i64 t2, .bool g2] 27) := ⟨_, rfl⟩
                rw [← hw41] at hb41 hky
                have HB41 := Lib.hid (HB40.out.trans (hb41.mono HB40.out.size))
                have hz41 := hb41.size
                have L2_41 := Lib.hid (L2_40.out.since hb41 (by omega))
                clear hb41
                have bY_41 := Lib.hid hky
                clear hky
                have HIT := Lib.hid (fun W (ho : OwnK W w33.heap.size w40.heap.size A2 ca2 L2) (hh : w40.heap.size ≤ W.heap.size) => implTakeLock_any s2 t2 g2 A2 m2 ca2 L2 W.heap.size W HM2.out hcap2 (ho.lks.mono hh) (Nat.le_refl _) (ktiny_small HTY2.out (by rw [HM2.out]; omega)) (by omega))
                have HST := Lib.hid (fun W (ho : OwnK W w33.heap.size w40.heap.size A2 ca2 L2) (hh : w40.heap.size ≤ W.heap.size) => specTakeLock_any s2 t2 g2 A2 m2 ca2 L2 W.heap.size W HM2.out hcap2 (ho.lks.mono hh) (Nat.le_refl _) (ktiny_small HTY2.out (by rw [HM2.out]; omega)) (by omega))
                have HTL := Lib.hid (takeA_len L2 (s2, t2, g2))
                obtain ⟨⟨tk, tok⟩, htk⟩ : ∃ r, r = takeA L2 (s2, t2, g2) := ⟨_, rfl⟩
                simp only [← htk, KAPost_un] at HIT HST HTL
                obtain ⟨mt, hmt⟩ : ∃ mt, mt = tk.length := ⟨_, rfl⟩
                simp only [← hmt] at HIT HST HTL
                have HMT := Lib.hid hmt.symm
                have hmtb : mt ≤ 60 := HTL.out
                clear htk hmt HTL
                have y0 : w41.cell? ⟨w40.heap.size, 0, none⟩ = some (.string s2) := cell_blk (i := 0) bY_41.out rfl
                have y1 : w41.cell? ⟨w40.heap.size, 1, none⟩ = some (.int .i64 t2) := cell_blk (i := 1) bY_41.out rfl
                have y2 : w41.cell? ⟨w40.heap.size, 2, none⟩ = some (.bool g2) := cell_blk (i := 2) bY_41.out rfl
                have yl := lt_blk bY_41.out
                go_wp2_with fail
                rw [← hw41]
                clear hw41
                refine (HIT.out _ L2_41.out (by omega)).mono ?_
                rintro e w42 ⟨A5, c5, rfl, ho42, hb42⟩
                clear y0 y1 y2 yl
                have HB42 := Lib.hid (HB41.out.trans (hb42.mono HB41.out.size))
                have hz42 := hb42.size
                have L2_42 := Lib.hid (L2_41.out.since hb42 (by omega))
                have bY_42 := Lib.hid ((hb42.block w40.heap.size (lt_blk bY_41.out)).trans bY_41.out)
                clear hb42
                have T1_42 := Lib.hid ho42
                clear ho42
                have y0 : w42.cell? ⟨w40.heap.size, 0, none⟩ = some (.string s2) := cell_blk (i := 0) bY_42.out rfl
                have y1 : w42.cell? ⟨w40.heap.size, 1, none⟩ = some (.int .i64 t2) := cell_blk (i := 1) bY_42.out rfl
                have y2 : w42.cell? ⟨w40.heap.size, 2, none⟩ = some (.bool g2) := cell_blk (i := 2) bY_42.out rfl
                have yl := lt_blk bY_42.out
                go_wp2_with fail
                refine (HST.out _ L2_42.out (by omega)).mono ?_
                rintro e w43 ⟨A6, c6, rfl, ho43, hb43⟩
                clear y0 y1 y2 yl
                have HB43 := Lib.hid (HB42.out.trans (hb43.mono HB42.out.size))
                have hz43 := hb43.size
                have L2_43 := Lib.hid (L2_42.out.since hb43 (by omega))
                have T1_43 := Lib.hid (T1_42.out.since hb43 (by omega))
                have bY_43 := Lib.hid ((hb43.block w40.heap.size (lt_blk bY_42.out)).trans bY_42.out)
                clear hb43
                have T2_43 := Lib.hid ho43
                clear ho43
                go_wp2_with fail
                refine (HD3.out _ HB43.out).mono ?_
                rintro e w44 ⟨A3, ca3, L3, v3, rfl, ho44, hL3, hty3, hb44⟩
                have HB44 := Lib.hid (HB43.out.trans (hb44.mono HB43.out.size))
                have hz44 := hb44.size
                have T1_44 := Lib.hid (T1_43.out.since hb44 (by omega))
                have T2_44 := Lib.hid (T2_43.out.since hb44 (by omega))
                clear hb44
                have L3_44 := Lib.hid ho44
                clear ho44
                have HTY3 := Lib.hid hty3
                obtain ⟨m3, hm3⟩ : ∃ m3, m3 = L3.length := ⟨_, rfl⟩
                rw [← hm3] at hL3 ⊢
                have HM3 := Lib.hid hm3.symm
                have hcap3 : m3 ≤ ca3 := by rw [hm3]; exact L3_44.out.cap
                clear hm3 hty3
                have HIF := Lib.hid (fun W (ho : OwnK W w43.heap.size w44.heap.size A3 ca3 L3) (hh : w44.heap.size ≤ W.heap.size) => implFreeLocks_any v3 A3 m3 ca3 L3 W.heap.size W HM3.out hcap3 (ho.lks.mono hh) (Nat.le_refl _) (ktiny_small HTY3.out (by rw [HM3.out]; omega)))
                have HSF := Lib.hid (fun W (ho : OwnK W w43.heap.size w44.heap.size A3 ca3 L3) (hh : w44.heap.size ≤ W.heap.size) => specFreeLocks_any v3 A3 m3 ca3 L3 W.heap.size W HM3.out hcap3 (ho.lks.mono hh) (Nat.le_refl _) (ktiny_small HTY3.out (by rw [HM3.out]; omega)))
                have HIO := Lib.hid (fun W (ho : OwnK W w43.heap.size w44.heap.size A3 ca3 L3) (hh : w44.heap.size ≤ W.heap.size) => implLocksOf_any v3 A3 m3 ca3 L3 W.heap.size W HM3.out hcap3 (ho.lks.mono hh) (Nat.le_refl _) (ktiny_small HTY3.out (by rw [HM3.out]; omega)))
                have HSO := Lib.hid (fun W (ho : OwnK W w43.heap.size w44.heap.size A3 ca3 L3) (hh : w44.heap.size ≤ W.heap.size) => specLocksOf_any v3 A3 m3 ca3 L3 W.heap.size W HM3.out hcap3 (ho.lks.mono hh) (Nat.le_refl _) (ktiny_small HTY3.out (by rw [HM3.out]; omega)))
                have hparts : (freeA L3 v3).2 = true → (freeA L3 v3).1.length + (ofA L3 v3).1.length = m3 := by
                  intro h
                  have e := part_len L3 v3
                  rw [HM3.out] at e
                  unfold freeA ofA at *
                  split at h
                  · next hc => rw [if_pos hc, if_pos hc]; exact e
                  · cases h
                have hfl : (freeA L3 v3).1.length ≤ m3 := by rw [← HM3.out]; exact freeA_len _ _
                have hol : (ofA L3 v3).1.length ≤ m3 := by rw [← HM3.out]; exact ofA_len _ _
                obtain ⟨⟨fl, fok⟩, hfa⟩ : ∃ r, r = freeA L3 v3 := ⟨_, rfl⟩
                obtain ⟨⟨ol, ook⟩, hoa⟩ : ∃ r, r = ofA L3 v3 := ⟨_, rfl⟩
                simp only [← hfa, ← hoa] at hparts hfl hol
                simp only [← hfa, KAPost_un] at HIF HSF
                simp only [← hoa, KAPost_un] at HIO HSO
                obtain ⟨p1, hp1⟩ : ∃ p1, p1 = fl.length := ⟨_, rfl⟩
                obtain ⟨p2, hp2⟩ : ∃ p2, p2 = ol.length := ⟨_, rfl⟩
                simp only [← hp1] at HIF HSF hparts hfl
                simp only [← hp2] at HIO HSO hparts hol
                have HP1 := Lib.hid hp1.symm
                have HP2 := Lib.hid hp2.symm
                have HPT := Lib.hid hparts
                clear hfa hoa hp1 hp2 hparts
                cases fok with
                | false =>
                  go_wp2_with fail
                  refine (HIF.out _ L3_44.out (by omega)).mono ?_
                  rintro e w45 ⟨A7, c7, rfl, ho45, hb45⟩
                  have HB45 := Lib.hid (HB44.out.trans (hb45.mono HB44.out.size))
                  have hz45 := hb45.size
                  have T1_45 := Lib.hid (T1_44.out.since hb45 (by omega))
                  have T2_45 := Lib.hid (T2_44.out.since hb45 (by omega))
                  have L3_45 := Lib.hid (L3_44.out.since hb45 (by omega))
                  clear hb45
                  have F1_45 := Lib.hid ho45
                  clear ho45
                  go_wp2_with fail
                  refine (HSF.out _ L3_45.out (by omega)).mono ?_
                  rintro e w46 ⟨A8, c8, rfl, ho46, hb46⟩
                  have HB46 := Lib.hid (HB45.out.trans (hb46.mono HB45.out.size))
                  have hz46 := hb46.size
                  have T1_46 := Lib.hid (T1_45.out.since hb46 (by omega))
                  have T2_46 := Lib.hid (T2_45.out.since hb46 (by omega))
                  have L3_46 := Lib.hid (L3_45.out.since hb46 (by omega))
                  have F1_46 := Lib.hid (F1_45.out.since hb46 (by omega))
                  clear hb46
                  have F2_46 := Lib.hid ho46
                  clear ho46
                  go_wp2_with fail
                  refine (HIO.out _ L3_46.out (by omega)).mono ?_
                  rintro e w47 ⟨A9, c9, rfl, ho47, hb47⟩
                  have HB47 := Lib.hid (HB46.out.trans (hb47.mono HB46.out.size))
                  have hz47 := hb47.size
                  have T1_47 := Lib.hid (T1_46.out.since hb47 (by omega))
                  have T2_47 := Lib.hid (T2_46.out.since hb47 (by omega))
                  have L3_47 := Lib.hid (L3_46.out.since hb47 (by omega))
                  have F1_47 := Lib.hid (F1_46.out.since hb47 (by omega))
                  have F2_47 := Lib.hid (F2_46.out.since hb47 (by omega))
                  clear hb47
                  have O1_47 := Lib.hid ho47
                  clear ho47
                  go_wp2_with fail
                  refine (HSO.out _ L3_47.out (by omega)).mono ?_
                  rintro e w48 ⟨A10, c10, rfl, ho48, hb48⟩
                  have HB48 := Lib.hid (HB47.out.trans (hb48.mono HB47.out.size))
                  have hz48 := hb48.size
                  have T1_48 := Lib.hid (T1_47.out.since hb48 (by omega))
                  have T2_48 := Lib.hid (T2_47.out.since hb48 (by omega))
                  have L3_48 := Lib.hid (L3_47.out.since hb48 (by omega))
                  have F1_48 := Lib.hid (F1_47.out.since hb48 (by omega))
                  have F2_48 := Lib.hid (F2_47.out.since hb48 (by omega))
                  have O1_48 := Lib.hid (O1_47.out.since hb48 (by omega))
                  clear hb48
                  have O2_48 := Lib.hid ho48
                  clear ho48
                  have HE49 := Lib.hid (pSame_any A5 A6 mt c5 c6 tk w48.heap.size w48 HMT.out (T1_48.out.lks.mono (by omega)) (T2_48.out.lks.mono (by omega)) (Nat.le_refl _) (by omega))
                  go_wp2_with fail
                  refine (HE49.out).mono ?_
                  rintro e w49 ⟨rfl, hb49⟩
                  have HB49 := Lib.hid (HB48.out.trans (hb49.mono HB48.out.size))
                  have hz49 := hb49.size
                  have T1_49 := Lib.hid (T1_48.out.since hb49 (by omega))
                  have T2_49 := Lib.hid (T2_48.out.since hb49 (by omega))
                  have F1_49 := Lib.hid (F1_48.out.since hb49 (by omega))
                  have F2_49 := Lib.hid (F2_48.out.since hb49 (by omega))
                  have O1_49 := Lib.hid (O1_48.out.since hb49 (by omega))
                  have O2_49 := Lib.hid (O2_48.out.since hb49 (by omega))
                  clear hb49
                  have HE50 := Lib.hid (pSame_any A7 A8 p1 c7 c8 fl w49.heap.size w49 HP1.out (F1_49.out.lks.mono (by omega)) (F2_49.out.lks.mono (by omega)) (Nat.le_refl _) (by omega))
                  go_wp2_with fail
                  refine (HE50.out).mono ?_
                  rintro e w50 ⟨rfl, hb50⟩
                  have HB50 := Lib.hid (HB49.out.trans (hb50.mono HB49.out.size))
                  have hz50 := hb50.size
                  have F1_50 := Lib.hid (F1_49.out.since hb50 (by omega))
                  have F2_50 := Lib.hid (F2_49.out.since hb50 (by omega))
                  have O1_50 := Lib.hid (O1_49.out.since hb50 (by omega))
                  have O2_50 := Lib.hid (O2_49.out.since hb50 (by omega))
                  clear hb50
                  have HE51 := Lib.hid (pSame_any A9 A10 p2 c9 c10 ol w50.heap.size w50 HP2.out (O1_50.out.lks.mono (by omega)) (O2_50.out.lks.mono (by omega)) (Nat.le_refl _) (by omega))
                  go_wp2_with fail
                  refine (HE51.out).mono ?_
                  rintro e w51 ⟨rfl, hb51⟩
                  have HB51 := Lib.hid (HB50.out.trans (hb51.mono HB50.out.size))
                  have hz51 := hb51.size
                  have O1_51 := Lib.hid (O1_50.out.since hb51 (by omega))
                  have O2_51 := Lib.hid (O2_50.out.since hb51 (by omega))
                  clear hb51
                  go_wp2
                  go_ret
                  exact ⟨rfl, HB51.out⟩
                | true =>
                  have hsum : p1 + p2 = m3 := HPT.out rfl
                  have hsumi : ((p1 : Int) + (p2 : Int) == (m3 : Int)) = true := by rw [beq_iff_eq]; omega
                  have hsumi2 : (p1 : Int) + (p2 : Int) = (m3 : Int) := by omega
                  clear hsumi2
                  obtain rfl : m3 = p1 + p2 := by omega
                  clear hsum
                  go_wp2_with fail
                  refine (HIF.out _ L3_44.out (by omega)).mono ?_
                  rintro e w45 ⟨A7, c7, rfl, ho45, hb45⟩
                  have HB45 := Lib.hid (HB44.out.trans (hb45.mono HB44.out.size))
                  have hz45 := hb45.size
                  have T1_45 := Lib.hid (T1_44.out.since hb45 (by omega))
                  have T2_45 := Lib.hid (T2_44.out.since hb45 (by omega))
                  have L3_45 := Lib.hid (L3_44.out.since hb45 (by omega))
                  clear hb45
                  have F1_45 := Lib.hid ho45
                  clear ho45
                  go_wp2_with fail
                  refine (HSF.out _ L3_45.out (by omega)).mono ?_
                  rintro e w46 ⟨A8, c8, rfl, ho46, hb46⟩
                  have HB46 := Lib.hid (HB45.out.trans (hb46.mono HB45.out.size))
                  have hz46 := hb46.size
                  have T1_46 := Lib.hid (T1_45.out.since hb46 (by omega))
                  have T2_46 := Lib.hid (T2_45.out.since hb46 (by omega))
                  have L3_46 := Lib.hid (L3_45.out.since hb46 (by omega))
                  have F1_46 := Lib.hid (F1_45.out.since hb46 (by omega))
                  clear hb46
                  have F2_46 := Lib.hid ho46
                  clear ho46
                  go_wp2_with fail
                  refine (HIO.out _ L3_46.out (by omega)).mono ?_
                  rintro e w47 ⟨A9, c9, rfl, ho47, hb47⟩
                  have HB47 := Lib.hid (HB46.out.trans (hb47.mono HB46.out.size))
                  have hz47 := hb47.size
                  have T1_47 := Lib.hid (T1_46.out.since hb47 (by omega))
                  have T2_47 := Lib.hid (T2_46.out.since hb47 (by omega))
                  have L3_47 := Lib.hid (L3_46.out.since hb47 (by omega))
                  have F1_47 := Lib.hid (F1_46.out.since hb47 (by omega))
                  have F2_47 := Lib.hid (F2_46.out.since hb47 (by omega))
                  clear hb47
                  have O1_47 := Lib.hid ho47
                  clear ho47
                  go_wp2_with fail
                  refine (HSO.out _ L3_47.out (by omega)).mono ?_
                  rintro e w48 ⟨A10, c10, rfl, ho48, hb48⟩
                  have HB48 := Lib.hid (HB47.out.trans (hb48.mono HB47.out.size))
                  have hz48 := hb48.size
                  have T1_48 := Lib.hid (T1_47.out.since hb48 (by omega))
                  have T2_48 := Lib.hid (T2_47.out.since hb48 (by omega))
                  have L3_48 := Lib.hid (L3_47.out.since hb48 (by omega))
                  have F1_48 := Lib.hid (F1_47.out.since hb48 (by omega))
                  have F2_48 := Lib.hid (F2_47.out.since hb48 (by omega))
                  have O1_48 := Lib.hid (O1_47.out.since hb48 (by omega))
                  clear hb48
                  have O2_48 := Lib.hid ho48
                  clear ho48
                  have HE49 := Lib.hid (pSame_any A5 A6 mt c5 c6 tk w48.heap.size w48 HMT.out (T1_48.out.lks.mono (by omega)) (T2_48.out.lks.mono (by omega)) (Nat.le_refl _) (by omega))
                  go_wp2_with fail
                  refine (HE49.out).mono ?_
                  rintro e w49 ⟨rfl, hb49⟩
                  have HB49 := Lib.hid (HB48.out.trans (hb49.mono HB48.out.size))
                  have hz49 := hb49.size
                  have T1_49 := Lib.hid (T1_48.out.since hb49 (by omega))
                  have T2_49 := Lib.hid (T2_48.out.since hb49 (by omega))
                  have F1_49 := Lib.hid (F1_48.out.since hb49 (by omega))
                  have F2_49 := Lib.hid (F2_48.out.since hb49 (by omega))
                  have O1_49 := Lib.hid (O1_48.out.since hb49 (by omega))
                  have O2_49 := Lib.hid (O2_48.out.since hb49 (by omega))
                  clear hb49
                  have HE50 := Lib.hid (pSame_any A7 A8 p1 c7 c8 fl w49.heap.size w49 HP1.out (F1_49.out.lks.mono (by omega)) (F2_49.out.lks.mono (by omega)) (Nat.le_refl _) (by omega))
                  go_wp2_with fail
                  refine (HE50.out).mono ?_
                  rintro e w50 ⟨rfl, hb50⟩
                  have HB50 := Lib.hid (HB49.out.trans (hb50.mono HB49.out.size))
                  have hz50 := hb50.size
                  have F1_50 := Lib.hid (F1_49.out.since hb50 (by omega))
                  have F2_50 := Lib.hid (F2_49.out.since hb50 (by omega))
                  have O1_50 := Lib.hid (O1_49.out.since hb50 (by omega))
                  have O2_50 := Lib.hid (O2_49.out.since hb50 (by omega))
                  clear hb50
                  have HE51 := Lib.hid (pSame_any A9 A10 p2 c9 c10 ol w50.heap.size w50 HP2.out (O1_50.out.lks.mono (by omega)) (O2_50.out.lks.mono (by omega)) (Nat.le_refl _) (by omega))
                  go_wp2_with fail
                  refine (HE51.out).mono ?_
                  rintro e w51 ⟨rfl, hb51⟩
                  have HB51 := Lib.hid (HB50.out.trans (hb51.mono HB50.out.size))
                  have hz51 := hb51.size
                  have O1_51 := Lib.hid (O1_50.out.since hb51 (by omega))
                  have O2_51 := Lib.hid (O2_50.out.since hb51 (by omega))
                  clear hb51
                  go_wp2
                  go_ret
                  exact ⟨rfl, HB51.out⟩
          | true =>
            have hcdv : cd = 2 := by simpa using hcd2
            subst hcdv
            clear hcd2 hcd2d
            by_cases hnf0 : nf = 0
            · subst hnf0
              have HFS := Lib.hid (show fs = [] from List.eq_nil_of_length_eq_zero (by rw [HNF.out]))
              have HEL := Lib.hid (show wl.any (fun v => decide (v < t)) = true by
                have e := HASK.out
                rw [HFS.out] at e
                have e2 := elders e
                rw [← HWL.out]; exact e2)
              go_wp2
              go_loopw [18, 132] (fun e i wr => ∃ (k : Nat) (b : Bool), k ≤ q ∧ i = .int .i64 k ∧ e = .bool b ∧ Hid (b = (wl.take k).any (fun v => decide (v < t))) ∧ Hid (Below w8.heap.size w8 wr)) (fun _ i _ => q - (intOf i).toNat)
              case atStart => exact ⟨0, false, by omega, rfl, rfl, Lib.hid rfl, Lib.hid (Below.refl _ _)⟩
              case round =>
                obtain ⟨k, bb, hk, rfl, rfl, HEB, HBQ⟩ := hrel
                obtain ⟨w10, rfl⟩ : ∃ x, x = wr := ⟨wr, rfl⟩
                have hb10 := HBQ.out
                have HB10 := Lib.hid (HB8.out.trans (hb10.mono HB8.out.size))
                have hz10 := hb10.size
                have HL_10 := Lib.hid (HL_8.out.since hb10 (by omega))
                have R4_10 := Lib.hid (R4_8.out.since hb10 (by omega))
                have bX_10 := Lib.hid ((hb10.block w1.heap.size (lt_blk bX_8.out)).trans bX_8.out)
                clear hb10
                by_cases hlt : k < q
                · have z1 : w10.cell? ⟨w1.heap.size, 1, none⟩ = some (.int .i64 t) := cell_blk (i := 1) bX_10.out rfl
                  have zl := lt_blk bX_10.out
                  obtain ⟨b, off, rfl, hbB, hc⟩ := R4_10.out.ints.get (by rw [HQL.out]; omega)
                  have c0 := hc k (by rw [HQL.out]; omega)
                  have hk0 : (0 : Int) ≤ (k : Int) := by omega
                  have hkn : (k : Int) < (q : Int) := by omega
                  have HTS := Lib.hid (show (wl.take (k + 1)).any (fun v => decide (v < t)) = (bb || decide (wl[k]'(by rw [HQL.out]; omega) < t)) by
                    rw [List.take_succ_eq_append_getElem (by rw [HQL.out]; omega), List.any_append, ← HEB.out]; simp)
                  obtain ⟨y, hy⟩ : ∃ y, y = wl[k]'(by rw [HQL.out]; omega) := ⟨_, rfl⟩
                  rw [← hy] at c0 HTS
                  clear hc hy
                  cases bb with
                  | true =>
                    have HNX := Lib.hid (show true = (wl.take (k + 1)).any (fun v => decide (v < t)) by rw [HTS.out]; rfl)
                    go_wp2
                    go_roundw
                    case rel => exact ⟨k + 1, true, by omega, by go_num, rfl, HNX, HBQ⟩
                    case measure => simp [intOf]; omega
                  | false =>
                    obtain ⟨dd, hdd⟩ : ∃ dd, dd = decide (y < t) := ⟨_, rfl⟩
                    have hdd2 : decide (y < t) = dd := hdd.symm
                    have HNX := Lib.hid (show dd = (wl.take (k + 1)).any (fun v => decide (v < t)) by rw [HTS.out, hdd]; rfl)
                    clear hdd
                    go_wp2
                    go_roundw
                    case rel => exact ⟨k + 1, dd, by omega, by go_num, rfl, HNX, HBQ⟩
                    case measure => simp [intOf]; omega
                · have hbt : bb = true := by rw [HEB.out, List.take_of_length_le (by rw [HQL.out]; omega)]; exact HEL.out
                  subst hbt
                  clear HEB HEL
                  have HFA0 := Lib.hid (show L = freeAll L (wl.take 0) from rfl)
                  have HO0 := Lib.hid (OwnK.wider HL_10.out (Nat.le_refl _) (show w1.heap.size ≤ w10.heap.size by omega))
                  go_wp2
                  go_loopw [21, 149] (fun v i wr => ∃ (k mf : Nat) (Af : Option Addr) (cF : Nat) (F : List LK), k ≤ q ∧ i = .int .i64 k ∧ v = .slice Af mf cF ∧ Hid (F = freeAll L (wl.take k)) ∧ Hid (F.length = mf) ∧ Hid (OwnK wr w.heap.size wr.heap.size Af cF F) ∧ Hid (Below w10.heap.size w10 wr)) (fun _ i _ => q - (intOf i).toNat)
                  case atStart => exact ⟨0, m, A1, ca, L, by omega, rfl, rfl, HFA0, HLM, HO0, Lib.hid (Below.refl _ _)⟩
                  case round =>
                    clear HFA0 HO0
                    obtain ⟨k, mf, Af, cF, F, hk, rfl, rfl, HFE, HFM, HFO, HBR⟩ := hrel
                    obtain ⟨w30, rfl⟩ : ∃ x, x = wr := ⟨wr, rfl⟩
                    have hb30 := HBR.out
                    have HB30 := Lib.hid (HB10.out.trans (hb30.mono HB10.out.size))
                    have hz30 := hb30.size
                    have R4_30 := Lib.hid (R4_10.out.since hb30 (by omega))
                    have bX_30 := Lib.hid ((hb30.block w1.heap.size (lt_blk bX_10.out)).trans bX_10.out)
                    clear hb30
                    have hmf8 : mf ≤ 8 := by rw [← HFM.out, HFE.out]; exact Nat.le_trans len_freeAll (by rw [HLM.out]; exact hL)
                    have HFY := Lib.hid (show KTiny F by rw [HFE.out]; exact tiny_freeAll HTY.out)
                    have HFG := Lib.hid (show goodB F = true by rw [HFE.out]; exact good_freeAll HG1.out)
                    have hcapF : mf ≤ cF := by rw [← HFM.out]; exact HFO.out.cap
                    by_cases hlt : k < q
                    · obtain ⟨b, off, rfl, hbB, hc⟩ := R4_30.out.ints.get (by rw [HQL.out]; omega)
                      have c0 := hc k (by rw [HQL.out]; omega)
                      have hk0 : (0 : Int) ≤ (k : Int) := by omega
                      have hkn : (k : Int) < (q : Int) := by omega
                      have hin := waits_txn (x := (s, t, g)) (v := wl[k]'(by rw [HQL.out]; omega)) HG1.out (by rw [HWL.out]; exact List.getElem_mem _)
                      have HTS := Lib.hid (show wl.take (k + 1) = wl.take k ++ [wl[k]'(by rw [HQL.out]; omega)] from List.take_succ_eq_append_getElem _)
                      obtain ⟨y, hy⟩ : ∃ y, y = wl[k]'(by rw [HQL.out]; omega) := ⟨_, rfl⟩
                      rw [← hy] at c0 hin HTS
                      have HFR := Lib.hid (implFreeLocks_any y Af mf cF F w30.heap.size w30 HFM.out hcapF HFO.out.lks (Nat.le_refl _) (ktiny_small HFY.out (by rw [HFM.out]; omega)))
                      rw [free_is HFG.out hin, KAPost_un] at HFR
                      have HFE2 := Lib.hid (show F.filter (partB y false) = freeAll L (wl.take (k + 1)) by rw [HTS.out, freeAll_snoc, ← HFE.out])
                      obtain ⟨m4, hm4⟩ : ∃ m4, m4 = (F.filter (partB y false)).length := ⟨_, rfl⟩
                      simp only [← hm4] at HFR
                      have HM4 := Lib.hid hm4.symm
                      clear hc hy hin hm4
                      go_wp2_with fail
                      refine HFR.out.mono ?_
                      rintro e w31 ⟨A5, c5, rfl, ho5, hb31⟩
                      have HO5 := Lib.hid (OwnK.wider ho5 (show w.heap.size ≤ w30.heap.size from HB30.out.size) (Nat.le_refl _))
                      have HBR5 := Lib.hid (HBR.out.trans (hb31.mono HBR.out.size))
                      clear ho5 hb31
                      go_wp2
                      go_roundw
                      case rel => exact ⟨k + 1, m4, A5, c5, F.filter (partB y false), by omega, by go_num, rfl, HFE2, HM4, HO5, HBR5⟩
                      case measure => simp [intOf]; omega
                    · have hkq : k = q := by omega
                      have HFE3 := Lib.hid (show F = freeAll L (waitsL L (s, t, g)) by rw [HFE.out, HWL.out, List.take_of_length_le (by rw [HQL.out]; omega)])
                      subst hkq
                      have HTF := Lib.hid (show takeA F (s, t, g) = (takeL F (s, t, g), true) ∧ goodB (takeL F (s, t, g)) = true by rw [HFE3.out]; exact take_frees HG1.out HL1.out (by rw [HLM.out]; exact hL))
                      have HTK := Lib.hid (implTakeLock_any s t g Af mf cF F w30.heap.size w30 HFM.out hcapF HFO.out.lks (Nat.le_refl _) (ktiny_small HFY.out (by rw [HFM.out]; omega)) (by omega))
                      rw [HTF.out.1, KAPost_un] at HTK
                      have htb := take_len F (s, t, g)
                      rw [HFM.out] at htb
                      have HTYT := Lib.hid (ktiny_take (x := (s, t, g)) HFY.out hs)
                      have HGT := Lib.hid HTF.out.2
                      obtain ⟨TT, hTT⟩ : ∃ TT, TT = takeL F (s, t, g) := ⟨_, rfl⟩
                      rw [← hTT] at HTK htb HTYT HGT
                      obtain ⟨m6, hm6⟩ : ∃ m6, m6 = TT.length := ⟨_, rfl⟩
                      rw [← hm6] at htb
                      simp only [← hm6] at HTK
                      have HM6 := Lib.hid hm6.symm
                      clear hTT hm6
                      have y0 : w30.cell? ⟨w1.heap.size, 0, none⟩ = some (.string s) := cell_blk (i := 0) bX_30.out rfl
                      have y1 : w30.cell? ⟨w1.heap.size, 1, none⟩ = some (.int .i64 t) := cell_blk (i := 1) bX_30.out rfl
                      have y2 : w30.cell? ⟨w1.heap.size, 2, none⟩ = some (.bool g) := cell_blk (i := 2) bX_30.out rfl
                      have yl := lt_blk bX_30.out
                      go_wp2_with fail
                      refine HTK.out.mono ?_
                      rintro e w32 ⟨A6, c6, rfl, ho6, hb32⟩
                      clear y0 y1 y2 yl
                      have HB32 := Lib.hid (HB30.out.trans (hb32.mono HB30.out.size))
                      have hz32 := hb32.size
                      have HGG := Lib.hid (implGoodLocks_any A6 m6 c6 TT w32.heap.size w32 HM6.out (by rw [← HM6.out]; exact ho6.cap) ho6.lks (Nat.le_refl _) (ktiny_small HTYT.out (by rw [HM6.out]; omega)))
                      rw [HGT.out] at HGG
                      clear ho6 hb32
                      go_wp2_with fail
                      refine HGG.out.mono ?_
                      rintro e w33 ⟨rfl, hb33⟩
                      have HB33 := Lib.hid (HB32.out.trans (hb33.mono HB32.out.size))
                      have hz33 := hb33.size
                      clear hb33
                      go_wp2_with fail
                      refine (HD2.out _ HB33.out).mono ?_
                      rintro e w40 ⟨A2, ca2, L2, s2, t2, g2, rfl, ho40, hL2, hty2, hs2, hb40⟩
                      have HB40 := Lib.hid (HB33.out.trans (hb40.mono HB33.out.size))
                      have hz40 := hb40.size
                      clear hb40
                      have L2_40 := Lib.hid ho40
                      clear ho40
                      have HTY2 := Lib.hid hty2
                      obtain ⟨m2, hm2⟩ : ∃ m2, m2 = L2.length := ⟨_, rfl⟩
                      rw [← hm2] at hL2 ⊢
                      have HM2 := Lib.hid hm2.symm
                      have hcap2 : m2 ≤ ca2 := by rw [hm2]; exact L2_40.out.cap
                      clear hm2 hty2
                      have hb41 := below1 w40 (.cells #[.string s2, .int .i64 t2, .bool g2] 27)
                      have hky := heap_alloc_new w40 (.cells #[.string s2, .int .i64 t2, .bool g2] 27)
                      obtain ⟨w41, hw41⟩ : ∃ x, x = w40.alloc (.cells #[.string s2, .int .i64 t2, .bool g2] 27) := ⟨_, rfl⟩
                      rw [← hw41] at hb41 hky
                      have HB41 := Lib.hid (HB40.out.trans (hb41.mono HB40.out.size))
                      have hz41 := hb41.size
                      have L2_41 := Lib.hid (L2_40.out.since hb41 (by omega))
                      clear hb41
                      have bY_41 := Lib.hid hky
                      clear hky
                      have HIT := Lib.hid (fun W (ho : OwnK W w33.heap.size w40.heap.size A2 ca2 L2) (hh : w40.heap.size ≤ W.heap.size) => implTakeLock_any s2 t2 g2 A2 m2 ca2 L2 W.heap.size W HM2.out hcap2 (ho.lks.mono hh) (Nat.le_refl _) (ktiny_small HTY2.out (by rw [HM2.out]; omega)) (by omega))
                      have HST := Lib.hid (fun W (ho : OwnK W w33.heap.size w40.heap.size A2 ca2 L2) (hh : w40.heap.size ≤ W.heap.size) => specTakeLock_any s2 t2 g2 A2 m2 ca2 L2 W.heap.size W HM2.out hcap2 (ho.lks.mono hh) (Nat.le_refl _) (ktiny_small HTY2.out (by rw [HM2.out]; omega)) (by omega))
                      have HTL := Lib.hid (takeA_len L2 (s2, t2, g2))
                      obtain ⟨⟨tk, tok⟩, htk⟩ : ∃ r, r = takeA L2 (s2, t2, g2) := ⟨_, rfl⟩
                      simp only [← htk, KAPost_un] at HIT HST HTL
                      obtain ⟨mt, hmt⟩ : ∃ mt, mt = tk.length := ⟨_, rfl⟩
                      simp only [← hmt] at HIT HST HTL
                      have HMT := Lib.hid hmt.symm
                      have hmtb : mt ≤ 60 := HTL.out
                      clear htk hmt HTL
                      have y0 : w41.cell? ⟨w40.heap.size, 0, none⟩ = some (.string s2) := cell_blk (i := 0) bY_41.out rfl
                      have y1 : w41.cell? ⟨w40.heap.size, 1, none⟩ = some (.int .i64 t2) := cell_blk (i := 1) bY_41.out rfl
                      have y2 : w41.cell? ⟨w40.heap.size, 2, none⟩ = some (.bool g2) := cell_blk (i := 2) bY_41.out rfl
                      have yl := lt_blk bY_41.out
                      go_wp2_with fail
                      rw [← hw41]
                      clear hw41
                      refine (HIT.out _ L2_41.out (by omega)).mono ?_
                      rintro e w42 ⟨A5, c5, rfl, ho42, hb42⟩
                      clear y0 y1 y2 yl
                      have HB42 := Lib.hid (HB41.out.trans (hb42.mono HB41.out.size))
                      have hz42 := hb42.size
                      have L2_42 := Lib.hid (L2_41.out.since hb42 (by omega))
                      have bY_42 := Lib.hid ((hb42.block w40.heap.size (lt_blk bY_41.out)).trans bY_41.out)
                      clear hb42
                      have T1_42 := Lib.hid ho42
                      clear ho42
                      have y0 : w42.cell? ⟨w40.heap.size, 0, none⟩ = some (.string s2) := cell_blk (i := 0) bY_42.out rfl
                      have y1 : w42.cell? ⟨w40.heap.size, 1, none⟩ = some (.int .i64 t2) := cell_blk (i := 1) bY_42.out rfl
                      have y2 : w42.cell? ⟨w40.heap.size, 2, none⟩ = some (.bool g2) := cell_blk (i := 2) bY_42.out rfl
                      have yl := lt_blk bY_42.out
                      go_wp2_with fail
                      refine (HST.out _ L2_42.out (by omega)).mono ?_
                      rintro e w43 ⟨A6, c6, rfl, ho43, hb43⟩
                      clear y0 y1 y2 yl
                      have HB43 := Lib.hid (HB42.out.trans (hb43.mono HB42.out.size))
                      have hz43 := hb43.size
                      have L2_43 := Lib.hid (L2_42.out.since hb43 (by omega))
                      have T1_43 := Lib.hid (T1_42.out.since hb43 (by omega))
                      have bY_43 := Lib.hid ((hb43.block w40.heap.size (lt_blk bY_42.out)).trans bY_42.out)
                      clear hb43
                      have T2_43 := Lib.hid ho43
                      clear ho43
                      go_wp2_with fail
                      refine (HD3.out _ HB43.out).mono ?_
                      rintro e w44 ⟨A3, ca3, L3, v3, rfl, ho44, hL3, hty3, hb44⟩
                      have HB44 := Lib.hid (HB43.out.trans (hb44.mono HB43.out.size))
                      have hz44 := hb44.size
                      have T1_44 := Lib.hid (T1_43.out.since hb44 (by omega))
                      have T2_44 := Lib.hid (T2_43.out.since hb44 (by omega))
                      clear hb44
                      have L3_44 := Lib.hid ho44
                      clear ho44
                      have HTY3 := Lib.hid hty3
                      obtain ⟨m3, hm3⟩ : ∃ m3, m3 = L3.length := ⟨_, rfl⟩
                      rw [← hm3] at hL3 ⊢
                      have HM3 := Lib.hid hm3.symm
                      have hcap3 : m3 ≤ ca3 := by rw [hm3]; exact L3_44.out.cap
                      clear hm3 hty3
                      have HIF := Lib.hid (fun W (ho : OwnK W w43.heap.size w44.heap.size A3 ca3 L3) (hh : w44.heap.size ≤ W.heap.size) => implFreeLocks_any v3 A3 m3 ca3 L3 W.heap.size W HM3.out hcap3 (ho.lks.mono hh) (Nat.le_refl _) (ktiny_small HTY3.out (by rw [HM3.out]; omega)))
                      have HSF := Lib.hid (fun W (ho : OwnK W w43.heap.size w44.heap.size A3 ca3 L3) (hh : w44.heap.size ≤ W.heap.size) => specFreeLocks_any v3 A3 m3 ca3 L3 W.heap.size W HM3.out hcap3 (ho.lks.mono hh) (Nat.le_refl _) (ktiny_small HTY3.out (by rw [HM3.out]; omega)))
                      have HIO := Lib.hid (fun W (ho : OwnK W w43.heap.size w44.heap.size A3 ca3 L3) (hh : w44.heap.size ≤ W.heap.size) => implLocksOf_any v3 A3 m3 ca3 L3 W.heap.size W HM3.out hcap3 (ho.lks.mono hh) (Nat.le_refl _) (ktiny_small HTY3.out (by rw [HM3.out]; omega)))
                      have HSO := Lib.hid (fun W (ho : OwnK W w43.heap.size w44.heap.size A3 ca3 L3) (hh : w44.heap.size ≤ W.heap.size) => specLocksOf_any v3 A3 m3 ca3 L3 W.heap.size W HM3.out hcap3 (ho.lks.mono hh) (Nat.le_refl _) (ktiny_small HTY3.out (by rw [HM3.out]; omega)))
                      have hparts : (freeA L3 v3).2 = true → (freeA L3 v3).1.length + (ofA L3 v3).1.length = m3 := by
                        intro h
                        have e := part_len L3 v3
                        rw [HM3.out] at e
                        unfold freeA ofA at *
                        split at h
                        · next hc => rw [if_pos hc, if_pos hc]; exact e
                        · cases h
                      have hfl : (freeA L3 v3).1.length ≤ m3 := by rw [← HM3.out]; exact freeA_len _ _
                      have hol : (ofA L3 v3).1.length ≤ m3 := by rw [← HM3.out]; exact ofA_len _ _
                      obtain ⟨⟨fl, fok⟩, hfa⟩ : ∃ r, r = freeA L3 v3 := ⟨_, rfl⟩
                      obtain ⟨⟨ol, ook⟩, hoa⟩ : ∃ r, r = ofA L3 v3 := ⟨_, rfl⟩
                      simp only [← hfa, ← hoa] at hparts hfl hol
                      simp only [← hfa, KAPost_un] at HIF HSF
                      simp only [← hoa, KAPost_un] at HIO HSO
                      obtain ⟨p1, hp1⟩ : ∃ p1, p1 = fl.length := ⟨_, rfl⟩
                      obtain ⟨p2, hp2⟩ : ∃ p2, p2 = ol.length := ⟨_, rfl⟩
                      simp only [← hp1] at HIF HSF hparts hfl
                      simp only [← hp2] at HIO HSO hparts hol
                      have HP1 := Lib.hid hp1.symm
                      have HP2 := Lib.hid hp2.symm
                      have HPT := Lib.hid hparts
                      clear hfa hoa hp1 hp2 hparts
                      cases fok with
                      | false =>
                        go_wp2_with fail
                        refine (HIF.out _ L3_44.out (by omega)).mono ?_
                        rintro e w45 ⟨A7, c7, rfl, ho45, hb45⟩
                        have HB45 := Lib.hid (HB44.out.trans (hb45.mono HB44.out.size))
                        have hz45 := hb45.size
                        have T1_45 := Lib.hid (T1_44.out.since hb45 (by omega))
                        have T2_45 := Lib.hid (T2_44.out.since hb45 (by omega))
                        have L3_45 := Lib.hid (L3_44.out.since hb45 (by omega))
                        clear hb45
                        have F1_45 := Lib.hid ho45
                        clear ho45
                        go_wp2_with fail
                        refine (HSF.out _ L3_45.out (by omega)).mono ?_
                        rintro e w46 ⟨A8, c8, rfl, ho46, hb46⟩
                        have HB46 := Lib.hid (HB45.out.trans (hb46.mono HB45.out.size))
                        have hz46 := hb46.size
                        have T1_46 := Lib.hid (T1_45.out.since hb46 (by omega))
                        have T2_46 := Lib.hid (T2_45.out.since hb46 (by omega))
                        have L3_46 := Lib.hid (L3_45.out.since hb46 (by omega))
                        have F1_46 := Lib.hid (F1_45.out.since hb46 (by omega))
                        clear hb46
                        have F2_46 := Lib.hid ho46
                        clear ho46
                        go_wp2_with fail
                        refine (HIO.out _ L3_46.out (by omega)).mono ?_
                        rintro e w47 ⟨A9, c9, rfl, ho47, hb47⟩
                        have HB47 := Lib.hid (HB46.out.trans (hb47.mono HB46.out.size))
                        have hz47 := hb47.size
                        have T1_47 := Lib.hid (T1_46.out.since hb47 (by omega))
                        have T2_47 := Lib.hid (T2_46.out.since hb47 (by omega))
                        have L3_47 := Lib.hid (L3_46.out.since hb47 (by omega))
                        have F1_47 := Lib.hid (F1_46.out.since hb47 (by omega))
                        have F2_47 := Lib.hid (F2_46.out.since hb47 (by omega))
                        clear hb47
                        have O1_47 := Lib.hid ho47
                        clear ho47
                        go_wp2_with fail
                        refine (HSO.out _ L3_47.out (by omega)).mono ?_
                        rintro e w48 ⟨A10, c10, rfl, ho48, hb48⟩
                        have HB48 := Lib.hid (HB47.out.trans (hb48.mono HB47.out.size))
                        have hz48 := hb48.size
                        have T1_48 := Lib.hid (T1_47.out.since hb48 (by omega))
                        have T2_48 := Lib.hid (T2_47.out.since hb48 (by omega))
                        have L3_48 := Lib.hid (L3_47.out.since hb48 (by omega))
                        have F1_48 := Lib.hid (F1_47.out.since hb48 (by omega))
                        have F2_48 := Lib.hid (F2_47.out.since hb48 (by omega))
                        have O1_48 := Lib.hid (O1_47.out.since hb48 (by omega))
                        clear hb48
                        have O2_48 := Lib.hid ho48
                        clear ho48
                        have HE49 := Lib.hid (pSame_any A5 A6 mt c5 c6 tk w48.heap.size w48 HMT.out (T1_48.out.lks.mono (by omega)) (T2_48.out.lks.mono (by omega)) (Nat.le_refl _) (by omega))
                        go_wp2_with fail
                        refine (HE49.out).mono ?_
                        rintro e w49 ⟨rfl, hb49⟩
                        have HB49 := Lib.hid (HB48.out.trans (hb49.mono HB48.out.size))
                        have hz49 := hb49.size
                        have T1_49 := Lib.hid (T1_48.out.since hb49 (by omega))
                        have T2_49 := Lib.hid (T2_48.out.since hb49 (by omega))
                        have F1_49 := Lib.hid (F1_48.out.since hb49 (by omega))
                        have F2_49 := Lib.hid (F2_48.out.since hb49 (by omega))
                        have O1_49 := Lib.hid (O1_48.out.since hb49 (by omega))
                        have O2_49 := Lib.hid (O2_48.out.since hb49 (by omega))
                        clear hb49
                        have HE50 := Lib.hid (pSame_any A7 A8 p1 c7 c8 fl w49.heap.size w49 HP1.out (F1_49.out.lks.mono (by omega)) (F2_49.out.lks.mono (by omega)) (Nat.le_refl _) (by omega))
                        go_wp2_with fail
                        refine (HE50.out).mono ?_
                        rintro e w50 ⟨rfl, hb50⟩
                        have HB50 := Lib.hid (HB49.out.trans (hb50.mono HB49.out.size))
                        have hz50 := hb50.size
                        have F1_50 := Lib.hid (F1_49.out.since hb50 (by omega))
                        have F2_50 := Lib.hid (F2_49.out.since hb50 (by omega))
                        have O1_50 := Lib.hid (O1_49.out.since hb50 (by omega))
                        have O2_50 := Lib.hid (O2_49.out.since hb50 (by omega))
                        clear hb50
                        have HE51 := Lib.hid (pSame_any A9 A10 p2 c9 c10 ol w50.heap.size w50 HP2.out (O1_50.out.lks.mono (by omega)) (O2_50.out.lks.mono (by omega)) (Nat.le_refl _) (by omega))
                        go_wp2_with fail
                        refine (HE51.out).mono ?_
                        rintro e w51 ⟨rfl, hb51⟩
                        have HB51 := Lib.hid (HB50.out.trans (hb51.mono HB50.out.size))
                        have hz51 := hb51.size
                        have O1_51 := Lib.hid (O1_50.out.since hb51 (by omega))
                        have O2_51 := Lib.hid (O2_50.out.since hb51 (by omega))
                        clear hb51
                        go_wp2
                        go_ret
                        exact ⟨rfl, HB51.out⟩
                      | true =>
                        have hsum : p1 + p2 = m3 := HPT.out rfl
                        have hsumi : ((p1 : Int) + (p2 : Int) == (m3 : Int)) = true := by rw [beq_iff_eq]; omega
                        have hsumi2 : (p1 : Int) + (p2 : Int) = (m3 : Int) := by omega
                        clear hsumi2
                        obtain rfl : m3 = p1 + p2 := by omega
                        clear hsum
                        go_wp2_with fail
                        refine (HIF.out _ L3_44.out (by omega)).mono ?_
                        rintro e w45 ⟨A7, c7, rfl, ho45, hb45⟩
                        have HB45 := Lib.hid (HB44.out.trans (hb45.mono HB44.out.size))
                        have hz45 := hb45.size
                        have T1_45 := Lib.hid (T1_44.out.since hb45 (by omega))
                        have T2_45 := Lib.hid (T2_44.out.since hb45 (by omega))
                        have L3_45 := Lib.hid (L3_44.out.since hb45 (by omega))
                        clear hb45
                        have F1_45 := Lib.hid ho45
                        clear ho45
                        go_wp2_with fail
                        refine (HSF.out _ L3_45.out (by omega)).mono ?_
                        rintro e w46 ⟨A8, c8, rfl, ho46, hb46⟩
                        have HB46 := Lib.hid (HB45.out.trans (hb46.mono HB45.out.size))
                        have hz46 := hb46.size
                        have T1_46 := Lib.hid (T1_45.out.since hb46 (by omega))
                        have T2_46 := Lib.hid (T2_45.out.since hb46 (by omega))
                        have L3_46 := Lib.hid (L3_45.out.since hb46 (by omega))
                        have F1_46 := Lib.hid (F1_45.out.since hb46 (by omega))
                        clear hb46
                        have F2_46 := Lib.hid ho46
                        clear ho46
                        go_wp2_with fail
                        refine (HIO.out _ L3_46.out (by omega)).mono ?_
                        rintro e w47 ⟨A9, c9, rfl, ho47, hb47⟩
                        have HB47 := Lib.hid (HB46.out.trans (hb47.mono HB46.out.size))
                        have hz47 := hb47.size
                        have T1_47 := Lib.hid (T1_46.out.since hb47 (by omega))
                        have T2_47 := Lib.hid (T2_46.out.since hb47 (by omega))
                        have L3_47 := Lib.hid (L3_46.out.since hb47 (by omega))
                        have F1_47 := Lib.hid (F1_46.out.since hb47 (by omega))
                        have F2_47 := Lib.hid (F2_46.out.since hb47 (by omega))
                        clear hb47
                        have O1_47 := Lib.hid ho47
                        clear ho47
                        go_wp2_with fail
                        refine (HSO.out _ L3_47.out (by omega)).mono ?_
                        rintro e w48 ⟨A10, c10, rfl, ho48, hb48⟩
                        have HB48 := Lib.hid (HB47.out.trans (hb48.mono HB47.out.size))
                        have hz48 := hb48.size
                        have T1_48 := Lib.hid (T1_47.out.since hb48 (by omega))
                        have T2_48 := Lib.hid (T2_47.out.since hb48 (by omega))
                        have L3_48 := Lib.hid (L3_47.out.since hb48 (by omega))
                        have F1_48 := Lib.hid (F1_47.out.since hb48 (by omega))
                        have F2_48 := Lib.hid (F2_47.out.since hb48 (by omega))
                        have O1_48 := Lib.hid (O1_47.out.since hb48 (by omega))
                        clear hb48
                        have O2_48 := Lib.hid ho48
                        clear ho48
                        have HE49 := Lib.hid (pSame_any A5 A6 mt c5 c6 tk w48.heap.size w48 HMT.out (T1_48.out.lks.mono (by omega)) (T2_48.out.lks.mono (by omega)) (Nat.le_refl _) (by omega))
                        go_wp2_with fail
                        refine (HE49.out).mono ?_
                        rintro e w49 ⟨rfl, hb49⟩
                        have HB49 := Lib.hid (HB48.out.trans (hb49.mono HB48.out.size))
                        have hz49 := hb49.size
                        have T1_49 := Lib.hid (T1_48.out.since hb49 (by omega))
                        have T2_49 := Lib.hid (T2_48.out.since hb49 (by omega))
                        have F1_49 := Lib.hid (F1_48.out.since hb49 (by omega))
                        have F2_49 := Lib.hid (F2_48.out.since hb49 (by omega))
                        have O1_49 := Lib.hid (O1_48.out.since hb49 (by omega))
                        have O2_49 := Lib.hid (O2_48.out.since hb49 (by omega))
                        clear hb49
                        have HE50 := Lib.hid (pSame_any A7 A8 p1 c7 c8 fl w49.heap.size w49 HP1.out (F1_49.out.lks.mono (by omega)) (F2_49.out.lks.mono (by omega)) (Nat.le_refl _) (by omega))
                        go_wp2_with fail
                        refine (HE50.out).mono ?_
                        rintro e w50 ⟨rfl, hb50⟩
                        have HB50 := Lib.hid (HB49.out.trans (hb50.mono HB49.out.size))
                        have hz50 := hb50.size
                        have F1_50 := Lib.hid (F1_49.out.since hb50 (by omega))
                        have F2_50 := Lib.hid (F2_49.out.since hb50 (by omega))
                        have O1_50 := Lib.hid (O1_49.out.since hb50 (by omega))
                        have O2_50 := Lib.hid (O2_49.out.since hb50 (by omega))
                        clear hb50
                        have HE51 := Lib.hid (pSame_any A9 A10 p2 c9 c10 ol w50.heap.size w50 HP2.out (O1_50.out.lks.mono (by omega)) (O2_50.out.lks.mono (by omega)) (Nat.le_refl _) (by omega))
                        go_wp2_with fail
                        refine (HE51.out).mono ?_
                        rintro e w51 ⟨rfl, hb51⟩
                        have HB51 := Lib.hid (HB50.out.trans (hb51.mono HB50.out.size))
                        have hz51 := hb51.size
                        have O1_51 := Lib.hid (O1_50.out.since hb51 (by omega))
                        have O2_51 := Lib.hid (O2_50.out.since hb51 (by omega))
                        clear hb51
                        go_wp2
                        go_ret
                        exact ⟨rfl, HB51.out⟩
            · have hnf1 : ((nf : Int) == 0) = false := by rw [beq_eq_false_iff_ne]; omega
              have hnf1d : decide ((nf : Int) = 0) = false := by simp; omega
              have HFA0 := Lib.hid (show L = freeAll L (wl.take 0) from rfl)
              have HO0 := Lib.hid (OwnK.wider HL_8.out (Nat.le_refl _) (show w1.heap.size ≤ w8.heap.size by omega))
              go_wp2
              go_loopw [21, 149] (fun v i wr => ∃ (k mf : Nat) (Af : Option Addr) (cF : Nat) (F : List LK), k ≤ q ∧ i = .int .i64 k ∧ v = .slice Af mf cF ∧ Hid (F = freeAll L (wl.take k)) ∧ Hid (F.length = mf) ∧ Hid (OwnK wr w.heap.size wr.heap.size Af cF F) ∧ Hid (Below w8.heap.size w8 wr)) (fun _ i _ => q - (intOf i).toNat)
              case atStart => exact ⟨0, m, A1, ca, L, by omega, rfl, rfl, HFA0, HLM, HO0, Lib.hid (Below.refl _ _)⟩
              case round =>
                clear HFA0 HO0
                obtain ⟨k, mf, Af, cF, F, hk, rfl, rfl, HFE, HFM, HFO, HBR⟩ := hrel
                obtain ⟨w30, rfl⟩ : ∃ x, x = wr := ⟨wr, rfl⟩
                have hb30 := HBR.out
                have HB30 := Lib.hid (HB8.out.trans (hb30.mono HB8.out.size))
                have hz30 := hb30.size
                have R4_30 := Lib.hid (R4_8.out.since hb30 (by omega))
                have bX_30 := Lib.hid ((hb30.block w1.heap.size (lt_blk bX_8.out)).trans bX_8.out)
                clear hb30
                have hmf8 : mf ≤ 8 := by rw [← HFM.out, HFE.out]; exact Nat.le_trans len_freeAll (by rw [HLM.out]; exact hL)
                have HFY := Lib.hid (show KTiny F by rw [HFE.out]; exact tiny_freeAll HTY.out)
                have HFG := Lib.hid (show goodB F = true by rw [HFE.out]; exact good_freeAll HG1.out)
                have hcapF : mf ≤ cF := by rw [← HFM.out]; exact HFO.out.cap
                by_cases hlt : k < q
                · obtain ⟨b, off, rfl, hbB, hc⟩ := R4_30.out.ints.get (by rw [HQL.out]; omega)
                  have c0 := hc k (by rw [HQL.out]; omega)
                  have hk0 : (0 : Int) ≤ (k : Int) := by omega
                  have hkn : (k : Int) < (q : Int) := by omega
                  have hin := waits_txn (x := (s, t, g)) (v := wl[k]'(by rw [HQL.out]; omega)) HG1.out (by rw [HWL.out]; exact List.getElem_mem _)
                  have HTS := Lib.hid (show wl.take (k + 1) = wl.take k ++ [wl[k]'(by rw [HQL.out]; omega)] from List.take_succ_eq_append_getElem _)
                  obtain ⟨y, hy⟩ : ∃ y, y = wl[k]'(by rw [HQL.out]; omega) := ⟨_, rfl⟩
                  rw [← hy] at c0 hin HTS
                  have HFR := Lib.hid (implFreeLocks_any y Af mf cF F w30.heap.size w30 HFM.out hcapF HFO.out.lks (Nat.le_refl _) (ktiny_small HFY.out (by rw [HFM.out]; omega)))
                  rw [free_is HFG.out hin, KAPost_un] at HFR
                  have HFE2 := Lib.hid (show F.filter (partB y false) = freeAll L (wl.take (k + 1)) by rw [HTS.out, freeAll_snoc, ← HFE.out])
                  obtain ⟨m4, hm4⟩ : ∃ m4, m4 = (F.filter (partB y false)).length := ⟨_, rfl⟩
                  simp only [← hm4] at HFR
                  have HM4 := Lib.hid hm4.symm
                  clear hc hy hin hm4
                  go_wp2_with fail
                  refine HFR.out.mono ?_
                  rintro e w31 ⟨A5, c5, rfl, ho5, hb31⟩
                  have HO5 := Lib.hid (OwnK.wider ho5 (show w.heap.size ≤ w30.heap.size from HB30.out.size) (Nat.le_refl _))
                  have HBR5 := Lib.hid (HBR.out.trans (hb31.mono HBR.out.size))
                  clear ho5 hb31
                  go_wp2
                  go_roundw
                  case rel => exact ⟨k + 1, m4, A5, c5, F.filter (partB y false), by omega, by go_num, rfl, HFE2, HM4, HO5, HBR5⟩
                  case measure => simp [intOf]; omega
                · have hkq : k = q := by omega
                  have HFE3 := Lib.hid (show F = freeAll L (waitsL L (s, t, g)) by rw [HFE.out, HWL.out, List.take_of_length_le (by rw [HQL.out]; omega)])
                  subst hkq
                  have HTF := Lib.hid (show takeA F (s, t, g) = (takeL F (s, t, g), true) ∧ goodB (takeL F (s, t, g)) = true by rw [HFE3.out]; exact take_frees HG1.out HL1.out (by rw [HLM.out]; exact hL))
                  have HTK := Lib.hid (implTakeLock_any s t g Af mf cF F w30.heap.size w30 HFM.out hcapF HFO.out.lks (Nat.le_refl _) (ktiny_small HFY.out (by rw [HFM.out]; omega)) (by omega))
                  rw [HTF.out.1, KAPost_un] at HTK
                  have htb := take_len F (s, t, g)
                  rw [HFM.out] at htb
                  have HTYT := Lib.hid (ktiny_take (x := (s, t, g)) HFY.out hs)
                  have HGT := Lib.hid HTF.out.2
                  obtain ⟨TT, hTT⟩ : ∃ TT, TT = takeL F (s, t, g) := ⟨_, rfl⟩
                  rw [← hTT] at HTK htb HTYT HGT
                  obtain ⟨m6, hm6⟩ : ∃ m6, m6 = TT.length := ⟨_, rfl⟩
                  rw [← hm6] at htb
                  simp only [← hm6] at HTK
                  have HM6 := Lib.hid hm6.symm
                  clear hTT hm6
                  have y0 : w30.cell? ⟨w1.heap.size, 0, none⟩ = some (.string s) := cell_blk (i := 0) bX_30.out rfl
                  have y1 : w30.cell? ⟨w1.heap.size, 1, none⟩ = some (.int .i64 t) := cell_blk (i := 1) bX_30.out rfl
                  have y2 : w30.cell? ⟨w1.heap.size, 2, none⟩ = some (.bool g) := cell_blk (i := 2) bX_30.out rfl
                  have yl := lt_blk bX_30.out
                  go_wp2_with fail
                  refine HTK.out.mono ?_
                  rintro e w32 ⟨A6, c6, rfl, ho6, hb32⟩
                  clear y0 y1 y2 yl
                  have HB32 := Lib.hid (HB30.out.trans (hb32.mono HB30.out.size))
                  have hz32 := hb32.size
                  have HGG := Lib.hid (implGoodLocks_any A6 m6 c6 TT w32.heap.size w32 HM6.out (by rw [← HM6.out]; exact ho6.cap) ho6.lks (Nat.le_refl _) (ktiny_small HTYT.out (by rw [HM6.out]; omega)))
                  rw [HGT.out] at HGG
                  clear ho6 hb32
                  go_wp2_with fail
                  refine HGG.out.mono ?_
                  rintro e w33 ⟨rfl, hb33⟩
                  have HB33 := Lib.hid (HB32.out.trans (hb33.mono HB32.out.size))
                  have hz33 := hb33.size
                  clear hb33
                  go_wp2_with fail
                  refine (HD2.out _ HB33.out).mono ?_
                  rintro e w40 ⟨A2, ca2, L2, s2, t2, g2, rfl, ho40, hL2, hty2, hs2, hb40⟩
                  have HB40 := Lib.hid (HB33.out.trans (hb40.mono HB33.out.size))
                  have hz40 := hb40.size
                  clear hb40
                  have L2_40 := Lib.hid ho40
                  clear ho40
                  have HTY2 := Lib.hid hty2
                  obtain ⟨m2, hm2⟩ : ∃ m2, m2 = L2.length := ⟨_, rfl⟩
                  rw [← hm2] at hL2 ⊢
                  have HM2 := Lib.hid hm2.symm
                  have hcap2 : m2 ≤ ca2 := by rw [hm2]; exact L2_40.out.cap
                  clear hm2 hty2
                  have hb41 := below1 w40 (.cells #[.string s2, .int .i64 t2, .bool g2] 27)
                  have hky := heap_alloc_new w40 (.cells #[.string s2, .int .i64 t2, .bool g2] 27)
                  obtain ⟨w41, hw41⟩ : ∃ x, x = w40.alloc (.cells #[.string s2, .int .i64 t2, .bool g2] 27) := ⟨_, rfl⟩
                  rw [← hw41] at hb41 hky
                  have HB41 := Lib.hid (HB40.out.trans (hb41.mono HB40.out.size))
                  have hz41 := hb41.size
                  have L2_41 := Lib.hid (L2_40.out.since hb41 (by omega))
                  clear hb41
                  have bY_41 := Lib.hid hky
                  clear hky
                  have HIT := Lib.hid (fun W (ho : OwnK W w33.heap.size w40.heap.size A2 ca2 L2) (hh : w40.heap.size ≤ W.heap.size) => implTakeLock_any s2 t2 g2 A2 m2 ca2 L2 W.heap.size W HM2.out hcap2 (ho.lks.mono hh) (Nat.le_refl _) (ktiny_small HTY2.out (by rw [HM2.out]; omega)) (by omega))
                  have HST := Lib.hid (fun W (ho : OwnK W w33.heap.size w40.heap.size A2 ca2 L2) (hh : w40.heap.size ≤ W.heap.size) => specTakeLock_any s2 t2 g2 A2 m2 ca2 L2 W.heap.size W HM2.out hcap2 (ho.lks.mono hh) (Nat.le_refl _) (ktiny_small HTY2.out (by rw [HM2.out]; omega)) (by omega))
                  have HTL := Lib.hid (takeA_len L2 (s2, t2, g2))
                  obtain ⟨⟨tk, tok⟩, htk⟩ : ∃ r, r = takeA L2 (s2, t2, g2) := ⟨_, rfl⟩
                  simp only [← htk, KAPost_un] at HIT HST HTL
                  obtain ⟨mt, hmt⟩ : ∃ mt, mt = tk.length := ⟨_, rfl⟩
                  simp only [← hmt] at HIT HST HTL
                  have HMT := Lib.hid hmt.symm
                  have hmtb : mt ≤ 60 := HTL.out
                  clear htk hmt HTL
                  have y0 : w41.cell? ⟨w40.heap.size, 0, none⟩ = some (.string s2) := cell_blk (i := 0) bY_41.out rfl
                  have y1 : w41.cell? ⟨w40.heap.size, 1, none⟩ = some (.int .i64 t2) := cell_blk (i := 1) bY_41.out rfl
                  have y2 : w41.cell? ⟨w40.heap.size, 2, none⟩ = some (.bool g2) := cell_blk (i := 2) bY_41.out rfl
                  have yl := lt_blk bY_41.out
                  go_wp2_with fail
                  rw [← hw41]
                  clear hw41
                  refine (HIT.out _ L2_41.out (by omega)).mono ?_
                  rintro e w42 ⟨A5, c5, rfl, ho42, hb42⟩
                  clear y0 y1 y2 yl
                  have HB42 := Lib.hid (HB41.out.trans (hb42.mono HB41.out.size))
                  have hz42 := hb42.size
                  have L2_42 := Lib.hid (L2_41.out.since hb42 (by omega))
                  have bY_42 := Lib.hid ((hb42.block w40.heap.size (lt_blk bY_41.out)).trans bY_41.out)
                  clear hb42
                  have T1_42 := Lib.hid ho42
                  clear ho42
                  have y0 : w42.cell? ⟨w40.heap.size, 0, none⟩ = some (.string s2) := cell_blk (i := 0) bY_42.out rfl
                  have y1 : w42.cell? ⟨w40.heap.size, 1, none⟩ = some (.int .i64 t2) := cell_blk (i := 1) bY_42.out rfl
                  have y2 : w42.cell? ⟨w40.heap.size, 2, none⟩ = some (.bool g2) := cell_blk (i := 2) bY_42.out rfl
                  have yl := lt_blk bY_42.out
                  go_wp2_with fail
                  refine (HST.out _ L2_42.out (by omega)).mono ?_
                  rintro e w43 ⟨A6, c6, rfl, ho43, hb43⟩
                  clear y0 y1 y2 yl
                  have HB43 := Lib.hid (HB42.out.trans (hb43.mono HB42.out.size))
                  have hz43 := hb43.size
                  have L2_43 := Lib.hid (L2_42.out.since hb43 (by omega))
                  have T1_43 := Lib.hid (T1_42.out.since hb43 (by omega))
                  have bY_43 := Lib.hid ((hb43.block w40.heap.size (lt_blk bY_42.out)).trans bY_42.out)
                  clear hb43
                  have T2_43 := Lib.hid ho43
                  clear ho43
                  go_wp2_with fail
                  refine (HD3.out _ HB43.out).mono ?_
                  rintro e w44 ⟨A3, ca3, L3, v3, rfl, ho44, hL3, hty3, hb44⟩
                  have HB44 := Lib.hid (HB43.out.trans (hb44.mono HB43.out.size))
                  have hz44 := hb44.size
                  have T1_44 := Lib.hid (T1_43.out.since hb44 (by omega))
                  have T2_44 := Lib.hid (T2_43.out.since hb44 (by omega))
                  clear hb44
                  have L3_44 := Lib.hid ho44
                  clear ho44
                  have HTY3 := Lib.hid hty3
                  obtain ⟨m3, hm3⟩ : ∃ m3, m3 = L3.length := ⟨_, rfl⟩
                  rw [← hm3] at hL3 ⊢
                  have HM3 := Lib.hid hm3.symm
                  have hcap3 : m3 ≤ ca3 := by rw [hm3]; exact L3_44.out.cap
                  clear hm3 hty3
                  have HIF := Lib.hid (fun W (ho : OwnK W w43.heap.size w44.heap.size A3 ca3 L3) (hh : w44.heap.size ≤ W.heap.size) => implFreeLocks_any v3 A3 m3 ca3 L3 W.heap.size W HM3.out hcap3 (ho.lks.mono hh) (Nat.le_refl _) (ktiny_small HTY3.out (by rw [HM3.out]; omega)))
                  have HSF := Lib.hid (fun W (ho : OwnK W w43.heap.size w44.heap.size A3 ca3 L3) (hh : w44.heap.size ≤ W.heap.size) => specFreeLocks_any v3 A3 m3 ca3 L3 W.heap.size W HM3.out hcap3 (ho.lks.mono hh) (Nat.le_refl _) (ktiny_small HTY3.out (by rw [HM3.out]; omega)))
                  have HIO := Lib.hid (fun W (ho : OwnK W w43.heap.size w44.heap.size A3 ca3 L3) (hh : w44.heap.size ≤ W.heap.size) => implLocksOf_any v3 A3 m3 ca3 L3 W.heap.size W HM3.out hcap3 (ho.lks.mono hh) (Nat.le_refl _) (ktiny_small HTY3.out (by rw [HM3.out]; omega)))
                  have HSO := Lib.hid (fun W (ho : OwnK W w43.heap.size w44.heap.size A3 ca3 L3) (hh : w44.heap.size ≤ W.heap.size) => specLocksOf_any v3 A3 m3 ca3 L3 W.heap.size W HM3.out hcap3 (ho.lks.mono hh) (Nat.le_refl _) (ktiny_small HTY3.out (by rw [HM3.out]; omega)))
                  have hparts : (freeA L3 v3).2 = true → (freeA L3 v3).1.length + (ofA L3 v3).1.length = m3 := by
                    intro h
                    have e := part_len L3 v3
                    rw [HM3.out] at e
                    unfold freeA ofA at *
                    split at h
                    · next hc => rw [if_pos hc, if_pos hc]; exact e
                    · cases h
                  have hfl : (freeA L3 v3).1.length ≤ m3 := by rw [← HM3.out]; exact freeA_len _ _
                  have hol : (ofA L3 v3).1.length ≤ m3 := by rw [← HM3.out]; exact ofA_len _ _
                  obtain ⟨⟨fl, fok⟩, hfa⟩ : ∃ r, r = freeA L3 v3 := ⟨_, rfl⟩
                  obtain ⟨⟨ol, ook⟩, hoa⟩ : ∃ r, r = ofA L3 v3 := ⟨_, rfl⟩
                  simp only [← hfa, ← hoa] at hparts hfl hol
                  simp only [← hfa, KAPost_un] at HIF HSF
                  simp only [← hoa, KAPost_un] at HIO HSO
                  obtain ⟨p1, hp1⟩ : ∃ p1, p1 = fl.length := ⟨_, rfl⟩
                  obtain ⟨p2, hp2⟩ : ∃ p2, p2 = ol.length := ⟨_, rfl⟩
                  simp only [← hp1] at HIF HSF hparts hfl
                  simp only [← hp2] at HIO HSO hparts hol
                  have HP1 := Lib.hid hp1.symm
                  have HP2 := Lib.hid hp2.symm
                  have HPT := Lib.hid hparts
                  clear hfa hoa hp1 hp2 hparts
                  cases fok with
                  | false =>
                    go_wp2_with fail
                    refine (HIF.out _ L3_44.out (by omega)).mono ?_
                    rintro e w45 ⟨A7, c7, rfl, ho45, hb45⟩
                    have HB45 := Lib.hid (HB44.out.trans (hb45.mono HB44.out.size))
                    have hz45 := hb45.size
                    have T1_45 := Lib.hid (T1_44.out.since hb45 (by omega))
                    have T2_45 := Lib.hid (T2_44.out.since hb45 (by omega))
                    have L3_45 := Lib.hid (L3_44.out.since hb45 (by omega))
                    clear hb45
                    have F1_45 := Lib.hid ho45
                    clear ho45
                    go_wp2_with fail
                    refine (HSF.out _ L3_45.out (by omega)).mono ?_
                    rintro e w46 ⟨A8, c8, rfl, ho46, hb46⟩
                    have HB46 := Lib.hid (HB45.out.trans (hb46.mono HB45.out.size))
                    have hz46 := hb46.size
                    have T1_46 := Lib.hid (T1_45.out.since hb46 (by omega))
                    have T2_46 := Lib.hid (T2_45.out.since hb46 (by omega))
                    have L3_46 := Lib.hid (L3_45.out.since hb46 (by omega))
                    have F1_46 := Lib.hid (F1_45.out.since hb46 (by omega))
                    clear hb46
                    have F2_46 := Lib.hid ho46
                    clear ho46
                    go_wp2_with fail
                    refine (HIO.out _ L3_46.out (by omega)).mono ?_
                    rintro e w47 ⟨A9, c9, rfl, ho47, hb47⟩
                    have HB47 := Lib.hid (HB46.out.trans (hb47.mono HB46.out.size))
                    have hz47 := hb47.size
                    have T1_47 := Lib.hid (T1_46.out.since hb47 (by omega))
                    have T2_47 := Lib.hid (T2_46.out.since hb47 (by omega))
                    have L3_47 := Lib.hid (L3_46.out.since hb47 (by omega))
                    have F1_47 := Lib.hid (F1_46.out.since hb47 (by omega))
                    have F2_47 := Lib.hid (F2_46.out.since hb47 (by omega))
                    clear hb47
                    have O1_47 := Lib.hid ho47
                    clear ho47
                    go_wp2_with fail
                    refine (HSO.out _ L3_47.out (by omega)).mono ?_
                    rintro e w48 ⟨A10, c10, rfl, ho48, hb48⟩
                    have HB48 := Lib.hid (HB47.out.trans (hb48.mono HB47.out.size))
                    have hz48 := hb48.size
                    have T1_48 := Lib.hid (T1_47.out.since hb48 (by omega))
                    have T2_48 := Lib.hid (T2_47.out.since hb48 (by omega))
                    have L3_48 := Lib.hid (L3_47.out.since hb48 (by omega))
                    have F1_48 := Lib.hid (F1_47.out.since hb48 (by omega))
                    have F2_48 := Lib.hid (F2_47.out.since hb48 (by omega))
                    have O1_48 := Lib.hid (O1_47.out.since hb48 (by omega))
                    clear hb48
                    have O2_48 := Lib.hid ho48
                    clear ho48
                    have HE49 := Lib.hid (pSame_any A5 A6 mt c5 c6 tk w48.heap.size w48 HMT.out (T1_48.out.lks.mono (by omega)) (T2_48.out.lks.mono (by omega)) (Nat.le_refl _) (by omega))
                    go_wp2_with fail
                    refine (HE49.out).mono ?_
                    rintro e w49 ⟨rfl, hb49⟩
                    have HB49 := Lib.hid (HB48.out.trans (hb49.mono HB48.out.size))
                    have hz49 := hb49.size
                    have T1_49 := Lib.hid (T1_48.out.since hb49 (by omega))
                    have T2_49 := Lib.hid (T2_48.out.since hb49 (by omega))
                    have F1_49 := Lib.hid (F1_48.out.since hb49 (by omega))
                    have F2_49 := Lib.hid (F2_48.out.since hb49 (by omega))
                    have O1_49 := Lib.hid (O1_48.out.since hb49 (by omega))
                    have O2_49 := Lib.hid (O2_48.out.since hb49 (by omega))
                    clear hb49
                    have HE50 := Lib.hid (pSame_any A7 A8 p1 c7 c8 fl w49.heap.size w49 HP1.out (F1_49.out.lks.mono (by omega)) (F2_49.out.lks.mono (by omega)) (Nat.le_refl _) (by omega))
                    go_wp2_with fail
                    refine (HE50.out).mono ?_
                    rintro e w50 ⟨rfl, hb50⟩
                    have HB50 := Lib.hid (HB49.out.trans (hb50.mono HB49.out.size))
                    have hz50 := hb50.size
                    have F1_50 := Lib.hid (F1_49.out.since hb50 (by omega))
                    have F2_50 := Lib.hid (F2_49.out.since hb50 (by omega))
                    have O1_50 := Lib.hid (O1_49.out.since hb50 (by omega))
                    have O2_50 := Lib.hid (O2_49.out.since hb50 (by omega))
                    clear hb50
                    have HE51 := Lib.hid (pSame_any A9 A10 p2 c9 c10 ol w50.heap.size w50 HP2.out (O1_50.out.lks.mono (by omega)) (O2_50.out.lks.mono (by omega)) (Nat.le_refl _) (by omega))
                    go_wp2_with fail
                    refine (HE51.out).mono ?_
                    rintro e w51 ⟨rfl, hb51⟩
                    have HB51 := Lib.hid (HB50.out.trans (hb51.mono HB50.out.size))
                    have hz51 := hb51.size
                    have O1_51 := Lib.hid (O1_50.out.since hb51 (by omega))
                    have O2_51 := Lib.hid (O2_50.out.since hb51 (by omega))
                    clear hb51
                    go_wp2
                    go_ret
                    exact ⟨rfl, HB51.out⟩
                  | true =>
                    have hsum : p1 + p2 = m3 := HPT.out rfl
                    have hsumi : ((p1 : Int) + (p2 : Int) == (m3 : Int)) = true := by rw [beq_iff_eq]; omega
                    have hsumi2 : (p1 : Int) + (p2 : Int) = (m3 : Int) := by omega
                    clear hsumi2
                    obtain rfl : m3 = p1 + p2 := by omega
                    clear hsum
                    go_wp2_with fail
                    refine (HIF.out _ L3_44.out (by omega)).mono ?_
                    rintro e w45 ⟨A7, c7, rfl, ho45, hb45⟩
                    have HB45 := Lib.hid (HB44.out.trans (hb45.mono HB44.out.size))
                    have hz45 := hb45.size
                    have T1_45 := Lib.hid (T1_44.out.since hb45 (by omega))
                    have T2_45 := Lib.hid (T2_44.out.since hb45 (by omega))
                    have L3_45 := Lib.hid (L3_44.out.since hb45 (by omega))
                    clear hb45
                    have F1_45 := Lib.hid ho45
                    clear ho45
                    go_wp2_with fail
                    refine (HSF.out _ L3_45.out (by omega)).mono ?_
                    rintro e w46 ⟨A8, c8, rfl, ho46, hb46⟩
                    have HB46 := Lib.hid (HB45.out.trans (hb46.mono HB45.out.size))
                    have hz46 := hb46.size
                    have T1_46 := Lib.hid (T1_45.out.since hb46 (by omega))
                    have T2_46 := Lib.hid (T2_45.out.since hb46 (by omega))
                    have L3_46 := Lib.hid (L3_45.out.since hb46 (by omega))
                    have F1_46 := Lib.hid (F1_45.out.since hb46 (by omega))
                    clear hb46
                    have F2_46 := Lib.hid ho46
                    clear ho46
                    go_wp2_with fail
                    refine (HIO.out _ L3_46.out (by omega)).mono ?_
                    rintro e w47 ⟨A9, c9, rfl, ho47, hb47⟩
                    have HB47 := Lib.hid (HB46.out.trans (hb47.mono HB46.out.size))
                    have hz47 := hb47.size
                    have T1_47 := Lib.hid (T1_46.out.since hb47 (by omega))
                    have T2_47 := Lib.hid (T2_46.out.since hb47 (by omega))
                    have L3_47 := Lib.hid (L3_46.out.since hb47 (by omega))
                    have F1_47 := Lib.hid (F1_46.out.since hb47 (by omega))
                    have F2_47 := Lib.hid (F2_46.out.since hb47 (by omega))
                    clear hb47
                    have O1_47 := Lib.hid ho47
                    clear ho47
                    go_wp2_with fail
                    refine (HSO.out _ L3_47.out (by omega)).mono ?_
                    rintro e w48 ⟨A10, c10, rfl, ho48, hb48⟩
                    have HB48 := Lib.hid (HB47.out.trans (hb48.mono HB47.out.size))
                    have hz48 := hb48.size
                    have T1_48 := Lib.hid (T1_47.out.since hb48 (by omega))
                    have T2_48 := Lib.hid (T2_47.out.since hb48 (by omega))
                    have L3_48 := Lib.hid (L3_47.out.since hb48 (by omega))
                    have F1_48 := Lib.hid (F1_47.out.since hb48 (by omega))
                    have F2_48 := Lib.hid (F2_47.out.since hb48 (by omega))
                    have O1_48 := Lib.hid (O1_47.out.since hb48 (by omega))
                    clear hb48
                    have O2_48 := Lib.hid ho48
                    clear ho48
                    have HE49 := Lib.hid (pSame_any A5 A6 mt c5 c6 tk w48.heap.size w48 HMT.out (T1_48.out.lks.mono (by omega)) (T2_48.out.lks.mono (by omega)) (Nat.le_refl _) (by omega))
                    go_wp2_with fail
                    refine (HE49.out).mono ?_
                    rintro e w49 ⟨rfl, hb49⟩
                    have HB49 := Lib.hid (HB48.out.trans (hb49.mono HB48.out.size))
                    have hz49 := hb49.size
                    have T1_49 := Lib.hid (T1_48.out.since hb49 (by omega))
                    have T2_49 := Lib.hid (T2_48.out.since hb49 (by omega))
                    have F1_49 := Lib.hid (F1_48.out.since hb49 (by omega))
                    have F2_49 := Lib.hid (F2_48.out.since hb49 (by omega))
                    have O1_49 := Lib.hid (O1_48.out.since hb49 (by omega))
                    have O2_49 := Lib.hid (O2_48.out.since hb49 (by omega))
                    clear hb49
                    have HE50 := Lib.hid (pSame_any A7 A8 p1 c7 c8 fl w49.heap.size w49 HP1.out (F1_49.out.lks.mono (by omega)) (F2_49.out.lks.mono (by omega)) (Nat.le_refl _) (by omega))
                    go_wp2_with fail
                    refine (HE50.out).mono ?_
                    rintro e w50 ⟨rfl, hb50⟩
                    have HB50 := Lib.hid (HB49.out.trans (hb50.mono HB49.out.size))
                    have hz50 := hb50.size
                    have F1_50 := Lib.hid (F1_49.out.since hb50 (by omega))
                    have F2_50 := Lib.hid (F2_49.out.since hb50 (by omega))
                    have O1_50 := Lib.hid (O1_49.out.since hb50 (by omega))
                    have O2_50 := Lib.hid (O2_49.out.since hb50 (by omega))
                    clear hb50
                    have HE51 := Lib.hid (pSame_any A9 A10 p2 c9 c10 ol w50.heap.size w50 HP2.out (O1_50.out.lks.mono (by omega)) (O2_50.out.lks.mono (by omega)) (Nat.le_refl _) (by omega))
                    go_wp2_with fail
                    refine (HE51.out).mono ?_
                    rintro e w51 ⟨rfl, hb51⟩
                    have HB51 := Lib.hid (HB50.out.trans (hb51.mono HB50.out.size))
                    have hz51 := hb51.size
                    have O1_51 := Lib.hid (O1_50.out.since hb51 (by omega))
                    have O2_51 := Lib.hid (O2_50.out.since hb51 (by omega))
                    clear hb51
                    go_wp2
                    go_ret
                    exact ⟨rfl, HB51.out⟩
  · have HBG := Lib.hid (big_yes A B n c n' c' w hmx hmx' (by omega))
    clear h hn hA hmx hn' hB hmx'
    go_enter Try.func3, Try.ntmps3
    go_wp2_with fail
    refine HBG.out.mono ?_
    rintro e w0 ⟨rfl, rfl⟩
    go_wp2
    go_ret
    exact ⟨rfl, Below.refl _ _⟩
end Go.Proofs.Ytlfdefjkfacngaa.Lk
