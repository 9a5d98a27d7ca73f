/-
  The walk of the law FnLost.
-/
import Derived.Test.YtojplmjoipjabaaFsL
import Derived.Test.YtojplmjoipjabaaFsS
import Derived.Deep.RegionHeld3
namespace Go.Proofs.Ytojplmjoipjabaa.Fs
open Go.RowKit Nt Fv
set_option linter.unusedVariables false
set_option linter.unusedSimpArgs false

/-- A row of three in a new block. -/
theorem three_own (w : World) : OwnI (w.alloc (.cells #[.int .i64 0, .int .i64 1, .int .i64 2] 3)) 0 (w.alloc (.cells #[.int .i64 0, .int .i64 1, .int .i64 2] 3)).heap.size (some ⟨w.heap.size, 0, none⟩) 3 [0, 1, 2] :=
  .inr ⟨w.heap.size, #[.int .i64 0, .int .i64 1, .int .i64 2], rfl, Nat.zero_le _, by simp, heap_alloc_new _ _, by simp, by unfold maxLen; omega, by simp, fun j hj i hi => by
    have hi0 : i = 0 := by omega
    subst hi0
    simp at hj
    have : j = 0 ∨ j = 1 ∨ j = 2 := by omega
    rcases this with rfl | rfl | rfl <;> rfl⟩

set_option maxRecDepth 100000 in
set_option maxHeartbeats 16000000 in
theorem lost_walk (w : World) (A : Option Addr) (n c : Nat) (l : List UInt8) (hn : l.length = n) (h : BytesAt w A l) (hm : n ≤ maxLen) :
    Calls Try.prog 9 #[.slice A n c] w fun e w' => e = .returned (.bool true) ∧ Below w.heap.size w w' := by
  by_cases hb : n ≤ 65536
  · skip
    have HV := Lib.hid (fun W => vBig_no A n c W hb)
    have HAT := Lib.hid (fun i W (hW : BytesAt W A l) hi => vAt_any A n c l i W hn hW (by omega) hi)
    have HBY := Lib.hid h
    have HATT := Lib.hid (fun i W (hW : Below w.heap.size w W) hi => HAT.out i W (HBY.out.below hW) hi)
    have v0 := vN_le l 0
    have hb3 := below1 w (.cells #[.int .i64 0, .int .i64 1, .int .i64 2] 3)
    have HA0 := Lib.hid (HATT.out 0 _ hb3 (by omega))
    have HO3 := Lib.hid (three_own w)
    obtain ⟨u0, hu0⟩ : ∃ u, u = vN l 0 := ⟨_, rfl⟩
    rw [← hu0, show ((0 : Nat) : Int) = 0 from rfl] at HA0
    rw [← hu0] at v0
    obtain ⟨far, hfar⟩ : ∃ f : Int, f = (u0 : Int) % 5 := ⟨_, rfl⟩
    have hf4 : 0 ≤ far ∧ far ≤ 5 := by omega
    have HFAR := Lib.hid hfar
    obtain ⟨L, hL⟩ : ∃ L : List Int, L = [0, 1, 2] := ⟨_, rfl⟩
    have hL3 : L.length = 3 := by rw [hL]; rfl
    rw [← hL] at HO3
    have HRU := Lib.hid (show Run 0 L far [] 1 41 from ⟨by omega, by rw [hL]; rfl, hf4, by simp, Let.nil, by omega, by omega⟩)
    have hgood := HRU.out.good
    have HN1 := Lib.hid (implNew_at HO3.out (Nat.le_refl _) (by omega) hgood)
    rw [hL3] at HN1
    have HL3 := Lib.hid hL3
    clear hn h hm hu0 hfar HAT hgood hL hL3
    obtain ⟨W0, hW0⟩ : ∃ W0, W0 = w.alloc (.cells #[.int .i64 0, .int .i64 1, .int .i64 2] 3) := ⟨_, rfl⟩
    have HW0 := Lib.hid hW0
    rw [← hW0] at HN1 HA0 hb3
    clear hW0 HO3
    go_enter Try.func9, Try.ntmps9
    go_wp2_with fail
    refine (HV.out _).mono ?_
    rintro e w1 ⟨rfl, rfl⟩
    go_wp2_with fail
    rw [← HW0.out]
    refine HA0.out.mono ?_
    rintro e w1 ⟨rfl, rfl⟩
    go_wp2_with fail
    rw [← HFAR.out]
    refine HN1.out.mono ?_
    rintro e w2 ⟨A2, c2, B2, d2, rfl, hoi2, hol2, hb2⟩
    have hb4 := below1 w2 (.cells #[.int .i64 0, .slice A2 L.length c2, .int .i64 far, .slice B2 0 d2] 35)
    have hna4 := NetAt.new (t := 0) (far := far) hoi2 hol2
    simp only [List.length_nil] at hna4
    have HB4 := Lib.hid (hb3.trans ((hb2.trans (hb4.mono hb2.size)).mono hb3.size))
    have hgg := (hb3.trans (hb2.mono hb3.size)).size
    simp only [List.length_nil]
    go_upto_region 4 with fail
    obtain ⟨g, hg⟩ : ∃ g, g = w2.heap.size := ⟨_, rfl⟩
    obtain ⟨W2, hW2⟩ : ∃ W2, W2 = w2.alloc (.cells #[.int .i64 0, .slice A2 L.length c2, .int .i64 far, .slice B2 0 d2] 35) := ⟨_, rfl⟩
    rw [← hW2] at hna4 HB4 ⊢
    rw [← hg] at hna4 hgg ⊢
    have HNA4 := Lib.hid hna4
    have hgw : w.heap.size ≤ g := by omega
    clear hoi2 hol2 hb2 hb3 hb4 hna4 hW2 hg HN1 hgg HA0 HW0
    go_wp2_with fail
    go_loopw [5, 6, 7] (fun sv qv iv wr => ∃ (i s q : Nat) (ls : List (Int × Int × Int × ByteArray)) (A : Option Addr) (c : Nat) (A' : Option Addr) (c' : Nat), i ≤ 30 ∧ iv = .int .i64 (i : Int) ∧ sv = .int .i64 (s : Int) ∧ qv = .int .i64 (q : Int) ∧ Hid (q + ls.length = s) ∧ s ≤ i ∧ Hid (Run (i : Int) L far ls ((i : Int) + 1) (41 + 50 * (i : Int))) ∧ NetAt wr g (i : Int) L far ls A c A' c' ∧ Below w.heap.size w wr) (fun _ _ iv _ => 30 - (intOf iv).toNat)
    case atStart => exact ⟨0, 0, 0, [], A2, c2, B2, d2, by omega, rfl, rfl, rfl, rfl, by omega, HRU.out, HNA4.out, HB4.out⟩
    case round =>
      clear HNA4 HB4 HRU
      obtain ⟨i, s, q, ls, A', c', B', d', hi30, rfl, rfl, rfl, HQS, hsi, HRU, hna, hbw⟩ := hrel
      by_cases hlt : i < 30
      · have HNA0 := Lib.hid hna
        have HBW0 := Lib.hid hbw
        have HRUW := Lib.hid (HRU.out.wide (hi' := 41 + 50 * (i : Int) + 50) (by omega) (by omega))
        obtain ⟨y0, y1, y2, y3⟩ := hna.cells
        have hb1 := below1 wr (.cells #[.int .i64 (i : Int), .slice A' L.length c', .int .i64 far, .slice B' ls.length d'] 35)
        have hna1 := hna.below hb1
        have hnx1 := NetAt.new (t := (i : Int)) (far := far) hna.2.1 hna.2.2
        have HB1 := Lib.hid (hbw.trans (hb1.mono hbw.size))
        have hbwz := hbw.size
        clear hna hbw
        go_upto_region 9 with fail
        obtain ⟨g8, hg8⟩ : ∃ g8, g8 = wr.heap.size := ⟨_, rfl⟩
        obtain ⟨WX, hWX⟩ : ∃ WX, WX = wr.alloc (.cells #[.int .i64 (i : Int), .slice A' L.length c', .int .i64 far, .slice B' ls.length d'] 35) := ⟨_, rfl⟩
        have HG8 := Lib.hid (show w.heap.size ≤ g8 by rw [hg8]; exact hbwz)
        have hgne : g ≠ g8 := by have := HNA0.out.lt; omega
        rw [← hWX] at hna1 hnx1 HB1 ⊢
        rw [← hg8] at hnx1 ⊢
        have HNA := Lib.hid hna1
        have HNX := Lib.hid hnx1
        have HBW := HB1
        have HB0 := Lib.hid (show Below WX.heap.size WX WX.drew from (Below.refl _ _).drew)
        have hnaD := hna1.below HB0.out
        clear y0 y1 y2 y3 hb1 hna1 hnx1 hWX hg8 HNA0 HBW0 HB1
        have v1 := vN_le l (i + 1)
        have HV1 := Lib.hid (fun W (hW : Below WX.heap.size WX W) => HATT.out (i + 1) W (HBW.out.trans (hW.mono HBW.out.size)) (by omega))
        obtain ⟨u1, hu1⟩ : ∃ u, u = vN l (i + 1) := ⟨_, rfl⟩
        rw [← hu1, show ((i + 1 : Nat) : Int) = (i : Int) + 1 by omega] at HV1
        rw [← hu1] at v1
        clear hu1
        have v2 := vN_le l (i + 2)
        have HV2 := Lib.hid (fun W (hW : Below WX.heap.size WX W) => HATT.out (i + 2) W (HBW.out.trans (hW.mono HBW.out.size)) (by omega))
        obtain ⟨u2, hu2⟩ : ∃ u, u = vN l (i + 2) := ⟨_, rfl⟩
        rw [← hu2, show ((i + 2 : Nat) : Int) = (i : Int) + 2 by omega] at HV2
        rw [← hu2] at v2
        clear hu2
        have v3 := vN_le l (i + 3)
        have HV3 := Lib.hid (fun W (hW : Below WX.heap.size WX W) => HATT.out (i + 3) W (HBW.out.trans (hW.mono HBW.out.size)) (by omega))
        obtain ⟨u3, hu3⟩ : ∃ u, u = vN l (i + 3) := ⟨_, rfl⟩
        rw [← hu3, show ((i + 3 : Nat) : Int) = (i : Int) + 3 by omega] at HV3
        rw [← hu3] at v3
        clear hu3
        go_wp2_with fail
        refine (HV1.out _ (Below.refl _ _)).mono ?_
        rintro e w1 ⟨rfl, rfl⟩
        have hk5 : (u1 : Int) % 5 = 0 ∨ (u1 : Int) % 5 = 1 ∨ (u1 : Int) % 5 = 2 ∨ (u1 : Int) % 5 = 3 ∨ (u1 : Int) % 5 = 4 := by omega
        rcases hk5 with hk5 | hk5 | hk5 | hk5 | hk5
        · by_cases hne : ((u2 : Int) % 3) = ((u3 : Int) % 3)
          · skip
            obtain ⟨f, hf⟩ : ∃ f : Int, f = (u2 : Int) % 3 := ⟨_, rfl⟩
            obtain ⟨t, ht⟩ : ∃ t : Int, t = (u3 : Int) % 3 := ⟨_, rfl⟩
            have hft : f = t := by rw [hf, ht]; exact hne
            subst hft
            have hans := sendNo (t := (i : Int)) (far := far) (is := L) (ls := ls) f ⟨#[120]⟩
            have HFF := Lib.hid (show Int.tmod (u2 : Int) 3 = f by rw [Int.tmod_eq_emod_of_nonneg (by omega)]; omega)
            have HTT := Lib.hid (show Int.tmod (u3 : Int) 3 = f by rw [Int.tmod_eq_emod_of_nonneg (by omega)]; omega)
            clear ht
            clear hf
            have HS := Lib.hid (implSend_at hnaD HRUW.out.small f f ⟨#[120]⟩ (by decide))
            rw [hans] at HS
            unfold noA at HS
            simp only at HS
            have hsD := HB0.out.size
            obtain ⟨y0, y1, y2, y3⟩ := HNA.out.cells
            have hw2 : IntKind.i64.wrap ((i : Int) + 2) = (i : Int) + 2 := by rw [IntKind.wrap_i64]; omega
            have hw3 : IntKind.i64.wrap ((i : Int) + 3) = (i : Int) + 3 := by rw [IntKind.wrap_i64]; omega
            go_upto_region 13 with fail
            have HS0 : WX.drew.cell? ⟨g, 0, none⟩ = some (.int .i64 (i : Int)) ∧ WX.drew.cell? ⟨g, 1, none⟩ = some (.slice A' L.length c') ∧ WX.drew.cell? ⟨g, 2, none⟩ = some (.int .i64 far) ∧ WX.drew.cell? ⟨g, 3, none⟩ = some (.slice B' ls.length d') := ⟨y0, y1, y2, y3⟩
            go_region_held3 (fun w' => w'.cell? ⟨g, 0, none⟩ = some (.int .i64 (i : Int)) ∧ w'.cell? ⟨g, 1, none⟩ = some (.slice A' L.length c') ∧ w'.cell? ⟨g, 2, none⟩ = some (.int .i64 far) ∧ w'.cell? ⟨g, 3, none⟩ = some (.slice B' ls.length d'))
              (first | with_reducible exact HS0 | with_reducible exact HS5 | with_reducible exact ⟨(put4_cell hgne).trans HS5.1, (put4_cell hgne).trans HS5.2.1, (put4_cell hgne).trans HS5.2.2.1, (put4_cell hgne).trans HS5.2.2.2⟩)
              (first | (go_at_call 29; (first | (with_reducible refine (HV2.out _ HB0.out).mono ?_) | (with_reducible refine (HV3.out _ HB0.out).mono ?_)); rintro e w4 ⟨rfl, rfl⟩) | (go_at_call 33; rw [HFF.out, HTT.out]; (with_reducible refine HS.out.mono ?_); rintro e w5 ⟨A9, c9, B9, d9, rfl, hoi9, hol9, hb9⟩; have HS5 := (HNA.out.below (HB0.out.trans (hb9.mono HB0.out.size))).cells; have HNX5 := HNX.out.below (HB0.out.trans (hb9.mono HB0.out.size)); obtain ⟨x0, x1, x2, x3⟩ := HNX5.cells; have f0 := HNX5.free 0; have f1 := HNX5.free 1; have f2 := HNX5.free 2; have f3 := HNX5.free 3))
            have hz5 := hb9.size
            have HB5 := Lib.hid (HBW.out.trans ((HB0.out.trans (hb9.mono HB0.out.size)).mono HBW.out.size))
            have hna5 := HNA.out.below (HB0.out.trans (hb9.mono HB0.out.size))
            have hg8 : w.heap.size ≤ g8 := by have := HG8.out; omega
            obtain ⟨W9, hW9⟩ : ∃ W9, W9 = ((((w5.setCell ⟨g8, 0, none⟩ (.int .i64 0)).setCell ⟨g8, 1, none⟩ (.slice A9 0 c9)).setCell ⟨g8, 2, none⟩ (.int .i64 0)).setCell ⟨g8, 3, none⟩ (.slice B9 0 d9)) := ⟨_, rfl⟩
            rw [← hW9]
            have hna9 : NetAt W9 g (i : Int) L far ls A' c' B' d' := by rw [hW9]; exact hna5.over HNX5.1 hgne
            have HB9 := Lib.hid (show Below w.heap.size w W9 by rw [hW9]; exact put_below HB5.out hg8)
            clear hna5 HB5 hoi9 hol9 hb9 HNX5 HS5 HS0 x0 x1 x2 x3 y0 y1 y2 y3 f0 f1 f2 f3 HS HFF HNA HBW HNX hnaD hsD hz5 hW9 HV1 HV2 HV3 hans HTT
            have HNA := Lib.hid hna9
            have HBW := HB9
            clear hna9 HB9 HRU
            have HRU := HRUW
            clear HRUW
            go_upto_region 26 with fail
            have hs9i : s ≤ i + 1 := by omega
            have hqb : q ≤ 100 := by have := HQS.out; omega
            have HTK := Lib.hid (implTick_at HNA.out HRU.out.small)
            rw [HRU.out.tick] at HTK
            have HRU2 := Lib.hid (HRU.out.tock (by omega))
            obtain ⟨y0, y1, y2, y3⟩ := HNA.out.cells
            go_wp2_with fail
            refine HTK.out.mono ?_
            rintro e w3 ⟨A3, c3, B3, d3, rfl, hoi3, hol3, hb3⟩
            have hna3 := HNA.out.below hb3
            have HB3 := Lib.hid (HBW.out.trans (hb3.mono HBW.out.size))
            clear y0 y1 y2 y3 HTK
            obtain ⟨y0, y1, y2, y3⟩ := hna3.cells
            have f0 := hna3.free 0
            have f1 := hna3.free 1
            have f2 := hna3.free 2
            have f3 := hna3.free 3
            go_upto_region 27 with fail
            obtain ⟨W3, hW3⟩ : ∃ W3, W3 = ((((w3.setCell ⟨g, 0, none⟩ (.int .i64 ((i : Int) + 1))).setCell ⟨g, 1, none⟩ (.slice A3 L.length c3)).setCell ⟨g, 2, none⟩ (.int .i64 far)).setCell ⟨g, 3, none⟩ (.slice B3 ls.length d3)) := ⟨_, rfl⟩
            rw [← hW3]
            have hna4 : NetAt W3 g ((i : Int) + 1) L far ls A3 c3 B3 d3 := by rw [hW3]; exact hna3.put hoi3 hol3
            have HBW4 := Lib.hid (show Below w.heap.size w W3 by rw [hW3]; exact put_below HB3.out hgw)
            clear hna3 hoi3 hol3 hb3 hW3 y0 y1 y2 y3 f0 f1 f2 f3
            have hdl := HRU2.out.dlv
            have HD1 := Lib.hid (implDlv_at hna4 HRU2.out.small hdl)
            obtain ⟨us, hus⟩ : ∃ us, us = ls.drop (dueK ls ((i : Int) + 1)) := ⟨_, rfl⟩
            obtain ⟨ts, hts⟩ : ∃ ts, ts = ls.take (dueK ls ((i : Int) + 1)) := ⟨_, rfl⟩
            have HCUT := Lib.hid (show ts.length + us.length = ls.length by rw [hus, hts]; exact cut_len _ _)
            have HRU3 := Lib.hid (show Run ((i : Int) + 1) L far us (((i : Int) + 1) + 1) (41 + 50 * (i : Int) + 50) by rw [hus]; exact HRU2.out.left)
            rw [← hus, ← hts] at HD1
            have HNA4 := Lib.hid hna4
            have HTL := Lib.hid (show ts.length ≤ 100 by have := HCUT.out; have := HRU2.out.few; omega)
            clear hus hts hdl hna4 HNA HRU HBW HB3
            obtain ⟨y0, y1, y2, y3⟩ := HNA4.out.cells
            go_wp2_with fail
            refine HD1.out.mono ?_
            rintro e w5 ⟨A5, c5, B5, d5, D5, e5, rfl, hoi5, hol5, hot5, hb5⟩
            clear y0 y1 y2 y3 HD1
            have hna5 := HNA4.out.below hb5
            have hb6 := below1 w5 (.cells #[.int .i64 ((i : Int) + 1), .slice A5 L.length c5, .int .i64 far, .slice B5 us.length d5] 35)
            have hna6 := hna5.below hb6
            have hnb6 := NetAt.new (t := ((i : Int) + 1)) (far := far) hoi5 hol5
            have HB6 := Lib.hid (HBW4.out.trans ((hb5.trans (hb6.mono hb5.size)).mono HBW4.out.size))
            go_upto_region 28 with fail
            obtain ⟨g5, hg5⟩ : ∃ g5, g5 = w5.heap.size := ⟨_, rfl⟩
            obtain ⟨W5, hW5⟩ : ∃ W5, W5 = w5.alloc (.cells #[.int .i64 ((i : Int) + 1), .slice A5 L.length c5, .int .i64 far, .slice B5 us.length d5] 35) := ⟨_, rfl⟩
            rw [← hW5]
            rw [← hW5] at hna6 hnb6 HB6
            rw [← hg5] at hnb6 ⊢
            clear hW5 hg5 hna5 hb5 hb6 hoi5 hol5 hot5
            obtain ⟨x0, x1, x2, x3⟩ := hnb6.cells
            obtain ⟨y0, y1, y2, y3⟩ := hna6.cells
            have f0 := hna6.free 0
            have f1 := hna6.free 1
            have f2 := hna6.free 2
            have f3 := hna6.free 3
            have hna7p := hna6.put (t' := ((i : Int) + 1)) (far' := far) hnb6.2.1 hnb6.2.2
            have HB7p := put_below (p := .int .i64 ((i : Int) + 1)) (q := .slice A5 L.length c5) (r := .int .i64 far) (s := .slice B5 us.length d5) HB6.out hgw
            go_upto_region 29 with fail
            obtain ⟨W7, hW7⟩ : ∃ W7, W7 = ((((W5.setCell ⟨g, 0, none⟩ (.int .i64 ((i : Int) + 1))).setCell ⟨g, 1, none⟩ (.slice A5 L.length c5)).setCell ⟨g, 2, none⟩ (.int .i64 far)).setCell ⟨g, 3, none⟩ (.slice B5 us.length d5)) := ⟨_, rfl⟩
            rw [← hW7]
            have hna7 : NetAt W7 g ((i : Int) + 1) L far us A5 c5 B5 d5 := by rw [hW7]; exact hna7p
            have HB7 := Lib.hid (show Below w.heap.size w W7 by rw [hW7]; exact HB7p)
            have HNA7 := Lib.hid hna7
            have htl := HTL.out
            clear hna6 hnb6 HNA4 HBW4 hna7p HB7p hW7 x0 x1 x2 x3 y0 y1 y2 y3 f0 f1 f2 f3 hna7 HB6
            have HG1 := Lib.hid (implGood_at HNA7.out HRU3.out.small)
            have HG2 := Lib.hid (fun W (hW : NetAt W g ((i : Int) + 1) L far us A5 c5 B5 d5) => specGood_at hW HRU3.out.small)
            rw [HRU3.out.good] at HG1 HG2
            obtain ⟨y0, y1, y2, y3⟩ := HNA7.out.cells
            go_wp2_with fail
            refine HG1.out.mono ?_
            rintro e w8 ⟨rfl, hb8⟩
            have HNA8 := Lib.hid (HNA7.out.below hb8)
            have HB8 := Lib.hid (HB7.out.trans (hb8.mono HB7.out.size))
            clear y0 y1 y2 y3 hb8 HG1 HNA7 HB7
            obtain ⟨y0, y1, y2, y3⟩ := HNA8.out.cells
            go_wp2_with fail
            refine (HG2.out _ HNA8.out).mono ?_
            rintro e w9 ⟨rfl, hb9⟩
            have HNA9 := Lib.hid (HNA8.out.below hb9)
            have HB9 := Lib.hid (HB8.out.trans (hb9.mono HB8.out.size))
            clear y0 y1 y2 y3 hb9 HG2 HNA8 HB8
            obtain ⟨y0, y1, y2, y3⟩ := HNA9.out.cells
            have hfin : (us.length : Int) = (s : Int) - ((q : Int) + (ts.length : Int)) := by have := HQS.out; have := HCUT.out; omega
            have HRF := Lib.hid (show Run ((i + 1 : Nat) : Int) L far us (((i + 1 : Nat) : Int) + 1) (41 + 50 * ((i + 1 : Nat) : Int)) ∧ NetAt w9 g ((i + 1 : Nat) : Int) L far us A5 c5 B5 d5 by
              have e1 : ((i + 1 : Nat) : Int) = (i : Int) + 1 := by omega
              have e2 : (41 : Int) + 50 * ((i : Int) + 1) = 41 + 50 * (i : Int) + 50 := by omega
              rw [e1, e2]
              exact ⟨HRU3.out, HNA9.out⟩)
            go_wp2
            go_roundw
            case rel => exact ⟨i + 1, s, q + ts.length, us, A5, c5, B5, d5, by omega, by go_num, by go_num, by go_num, show _ = _ by have := HQS.out; have := HCUT.out; omega, by omega, HRF.out.1, HRF.out.2, HB9.out⟩
            case measure => simp [intOf]; omega
          · skip
            obtain ⟨f, hf⟩ : ∃ f : Int, f = (u2 : Int) % 3 := ⟨_, rfl⟩
            obtain ⟨t, ht⟩ : ∃ t : Int, t = (u3 : Int) % 3 := ⟨_, rfl⟩
            have hnf : nodeB L.length f = true := nodeB_mk ⟨by omega, by have := HL3.out; omega⟩
            have hnt : nodeB L.length t = true := nodeB_mk ⟨by omega, by have := HL3.out; omega⟩
            have hft : f ≠ t := fun e => hne (by rw [← hf, ← ht]; exact e)
            have hsd := HRUW.out.sent f t ⟨#[120]⟩ rfl hnf hnt hft (by omega) (by omega) (by have := HQS.out; omega)
            obtain ⟨us9, hus9⟩ : ∃ x, x = insL ls (f, t, (i : Int) + tripI L far f t, (⟨#[120]⟩ : ByteArray)) := ⟨_, rfl⟩
            rw [← hus9] at hsd
            have HQS2 := Lib.hid (show q + us9.length = s + 1 by rw [hus9, insL_len]; have := HQS.out; omega)
            have hans := hsd.1
            have HRU9 := Lib.hid hsd.2
            clear hsd hnf hnt hft hus9
            have HFF := Lib.hid (show Int.tmod (u2 : Int) 3 = f by rw [Int.tmod_eq_emod_of_nonneg (by omega)]; omega)
            have HTT := Lib.hid (show Int.tmod (u3 : Int) 3 = t by rw [Int.tmod_eq_emod_of_nonneg (by omega)]; omega)
            clear ht
            clear hf
            have HS := Lib.hid (implSend_at hnaD HRUW.out.small f t ⟨#[120]⟩ (by decide))
            rw [hans] at HS
            simp only at HS
            have hsD := HB0.out.size
            obtain ⟨y0, y1, y2, y3⟩ := HNA.out.cells
            have hw2 : IntKind.i64.wrap ((i : Int) + 2) = (i : Int) + 2 := by rw [IntKind.wrap_i64]; omega
            have hw3 : IntKind.i64.wrap ((i : Int) + 3) = (i : Int) + 3 := by rw [IntKind.wrap_i64]; omega
            go_upto_region 13 with fail
            have HS0 : WX.drew.cell? ⟨g, 0, none⟩ = some (.int .i64 (i : Int)) ∧ WX.drew.cell? ⟨g, 1, none⟩ = some (.slice A' L.length c') ∧ WX.drew.cell? ⟨g, 2, none⟩ = some (.int .i64 far) ∧ WX.drew.cell? ⟨g, 3, none⟩ = some (.slice B' ls.length d') := ⟨y0, y1, y2, y3⟩
            go_region_held3 (fun w' => w'.cell? ⟨g, 0, none⟩ = some (.int .i64 (i : Int)) ∧ w'.cell? ⟨g, 1, none⟩ = some (.slice A' L.length c') ∧ w'.cell? ⟨g, 2, none⟩ = some (.int .i64 far) ∧ w'.cell? ⟨g, 3, none⟩ = some (.slice B' ls.length d'))
              (first | with_reducible exact HS0 | with_reducible exact HS5 | with_reducible exact ⟨(put4_cell hgne).trans HS5.1, (put4_cell hgne).trans HS5.2.1, (put4_cell hgne).trans HS5.2.2.1, (put4_cell hgne).trans HS5.2.2.2⟩)
              (first | (go_at_call 29; (first | (with_reducible refine (HV2.out _ HB0.out).mono ?_) | (with_reducible refine (HV3.out _ HB0.out).mono ?_)); rintro e w4 ⟨rfl, rfl⟩) | (go_at_call 33; rw [HFF.out, HTT.out]; (with_reducible refine HS.out.mono ?_); rintro e w5 ⟨A9, c9, B9, d9, rfl, hoi9, hol9, hb9⟩; have HS5 := (HNA.out.below (HB0.out.trans (hb9.mono HB0.out.size))).cells; have HNX5 := HNX.out.below (HB0.out.trans (hb9.mono HB0.out.size)); obtain ⟨x0, x1, x2, x3⟩ := HNX5.cells; have f0 := HNX5.free 0; have f1 := HNX5.free 1; have f2 := HNX5.free 2; have f3 := HNX5.free 3))
            have hz5 := hb9.size
            have HB5 := Lib.hid (HBW.out.trans ((HB0.out.trans (hb9.mono HB0.out.size)).mono HBW.out.size))
            have hna5 := HNA.out.below (HB0.out.trans (hb9.mono HB0.out.size))
            have hg8 : w.heap.size ≤ g8 := by have := HG8.out; omega
            obtain ⟨W9, hW9⟩ : ∃ W9, W9 = ((((w5.setCell ⟨g8, 0, none⟩ (.int .i64 (i : Int))).setCell ⟨g8, 1, none⟩ (.slice A9 L.length c9)).setCell ⟨g8, 2, none⟩ (.int .i64 far)).setCell ⟨g8, 3, none⟩ (.slice B9 us9.length d9)) := ⟨_, rfl⟩
            rw [← hW9]
            have hna9 : NetAt W9 g (i : Int) L far ls A' c' B' d' := by rw [hW9]; exact hna5.over HNX5.1 hgne
            have HB9 := Lib.hid (show Below w.heap.size w W9 by rw [hW9]; exact put_below HB5.out hg8)
            have hnx9 : NetAt W9 g8 (i : Int) L far us9 A9 c9 B9 d9 := by rw [hW9]; exact HNX5.put hoi9 hol9
            clear hna5 HB5 hoi9 hol9 hb9 HNX5 HS5 HS0 x0 x1 x2 x3 y0 y1 y2 y3 f0 f1 f2 f3 HS HFF HNA HBW HNX hnaD hsD hz5 hW9 HV1 HV2 HV3 hans HTT
            obtain ⟨x0, x1, x2, x3⟩ := hnx9.cells
            obtain ⟨y0, y1, y2, y3⟩ := hna9.cells
            have f0 := hna9.free 0
            have f1 := hna9.free 1
            have f2 := hna9.free 2
            have f3 := hna9.free 3
            have HNP := Lib.hid (hna9.put hnx9.2.1 hnx9.2.2 (t' := (i : Int)) (far' := far))
            go_upto_region 26 with fail
            obtain ⟨W10, hW10⟩ : ∃ W10, W10 = ((((W9.setCell ⟨g, 0, none⟩ (.int .i64 (i : Int))).setCell ⟨g, 1, none⟩ (.slice A9 L.length c9)).setCell ⟨g, 2, none⟩ (.int .i64 far)).setCell ⟨g, 3, none⟩ (.slice B9 us9.length d9)) := ⟨_, rfl⟩
            rw [← hW10]
            have HNA := Lib.hid (show NetAt W10 g (i : Int) L far us9 A9 c9 B9 d9 by rw [hW10]; exact HNP.out)
            have HBW := Lib.hid (show Below w.heap.size w W10 by rw [hW10]; exact put_below HB9.out hgw)
            clear HNP hW10 hna9 hnx9 HB9 x0 x1 x2 x3 y0 y1 y2 y3 f0 f1 f2 f3 HQS HRU HRUW
            have HQS := HQS2
            have HRU := HRU9
            clear HQS2 HRU9
            obtain ⟨s9, hs9⟩ : ∃ s9 : Nat, s9 = s + 1 := ⟨_, rfl⟩
            rw [← hs9] at HQS
            rw [show (s : Int) + 1 = (s9 : Int) by omega]
            have hs9i : s9 ≤ i + 1 := by omega
            clear hs9
            have hqb : q ≤ 100 := by have := HQS.out; omega
            have HTK := Lib.hid (implTick_at HNA.out HRU.out.small)
            rw [HRU.out.tick] at HTK
            have HRU2 := Lib.hid (HRU.out.tock (by omega))
            obtain ⟨y0, y1, y2, y3⟩ := HNA.out.cells
            go_wp2_with fail
            refine HTK.out.mono ?_
            rintro e w3 ⟨A3, c3, B3, d3, rfl, hoi3, hol3, hb3⟩
            have hna3 := HNA.out.below hb3
            have HB3 := Lib.hid (HBW.out.trans (hb3.mono HBW.out.size))
            clear y0 y1 y2 y3 HTK
            obtain ⟨y0, y1, y2, y3⟩ := hna3.cells
            have f0 := hna3.free 0
            have f1 := hna3.free 1
            have f2 := hna3.free 2
            have f3 := hna3.free 3
            go_upto_region 27 with fail
            obtain ⟨W3, hW3⟩ : ∃ W3, W3 = ((((w3.setCell ⟨g, 0, none⟩ (.int .i64 ((i : Int) + 1))).setCell ⟨g, 1, none⟩ (.slice A3 L.length c3)).setCell ⟨g, 2, none⟩ (.int .i64 far)).setCell ⟨g, 3, none⟩ (.slice B3 us9.length d3)) := ⟨_, rfl⟩
            rw [← hW3]
            have hna4 : NetAt W3 g ((i : Int) + 1) L far us9 A3 c3 B3 d3 := by rw [hW3]; exact hna3.put hoi3 hol3
            have HBW4 := Lib.hid (show Below w.heap.size w W3 by rw [hW3]; exact put_below HB3.out hgw)
            clear hna3 hoi3 hol3 hb3 hW3 y0 y1 y2 y3 f0 f1 f2 f3
            have hdl := HRU2.out.dlv
            have HD1 := Lib.hid (implDlv_at hna4 HRU2.out.small hdl)
            obtain ⟨us, hus⟩ : ∃ us, us = us9.drop (dueK us9 ((i : Int) + 1)) := ⟨_, rfl⟩
            obtain ⟨ts, hts⟩ : ∃ ts, ts = us9.take (dueK us9 ((i : Int) + 1)) := ⟨_, rfl⟩
            have HCUT := Lib.hid (show ts.length + us.length = us9.length by rw [hus, hts]; exact cut_len _ _)
            have HRU3 := Lib.hid (show Run ((i : Int) + 1) L far us (((i : Int) + 1) + 1) (41 + 50 * (i : Int) + 50) by rw [hus]; exact HRU2.out.left)
            rw [← hus, ← hts] at HD1
            have HNA4 := Lib.hid hna4
            have HTL := Lib.hid (show ts.length ≤ 100 by have := HCUT.out; have := HRU2.out.few; omega)
            clear hus hts hdl hna4 HNA HRU HBW HB3
            obtain ⟨y0, y1, y2, y3⟩ := HNA4.out.cells
            go_wp2_with fail
            refine HD1.out.mono ?_
            rintro e w5 ⟨A5, c5, B5, d5, D5, e5, rfl, hoi5, hol5, hot5, hb5⟩
            clear y0 y1 y2 y3 HD1
            have hna5 := HNA4.out.below hb5
            have hb6 := below1 w5 (.cells #[.int .i64 ((i : Int) + 1), .slice A5 L.length c5, .int .i64 far, .slice B5 us.length d5] 35)
            have hna6 := hna5.below hb6
            have hnb6 := NetAt.new (t := ((i : Int) + 1)) (far := far) hoi5 hol5
            have HB6 := Lib.hid (HBW4.out.trans ((hb5.trans (hb6.mono hb5.size)).mono HBW4.out.size))
            go_upto_region 28 with fail
            obtain ⟨g5, hg5⟩ : ∃ g5, g5 = w5.heap.size := ⟨_, rfl⟩
            obtain ⟨W5, hW5⟩ : ∃ W5, W5 = w5.alloc (.cells #[.int .i64 ((i : Int) + 1), .slice A5 L.length c5, .int .i64 far, .slice B5 us.length d5] 35) := ⟨_, rfl⟩
            rw [← hW5]
            rw [← hW5] at hna6 hnb6 HB6
            rw [← hg5] at hnb6 ⊢
            clear hW5 hg5 hna5 hb5 hb6 hoi5 hol5 hot5
            obtain ⟨x0, x1, x2, x3⟩ := hnb6.cells
            obtain ⟨y0, y1, y2, y3⟩ := hna6.cells
            have f0 := hna6.free 0
            have f1 := hna6.free 1
            have f2 := hna6.free 2
            have f3 := hna6.free 3
            have hna7p := hna6.put (t' := ((i : Int) + 1)) (far' := far) hnb6.2.1 hnb6.2.2
            have HB7p := put_below (p := .int .i64 ((i : Int) + 1)) (q := .slice A5 L.length c5) (r := .int .i64 far) (s := .slice B5 us.length d5) HB6.out hgw
            go_upto_region 29 with fail
            obtain ⟨W7, hW7⟩ : ∃ W7, W7 = ((((W5.setCell ⟨g, 0, none⟩ (.int .i64 ((i : Int) + 1))).setCell ⟨g, 1, none⟩ (.slice A5 L.length c5)).setCell ⟨g, 2, none⟩ (.int .i64 far)).setCell ⟨g, 3, none⟩ (.slice B5 us.length d5)) := ⟨_, rfl⟩
            rw [← hW7]
            have hna7 : NetAt W7 g ((i : Int) + 1) L far us A5 c5 B5 d5 := by rw [hW7]; exact hna7p
            have HB7 := Lib.hid (show Below w.heap.size w W7 by rw [hW7]; exact HB7p)
            have HNA7 := Lib.hid hna7
            have htl := HTL.out
            clear hna6 hnb6 HNA4 HBW4 hna7p HB7p hW7 x0 x1 x2 x3 y0 y1 y2 y3 f0 f1 f2 f3 hna7 HB6
            have HG1 := Lib.hid (implGood_at HNA7.out HRU3.out.small)
            have HG2 := Lib.hid (fun W (hW : NetAt W g ((i : Int) + 1) L far us A5 c5 B5 d5) => specGood_at hW HRU3.out.small)
            rw [HRU3.out.good] at HG1 HG2
            obtain ⟨y0, y1, y2, y3⟩ := HNA7.out.cells
            go_wp2_with fail
            refine HG1.out.mono ?_
            rintro e w8 ⟨rfl, hb8⟩
            have HNA8 := Lib.hid (HNA7.out.below hb8)
            have HB8 := Lib.hid (HB7.out.trans (hb8.mono HB7.out.size))
            clear y0 y1 y2 y3 hb8 HG1 HNA7 HB7
            obtain ⟨y0, y1, y2, y3⟩ := HNA8.out.cells
            go_wp2_with fail
            refine (HG2.out _ HNA8.out).mono ?_
            rintro e w9 ⟨rfl, hb9⟩
            have HNA9 := Lib.hid (HNA8.out.below hb9)
            have HB9 := Lib.hid (HB8.out.trans (hb9.mono HB8.out.size))
            clear y0 y1 y2 y3 hb9 HG2 HNA8 HB8
            obtain ⟨y0, y1, y2, y3⟩ := HNA9.out.cells
            have hfin : (us.length : Int) = (s9 : Int) - ((q : Int) + (ts.length : Int)) := by have := HQS.out; have := HCUT.out; omega
            have HRF := Lib.hid (show Run ((i + 1 : Nat) : Int) L far us (((i + 1 : Nat) : Int) + 1) (41 + 50 * ((i + 1 : Nat) : Int)) ∧ NetAt w9 g ((i + 1 : Nat) : Int) L far us A5 c5 B5 d5 by
              have e1 : ((i + 1 : Nat) : Int) = (i : Int) + 1 := by omega
              have e2 : (41 : Int) + 50 * ((i : Int) + 1) = 41 + 50 * (i : Int) + 50 := by omega
              rw [e1, e2]
              exact ⟨HRU3.out, HNA9.out⟩)
            go_wp2
            go_roundw
            case rel => exact ⟨i + 1, s9, q + ts.length, us, A5, c5, B5, d5, by omega, by go_num, by go_num, by go_num, show _ = _ by have := HQS.out; have := HCUT.out; omega, by omega, HRF.out.1, HRF.out.2, HB9.out⟩
            case measure => simp [intOf]; omega
        · by_cases hne : ((u2 : Int) % 3) = ((u3 : Int) % 3)
          · skip
            obtain ⟨f, hf⟩ : ∃ f : Int, f = (u2 : Int) % 3 := ⟨_, rfl⟩
            obtain ⟨t, ht⟩ : ∃ t : Int, t = (u3 : Int) % 3 := ⟨_, rfl⟩
            have hft : f = t := by rw [hf, ht]; exact hne
            subst hft
            have hans := sendNo (t := (i : Int)) (far := far) (is := L) (ls := ls) f ⟨#[120]⟩
            have HFF := Lib.hid (show Int.tmod (u2 : Int) 3 = f by rw [Int.tmod_eq_emod_of_nonneg (by omega)]; omega)
            have HTT := Lib.hid (show Int.tmod (u3 : Int) 3 = f by rw [Int.tmod_eq_emod_of_nonneg (by omega)]; omega)
            clear ht
            clear hf
            have HS := Lib.hid (implSend_at hnaD HRUW.out.small f f ⟨#[120]⟩ (by decide))
            rw [hans] at HS
            unfold noA at HS
            simp only at HS
            have hsD := HB0.out.size
            obtain ⟨y0, y1, y2, y3⟩ := HNA.out.cells
            have hw2 : IntKind.i64.wrap ((i : Int) + 2) = (i : Int) + 2 := by rw [IntKind.wrap_i64]; omega
            have hw3 : IntKind.i64.wrap ((i : Int) + 3) = (i : Int) + 3 := by rw [IntKind.wrap_i64]; omega
            go_upto_region 13 with fail
            have HS0 : WX.drew.cell? ⟨g, 0, none⟩ = some (.int .i64 (i : Int)) ∧ WX.drew.cell? ⟨g, 1, none⟩ = some (.slice A' L.length c') ∧ WX.drew.cell? ⟨g, 2, none⟩ = some (.int .i64 far) ∧ WX.drew.cell? ⟨g, 3, none⟩ = some (.slice B' ls.length d') := ⟨y0, y1, y2, y3⟩
            go_region_held3 (fun w' => w'.cell? ⟨g, 0, none⟩ = some (.int .i64 (i : Int)) ∧ w'.cell? ⟨g, 1, none⟩ = some (.slice A' L.length c') ∧ w'.cell? ⟨g, 2, none⟩ = some (.int .i64 far) ∧ w'.cell? ⟨g, 3, none⟩ = some (.slice B' ls.length d'))
              (first | with_reducible exact HS0 | with_reducible exact HS5 | with_reducible exact ⟨(put4_cell hgne).trans HS5.1, (put4_cell hgne).trans HS5.2.1, (put4_cell hgne).trans HS5.2.2.1, (put4_cell hgne).trans HS5.2.2.2⟩)
              (first | (go_at_call 29; (first | (with_reducible refine (HV2.out _ HB0.out).mono ?_) | (with_reducible refine (HV3.out _ HB0.out).mono ?_)); rintro e w4 ⟨rfl, rfl⟩) | (go_at_call 33; rw [HFF.out, HTT.out]; (with_reducible refine HS.out.mono ?_); rintro e w5 ⟨A9, c9, B9, d9, rfl, hoi9, hol9, hb9⟩; have HS5 := (HNA.out.below (HB0.out.trans (hb9.mono HB0.out.size))).cells; have HNX5 := HNX.out.below (HB0.out.trans (hb9.mono HB0.out.size)); obtain ⟨x0, x1, x2, x3⟩ := HNX5.cells; have f0 := HNX5.free 0; have f1 := HNX5.free 1; have f2 := HNX5.free 2; have f3 := HNX5.free 3))
            have hz5 := hb9.size
            have HB5 := Lib.hid (HBW.out.trans ((HB0.out.trans (hb9.mono HB0.out.size)).mono HBW.out.size))
            have hna5 := HNA.out.below (HB0.out.trans (hb9.mono HB0.out.size))
            have hg8 : w.heap.size ≤ g8 := by have := HG8.out; omega
            obtain ⟨W9, hW9⟩ : ∃ W9, W9 = ((((w5.setCell ⟨g8, 0, none⟩ (.int .i64 0)).setCell ⟨g8, 1, none⟩ (.slice A9 0 c9)).setCell ⟨g8, 2, none⟩ (.int .i64 0)).setCell ⟨g8, 3, none⟩ (.slice B9 0 d9)) := ⟨_, rfl⟩
            rw [← hW9]
            have hna9 : NetAt W9 g (i : Int) L far ls A' c' B' d' := by rw [hW9]; exact hna5.over HNX5.1 hgne
            have HB9 := Lib.hid (show Below w.heap.size w W9 by rw [hW9]; exact put_below HB5.out hg8)
            clear hna5 HB5 hoi9 hol9 hb9 HNX5 HS5 HS0 x0 x1 x2 x3 y0 y1 y2 y3 f0 f1 f2 f3 HS HFF HNA HBW HNX hnaD hsD hz5 hW9 HV1 HV2 HV3 hans HTT
            have HNA := Lib.hid hna9
            have HBW := HB9
            clear hna9 HB9 HRU
            have HRU := HRUW
            clear HRUW
            go_upto_region 26 with fail
            have hs9i : s ≤ i + 1 := by omega
            have hqb : q ≤ 100 := by have := HQS.out; omega
            have HTK := Lib.hid (implTick_at HNA.out HRU.out.small)
            rw [HRU.out.tick] at HTK
            have HRU2 := Lib.hid (HRU.out.tock (by omega))
            obtain ⟨y0, y1, y2, y3⟩ := HNA.out.cells
            go_wp2_with fail
            refine HTK.out.mono ?_
            rintro e w3 ⟨A3, c3, B3, d3, rfl, hoi3, hol3, hb3⟩
            have hna3 := HNA.out.below hb3
            have HB3 := Lib.hid (HBW.out.trans (hb3.mono HBW.out.size))
            clear y0 y1 y2 y3 HTK
            obtain ⟨y0, y1, y2, y3⟩ := hna3.cells
            have f0 := hna3.free 0
            have f1 := hna3.free 1
            have f2 := hna3.free 2
            have f3 := hna3.free 3
            go_upto_region 27 with fail
            obtain ⟨W3, hW3⟩ : ∃ W3, W3 = ((((w3.setCell ⟨g, 0, none⟩ (.int .i64 ((i : Int) + 1))).setCell ⟨g, 1, none⟩ (.slice A3 L.length c3)).setCell ⟨g, 2, none⟩ (.int .i64 far)).setCell ⟨g, 3, none⟩ (.slice B3 ls.length d3)) := ⟨_, rfl⟩
            rw [← hW3]
            have hna4 : NetAt W3 g ((i : Int) + 1) L far ls A3 c3 B3 d3 := by rw [hW3]; exact hna3.put hoi3 hol3
            have HBW4 := Lib.hid (show Below w.heap.size w W3 by rw [hW3]; exact put_below HB3.out hgw)
            clear hna3 hoi3 hol3 hb3 hW3 y0 y1 y2 y3 f0 f1 f2 f3
            have hdl := HRU2.out.dlv
            have HD1 := Lib.hid (implDlv_at hna4 HRU2.out.small hdl)
            obtain ⟨us, hus⟩ : ∃ us, us = ls.drop (dueK ls ((i : Int) + 1)) := ⟨_, rfl⟩
            obtain ⟨ts, hts⟩ : ∃ ts, ts = ls.take (dueK ls ((i : Int) + 1)) := ⟨_, rfl⟩
            have HCUT := Lib.hid (show ts.length + us.length = ls.length by rw [hus, hts]; exact cut_len _ _)
            have HRU3 := Lib.hid (show Run ((i : Int) + 1) L far us (((i : Int) + 1) + 1) (41 + 50 * (i : Int) + 50) by rw [hus]; exact HRU2.out.left)
            rw [← hus, ← hts] at HD1
            have HNA4 := Lib.hid hna4
            have HTL := Lib.hid (show ts.length ≤ 100 by have := HCUT.out; have := HRU2.out.few; omega)
            clear hus hts hdl hna4 HNA HRU HBW HB3
            obtain ⟨y0, y1, y2, y3⟩ := HNA4.out.cells
            go_wp2_with fail
            refine HD1.out.mono ?_
            rintro e w5 ⟨A5, c5, B5, d5, D5, e5, rfl, hoi5, hol5, hot5, hb5⟩
            clear y0 y1 y2 y3 HD1
            have hna5 := HNA4.out.below hb5
            have hb6 := below1 w5 (.cells #[.int .i64 ((i : Int) + 1), .slice A5 L.length c5, .int .i64 far, .slice B5 us.length d5] 35)
            have hna6 := hna5.below hb6
            have hnb6 := NetAt.new (t := ((i : Int) + 1)) (far := far) hoi5 hol5
            have HB6 := Lib.hid (HBW4.out.trans ((hb5.trans (hb6.mono hb5.size)).mono HBW4.out.size))
            go_upto_region 28 with fail
            obtain ⟨g5, hg5⟩ : ∃ g5, g5 = w5.heap.size := ⟨_, rfl⟩
            obtain ⟨W5, hW5⟩ : ∃ W5, W5 = w5.alloc (.cells #[.int .i64 ((i : Int) + 1), .slice A5 L.length c5, .int .i64 far, .slice B5 us.length d5] 35) := ⟨_, rfl⟩
            rw [← hW5]
            rw [← hW5] at hna6 hnb6 HB6
            rw [← hg5] at hnb6 ⊢
            clear hW5 hg5 hna5 hb5 hb6 hoi5 hol5 hot5
            obtain ⟨x0, x1, x2, x3⟩ := hnb6.cells
            obtain ⟨y0, y1, y2, y3⟩ := hna6.cells
            have f0 := hna6.free 0
            have f1 := hna6.free 1
            have f2 := hna6.free 2
            have f3 := hna6.free 3
            have hna7p := hna6.put (t' := ((i : Int) + 1)) (far' := far) hnb6.2.1 hnb6.2.2
            have HB7p := put_below (p := .int .i64 ((i : Int) + 1)) (q := .slice A5 L.length c5) (r := .int .i64 far) (s := .slice B5 us.length d5) HB6.out hgw
            go_upto_region 29 with fail
            obtain ⟨W7, hW7⟩ : ∃ W7, W7 = ((((W5.setCell ⟨g, 0, none⟩ (.int .i64 ((i : Int) + 1))).setCell ⟨g, 1, none⟩ (.slice A5 L.length c5)).setCell ⟨g, 2, none⟩ (.int .i64 far)).setCell ⟨g, 3, none⟩ (.slice B5 us.length d5)) := ⟨_, rfl⟩
            rw [← hW7]
            have hna7 : NetAt W7 g ((i : Int) + 1) L far us A5 c5 B5 d5 := by rw [hW7]; exact hna7p
            have HB7 := Lib.hid (show Below w.heap.size w W7 by rw [hW7]; exact HB7p)
            have HNA7 := Lib.hid hna7
            have htl := HTL.out
            clear hna6 hnb6 HNA4 HBW4 hna7p HB7p hW7 x0 x1 x2 x3 y0 y1 y2 y3 f0 f1 f2 f3 hna7 HB6
            have HG1 := Lib.hid (implGood_at HNA7.out HRU3.out.small)
            have HG2 := Lib.hid (fun W (hW : NetAt W g ((i : Int) + 1) L far us A5 c5 B5 d5) => specGood_at hW HRU3.out.small)
            rw [HRU3.out.good] at HG1 HG2
            obtain ⟨y0, y1, y2, y3⟩ := HNA7.out.cells
            go_wp2_with fail
            refine HG1.out.mono ?_
            rintro e w8 ⟨rfl, hb8⟩
            have HNA8 := Lib.hid (HNA7.out.below hb8)
            have HB8 := Lib.hid (HB7.out.trans (hb8.mono HB7.out.size))
            clear y0 y1 y2 y3 hb8 HG1 HNA7 HB7
            obtain ⟨y0, y1, y2, y3⟩ := HNA8.out.cells
            go_wp2_with fail
            refine (HG2.out _ HNA8.out).mono ?_
            rintro e w9 ⟨rfl, hb9⟩
            have HNA9 := Lib.hid (HNA8.out.below hb9)
            have HB9 := Lib.hid (HB8.out.trans (hb9.mono HB8.out.size))
            clear y0 y1 y2 y3 hb9 HG2 HNA8 HB8
            obtain ⟨y0, y1, y2, y3⟩ := HNA9.out.cells
            have hfin : (us.length : Int) = (s : Int) - ((q : Int) + (ts.length : Int)) := by have := HQS.out; have := HCUT.out; omega
            have HRF := Lib.hid (show Run ((i + 1 : Nat) : Int) L far us (((i + 1 : Nat) : Int) + 1) (41 + 50 * ((i + 1 : Nat) : Int)) ∧ NetAt w9 g ((i + 1 : Nat) : Int) L far us A5 c5 B5 d5 by
              have e1 : ((i + 1 : Nat) : Int) = (i : Int) + 1 := by omega
              have e2 : (41 : Int) + 50 * ((i : Int) + 1) = 41 + 50 * (i : Int) + 50 := by omega
              rw [e1, e2]
              exact ⟨HRU3.out, HNA9.out⟩)
            go_wp2
            go_roundw
            case rel => exact ⟨i + 1, s, q + ts.length, us, A5, c5, B5, d5, by omega, by go_num, by go_num, by go_num, show _ = _ by have := HQS.out; have := HCUT.out; omega, by omega, HRF.out.1, HRF.out.2, HB9.out⟩
            case measure => simp [intOf]; omega
          · skip
            obtain ⟨f, hf⟩ : ∃ f : Int, f = (u2 : Int) % 3 := ⟨_, rfl⟩
            obtain ⟨t, ht⟩ : ∃ t : Int, t = (u3 : Int) % 3 := ⟨_, rfl⟩
            have hnf : nodeB L.length f = true := nodeB_mk ⟨by omega, by have := HL3.out; omega⟩
            have hnt : nodeB L.length t = true := nodeB_mk ⟨by omega, by have := HL3.out; omega⟩
            have hft : f ≠ t := fun e => hne (by rw [← hf, ← ht]; exact e)
            have hsd := HRUW.out.sent f t ⟨#[120]⟩ rfl hnf hnt hft (by omega) (by omega) (by have := HQS.out; omega)
            obtain ⟨us9, hus9⟩ : ∃ x, x = insL ls (f, t, (i : Int) + tripI L far f t, (⟨#[120]⟩ : ByteArray)) := ⟨_, rfl⟩
            rw [← hus9] at hsd
            have HQS2 := Lib.hid (show q + us9.length = s + 1 by rw [hus9, insL_len]; have := HQS.out; omega)
            have hans := hsd.1
            have HRU9 := Lib.hid hsd.2
            clear hsd hnf hnt hft hus9
            have HFF := Lib.hid (show Int.tmod (u2 : Int) 3 = f by rw [Int.tmod_eq_emod_of_nonneg (by omega)]; omega)
            have HTT := Lib.hid (show Int.tmod (u3 : Int) 3 = t by rw [Int.tmod_eq_emod_of_nonneg (by omega)]; omega)
            clear ht
            clear hf
            have HS := Lib.hid (implSend_at hnaD HRUW.out.small f t ⟨#[120]⟩ (by decide))
            rw [hans] at HS
            simp only at HS
            have hsD := HB0.out.size
            obtain ⟨y0, y1, y2, y3⟩ := HNA.out.cells
            have hw2 : IntKind.i64.wrap ((i : Int) + 2) = (i : Int) + 2 := by rw [IntKind.wrap_i64]; omega
            have hw3 : IntKind.i64.wrap ((i : Int) + 3) = (i : Int) + 3 := by rw [IntKind.wrap_i64]; omega
            go_upto_region 13 with fail
            have HS0 : WX.drew.cell? ⟨g, 0, none⟩ = some (.int .i64 (i : Int)) ∧ WX.drew.cell? ⟨g, 1, none⟩ = some (.slice A' L.length c') ∧ WX.drew.cell? ⟨g, 2, none⟩ = some (.int .i64 far) ∧ WX.drew.cell? ⟨g, 3, none⟩ = some (.slice B' ls.length d') := ⟨y0, y1, y2, y3⟩
            go_region_held3 (fun w' => w'.cell? ⟨g, 0, none⟩ = some (.int .i64 (i : Int)) ∧ w'.cell? ⟨g, 1, none⟩ = some (.slice A' L.length c') ∧ w'.cell? ⟨g, 2, none⟩ = some (.int .i64 far) ∧ w'.cell? ⟨g, 3, none⟩ = some (.slice B' ls.length d'))
              (first | with_reducible exact HS0 | with_reducible exact HS5 | with_reducible exact ⟨(put4_cell hgne).trans HS5.1, (put4_cell hgne).trans HS5.2.1, (put4_cell hgne).trans HS5.2.2.1, (put4_cell hgne).trans HS5.2.2.2⟩)
              (first | (go_at_call 29; (first | (with_reducible refine (HV2.out _ HB0.out).mono ?_) | (with_reducible refine (HV3.out _ HB0.out).mono ?_)); rintro e w4 ⟨rfl, rfl⟩) | (go_at_call 33; rw [HFF.out, HTT.out]; (with_reducible refine HS.out.mono ?_); rintro e w5 ⟨A9, c9, B9, d9, rfl, hoi9, hol9, hb9⟩; have HS5 := (HNA.out.below (HB0.out.trans (hb9.mono HB0.out.size))).cells; have HNX5 := HNX.out.below (HB0.out.trans (hb9.mono HB0.out.size)); obtain ⟨x0, x1, x2, x3⟩ := HNX5.cells; have f0 := HNX5.free 0; have f1 := HNX5.free 1; have f2 := HNX5.free 2; have f3 := HNX5.free 3))
            have hz5 := hb9.size
            have HB5 := Lib.hid (HBW.out.trans ((HB0.out.trans (hb9.mono HB0.out.size)).mono HBW.out.size))
            have hna5 := HNA.out.below (HB0.out.trans (hb9.mono HB0.out.size))
            have hg8 : w.heap.size ≤ g8 := by have := HG8.out; omega
            obtain ⟨W9, hW9⟩ : ∃ W9, W9 = ((((w5.setCell ⟨g8, 0, none⟩ (.int .i64 (i : Int))).setCell ⟨g8, 1, none⟩ (.slice A9 L.length c9)).setCell ⟨g8, 2, none⟩ (.int .i64 far)).setCell ⟨g8, 3, none⟩ (.slice B9 us9.length d9)) := ⟨_, rfl⟩
            rw [← hW9]
            have hna9 : NetAt W9 g (i : Int) L far ls A' c' B' d' := by rw [hW9]; exact hna5.over HNX5.1 hgne
            have HB9 := Lib.hid (show Below w.heap.size w W9 by rw [hW9]; exact put_below HB5.out hg8)
            have hnx9 : NetAt W9 g8 (i : Int) L far us9 A9 c9 B9 d9 := by rw [hW9]; exact HNX5.put hoi9 hol9
            clear hna5 HB5 hoi9 hol9 hb9 HNX5 HS5 HS0 x0 x1 x2 x3 y0 y1 y2 y3 f0 f1 f2 f3 HS HFF HNA HBW HNX hnaD hsD hz5 hW9 HV1 HV2 HV3 hans HTT
            obtain ⟨x0, x1, x2, x3⟩ := hnx9.cells
            obtain ⟨y0, y1, y2, y3⟩ := hna9.cells
            have f0 := hna9.free 0
            have f1 := hna9.free 1
            have f2 := hna9.free 2
            have f3 := hna9.free 3
            have HNP := Lib.hid (hna9.put hnx9.2.1 hnx9.2.2 (t' := (i : Int)) (far' := far))
            go_upto_region 26 with fail
            obtain ⟨W10, hW10⟩ : ∃ W10, W10 = ((((W9.setCell ⟨g, 0, none⟩ (.int .i64 (i : Int))).setCell ⟨g, 1, none⟩ (.slice A9 L.length c9)).setCell ⟨g, 2, none⟩ (.int .i64 far)).setCell ⟨g, 3, none⟩ (.slice B9 us9.length d9)) := ⟨_, rfl⟩
            rw [← hW10]
            have HNA := Lib.hid (show NetAt W10 g (i : Int) L far us9 A9 c9 B9 d9 by rw [hW10]; exact HNP.out)
            have HBW := Lib.hid (show Below w.heap.size w W10 by rw [hW10]; exact put_below HB9.out hgw)
            clear HNP hW10 hna9 hnx9 HB9 x0 x1 x2 x3 y0 y1 y2 y3 f0 f1 f2 f3 HQS HRU HRUW
            have HQS := HQS2
            have HRU := HRU9
            clear HQS2 HRU9
            obtain ⟨s9, hs9⟩ : ∃ s9 : Nat, s9 = s + 1 := ⟨_, rfl⟩
            rw [← hs9] at HQS
            rw [show (s : Int) + 1 = (s9 : Int) by omega]
            have hs9i : s9 ≤ i + 1 := by omega
            clear hs9
            have hqb : q ≤ 100 := by have := HQS.out; omega
            have HTK := Lib.hid (implTick_at HNA.out HRU.out.small)
            rw [HRU.out.tick] at HTK
            have HRU2 := Lib.hid (HRU.out.tock (by omega))
            obtain ⟨y0, y1, y2, y3⟩ := HNA.out.cells
            go_wp2_with fail
            refine HTK.out.mono ?_
            rintro e w3 ⟨A3, c3, B3, d3, rfl, hoi3, hol3, hb3⟩
            have hna3 := HNA.out.below hb3
            have HB3 := Lib.hid (HBW.out.trans (hb3.mono HBW.out.size))
            clear y0 y1 y2 y3 HTK
            obtain ⟨y0, y1, y2, y3⟩ := hna3.cells
            have f0 := hna3.free 0
            have f1 := hna3.free 1
            have f2 := hna3.free 2
            have f3 := hna3.free 3
            go_upto_region 27 with fail
            obtain ⟨W3, hW3⟩ : ∃ W3, W3 = ((((w3.setCell ⟨g, 0, none⟩ (.int .i64 ((i : Int) + 1))).setCell ⟨g, 1, none⟩ (.slice A3 L.length c3)).setCell ⟨g, 2, none⟩ (.int .i64 far)).setCell ⟨g, 3, none⟩ (.slice B3 us9.length d3)) := ⟨_, rfl⟩
            rw [← hW3]
            have hna4 : NetAt W3 g ((i : Int) + 1) L far us9 A3 c3 B3 d3 := by rw [hW3]; exact hna3.put hoi3 hol3
            have HBW4 := Lib.hid (show Below w.heap.size w W3 by rw [hW3]; exact put_below HB3.out hgw)
            clear hna3 hoi3 hol3 hb3 hW3 y0 y1 y2 y3 f0 f1 f2 f3
            have hdl := HRU2.out.dlv
            have HD1 := Lib.hid (implDlv_at hna4 HRU2.out.small hdl)
            obtain ⟨us, hus⟩ : ∃ us, us = us9.drop (dueK us9 ((i : Int) + 1)) := ⟨_, rfl⟩
            obtain ⟨ts, hts⟩ : ∃ ts, ts = us9.take (dueK us9 ((i : Int) + 1)) := ⟨_, rfl⟩
            have HCUT := Lib.hid (show ts.length + us.length = us9.length by rw [hus, hts]; exact cut_len _ _)
            have HRU3 := Lib.hid (show Run ((i : Int) + 1) L far us (((i : Int) + 1) + 1) (41 + 50 * (i : Int) + 50) by rw [hus]; exact HRU2.out.left)
            rw [← hus, ← hts] at HD1
            have HNA4 := Lib.hid hna4
            have HTL := Lib.hid (show ts.length ≤ 100 by have := HCUT.out; have := HRU2.out.few; omega)
            clear hus hts hdl hna4 HNA HRU HBW HB3
            obtain ⟨y0, y1, y2, y3⟩ := HNA4.out.cells
            go_wp2_with fail
            refine HD1.out.mono ?_
            rintro e w5 ⟨A5, c5, B5, d5, D5, e5, rfl, hoi5, hol5, hot5, hb5⟩
            clear y0 y1 y2 y3 HD1
            have hna5 := HNA4.out.below hb5
            have hb6 := below1 w5 (.cells #[.int .i64 ((i : Int) + 1), .slice A5 L.length c5, .int .i64 far, .slice B5 us.length d5] 35)
            have hna6 := hna5.below hb6
            have hnb6 := NetAt.new (t := ((i : Int) + 1)) (far := far) hoi5 hol5
            have HB6 := Lib.hid (HBW4.out.trans ((hb5.trans (hb6.mono hb5.size)).mono HBW4.out.size))
            go_upto_region 28 with fail
            obtain ⟨g5, hg5⟩ : ∃ g5, g5 = w5.heap.size := ⟨_, rfl⟩
            obtain ⟨W5, hW5⟩ : ∃ W5, W5 = w5.alloc (.cells #[.int .i64 ((i : Int) + 1), .slice A5 L.length c5, .int .i64 far, .slice B5 us.length d5] 35) := ⟨_, rfl⟩
            rw [← hW5]
            rw [← hW5] at hna6 hnb6 HB6
            rw [← hg5] at hnb6 ⊢
            clear hW5 hg5 hna5 hb5 hb6 hoi5 hol5 hot5
            obtain ⟨x0, x1, x2, x3⟩ := hnb6.cells
            obtain ⟨y0, y1, y2, y3⟩ := hna6.cells
            have f0 := hna6.free 0
            have f1 := hna6.free 1
            have f2 := hna6.free 2
            have f3 := hna6.free 3
            have hna7p := hna6.put (t' := ((i : Int) + 1)) (far' := far) hnb6.2.1 hnb6.2.2
            have HB7p := put_below (p := .int .i64 ((i : Int) + 1)) (q := .slice A5 L.length c5) (r := .int .i64 far) (s := .slice B5 us.length d5) HB6.out hgw
            go_upto_region 29 with fail
            obtain ⟨W7, hW7⟩ : ∃ W7, W7 = ((((W5.setCell ⟨g, 0, none⟩ (.int .i64 ((i : Int) + 1))).setCell ⟨g, 1, none⟩ (.slice A5 L.length c5)).setCell ⟨g, 2, none⟩ (.int .i64 far)).setCell ⟨g, 3, none⟩ (.slice B5 us.length d5)) := ⟨_, rfl⟩
            rw [← hW7]
            have hna7 : NetAt W7 g ((i : Int) + 1) L far us A5 c5 B5 d5 := by rw [hW7]; exact hna7p
            have HB7 := Lib.hid (show Below w.heap.size w W7 by rw [hW7]; exact HB7p)
            have HNA7 := Lib.hid hna7
            have htl := HTL.out
            clear hna6 hnb6 HNA4 HBW4 hna7p HB7p hW7 x0 x1 x2 x3 y0 y1 y2 y3 f0 f1 f2 f3 hna7 HB6
            have HG1 := Lib.hid (implGood_at HNA7.out HRU3.out.small)
            have HG2 := Lib.hid (fun W (hW : NetAt W g ((i : Int) + 1) L far us A5 c5 B5 d5) => specGood_at hW HRU3.out.small)
            rw [HRU3.out.good] at HG1 HG2
            obtain ⟨y0, y1, y2, y3⟩ := HNA7.out.cells
            go_wp2_with fail
            refine HG1.out.mono ?_
            rintro e w8 ⟨rfl, hb8⟩
            have HNA8 := Lib.hid (HNA7.out.below hb8)
            have HB8 := Lib.hid (HB7.out.trans (hb8.mono HB7.out.size))
            clear y0 y1 y2 y3 hb8 HG1 HNA7 HB7
            obtain ⟨y0, y1, y2, y3⟩ := HNA8.out.cells
            go_wp2_with fail
            refine (HG2.out _ HNA8.out).mono ?_
            rintro e w9 ⟨rfl, hb9⟩
            have HNA9 := Lib.hid (HNA8.out.below hb9)
            have HB9 := Lib.hid (HB8.out.trans (hb9.mono HB8.out.size))
            clear y0 y1 y2 y3 hb9 HG2 HNA8 HB8
            obtain ⟨y0, y1, y2, y3⟩ := HNA9.out.cells
            have hfin : (us.length : Int) = (s9 : Int) - ((q : Int) + (ts.length : Int)) := by have := HQS.out; have := HCUT.out; omega
            have HRF := Lib.hid (show Run ((i + 1 : Nat) : Int) L far us (((i + 1 : Nat) : Int) + 1) (41 + 50 * ((i + 1 : Nat) : Int)) ∧ NetAt w9 g ((i + 1 : Nat) : Int) L far us A5 c5 B5 d5 by
              have e1 : ((i + 1 : Nat) : Int) = (i : Int) + 1 := by omega
              have e2 : (41 : Int) + 50 * ((i : Int) + 1) = 41 + 50 * (i : Int) + 50 := by omega
              rw [e1, e2]
              exact ⟨HRU3.out, HNA9.out⟩)
            go_wp2
            go_roundw
            case rel => exact ⟨i + 1, s9, q + ts.length, us, A5, c5, B5, d5, by omega, by go_num, by go_num, by go_num, show _ = _ by have := HQS.out; have := HCUT.out; omega, by omega, HRF.out.1, HRF.out.2, HB9.out⟩
            case measure => simp [intOf]; omega
        · by_cases hin : ((u2 : Int) % 5) < (ls.length : Int)
          · skip
            obtain ⟨f, hf⟩ : ∃ f : Int, f = (u2 : Int) % 5 := ⟨_, rfl⟩
            have hf0 : 0 ≤ f := by omega
            rw [← hf] at hin
            obtain ⟨hans, hr9, hl9⟩ := HRUW.out.lost hf0 hin
            obtain ⟨us9, hus9⟩ : ∃ x, x = outL ls f.toNat := ⟨_, rfl⟩
            rw [← hus9] at hans hr9 hl9
            have hs1 : 1 ≤ s := by have := HQS.out; omega
            have HQS2 := Lib.hid (show q + us9.length = s - 1 by have := HQS.out; omega)
            have HRU9 := Lib.hid hr9
            clear hus9 hr9 hl9
            have HFF := Lib.hid (show Int.tmod (u2 : Int) 5 = f by rw [Int.tmod_eq_emod_of_nonneg (by omega)]; omega)
            clear hf
            have HS := Lib.hid (implLose_at hnaD HRUW.out.small f)
            rw [hans] at HS
            simp only at HS
            have hsD := HB0.out.size
            obtain ⟨y0, y1, y2, y3⟩ := HNA.out.cells
            have hw2 : IntKind.i64.wrap ((i : Int) + 2) = (i : Int) + 2 := by rw [IntKind.wrap_i64]; omega
            have hw3 : IntKind.i64.wrap ((i : Int) + 3) = (i : Int) + 3 := by rw [IntKind.wrap_i64]; omega
            go_upto_region 16 with fail
            have HS0 : WX.drew.cell? ⟨g, 0, none⟩ = some (.int .i64 (i : Int)) ∧ WX.drew.cell? ⟨g, 1, none⟩ = some (.slice A' L.length c') ∧ WX.drew.cell? ⟨g, 2, none⟩ = some (.int .i64 far) ∧ WX.drew.cell? ⟨g, 3, none⟩ = some (.slice B' ls.length d') := ⟨y0, y1, y2, y3⟩
            go_region_held3 (fun w' => w'.cell? ⟨g, 0, none⟩ = some (.int .i64 (i : Int)) ∧ w'.cell? ⟨g, 1, none⟩ = some (.slice A' L.length c') ∧ w'.cell? ⟨g, 2, none⟩ = some (.int .i64 far) ∧ w'.cell? ⟨g, 3, none⟩ = some (.slice B' ls.length d'))
              (first | with_reducible exact HS0 | with_reducible exact HS5 | with_reducible exact ⟨(put4_cell hgne).trans HS5.1, (put4_cell hgne).trans HS5.2.1, (put4_cell hgne).trans HS5.2.2.1, (put4_cell hgne).trans HS5.2.2.2⟩)
              (first | (go_at_call 29; (first | (with_reducible refine (HV2.out _ HB0.out).mono ?_)); rintro e w4 ⟨rfl, rfl⟩) | (go_at_call 40; rw [HFF.out]; (with_reducible refine HS.out.mono ?_); rintro e w5 ⟨A9, c9, B9, d9, rfl, hoi9, hol9, hb9⟩; have HS5 := (HNA.out.below (HB0.out.trans (hb9.mono HB0.out.size))).cells; have HNX5 := HNX.out.below (HB0.out.trans (hb9.mono HB0.out.size)); obtain ⟨x0, x1, x2, x3⟩ := HNX5.cells; have f0 := HNX5.free 0; have f1 := HNX5.free 1; have f2 := HNX5.free 2; have f3 := HNX5.free 3))
            have hz5 := hb9.size
            have HB5 := Lib.hid (HBW.out.trans ((HB0.out.trans (hb9.mono HB0.out.size)).mono HBW.out.size))
            have hna5 := HNA.out.below (HB0.out.trans (hb9.mono HB0.out.size))
            have hg8 : w.heap.size ≤ g8 := by have := HG8.out; omega
            obtain ⟨W9, hW9⟩ : ∃ W9, W9 = ((((w5.setCell ⟨g8, 0, none⟩ (.int .i64 (i : Int))).setCell ⟨g8, 1, none⟩ (.slice A9 L.length c9)).setCell ⟨g8, 2, none⟩ (.int .i64 far)).setCell ⟨g8, 3, none⟩ (.slice B9 us9.length d9)) := ⟨_, rfl⟩
            rw [← hW9]
            have hna9 : NetAt W9 g (i : Int) L far ls A' c' B' d' := by rw [hW9]; exact hna5.over HNX5.1 hgne
            have HB9 := Lib.hid (show Below w.heap.size w W9 by rw [hW9]; exact put_below HB5.out hg8)
            have hnx9 : NetAt W9 g8 (i : Int) L far us9 A9 c9 B9 d9 := by rw [hW9]; exact HNX5.put hoi9 hol9
            clear hna5 HB5 hoi9 hol9 hb9 HNX5 HS5 HS0 x0 x1 x2 x3 y0 y1 y2 y3 f0 f1 f2 f3 HS HFF HNA HBW HNX hnaD hsD hz5 hW9 HV1 HV2 HV3 hans
            obtain ⟨x0, x1, x2, x3⟩ := hnx9.cells
            obtain ⟨y0, y1, y2, y3⟩ := hna9.cells
            have f0 := hna9.free 0
            have f1 := hna9.free 1
            have f2 := hna9.free 2
            have f3 := hna9.free 3
            have HNP := Lib.hid (hna9.put hnx9.2.1 hnx9.2.2 (t' := (i : Int)) (far' := far))
            go_upto_region 26 with fail
            obtain ⟨W10, hW10⟩ : ∃ W10, W10 = ((((W9.setCell ⟨g, 0, none⟩ (.int .i64 (i : Int))).setCell ⟨g, 1, none⟩ (.slice A9 L.length c9)).setCell ⟨g, 2, none⟩ (.int .i64 far)).setCell ⟨g, 3, none⟩ (.slice B9 us9.length d9)) := ⟨_, rfl⟩
            rw [← hW10]
            have HNA := Lib.hid (show NetAt W10 g (i : Int) L far us9 A9 c9 B9 d9 by rw [hW10]; exact HNP.out)
            have HBW := Lib.hid (show Below w.heap.size w W10 by rw [hW10]; exact put_below HB9.out hgw)
            clear HNP hW10 hna9 hnx9 HB9 x0 x1 x2 x3 y0 y1 y2 y3 f0 f1 f2 f3 HQS HRU HRUW
            have HQS := HQS2
            have HRU := HRU9
            clear HQS2 HRU9
            obtain ⟨s9, hs9⟩ : ∃ s9 : Nat, s9 = s - 1 := ⟨_, rfl⟩
            rw [← hs9] at HQS
            rw [show (s : Int) + -1 = (s9 : Int) by omega]
            have hs9i : s9 ≤ i + 1 := by omega
            clear hs9
            have hqb : q ≤ 100 := by have := HQS.out; omega
            have HTK := Lib.hid (implTick_at HNA.out HRU.out.small)
            rw [HRU.out.tick] at HTK
            have HRU2 := Lib.hid (HRU.out.tock (by omega))
            obtain ⟨y0, y1, y2, y3⟩ := HNA.out.cells
            go_wp2_with fail
            refine HTK.out.mono ?_
            rintro e w3 ⟨A3, c3, B3, d3, rfl, hoi3, hol3, hb3⟩
            have hna3 := HNA.out.below hb3
            have HB3 := Lib.hid (HBW.out.trans (hb3.mono HBW.out.size))
            clear y0 y1 y2 y3 HTK
            obtain ⟨y0, y1, y2, y3⟩ := hna3.cells
            have f0 := hna3.free 0
            have f1 := hna3.free 1
            have f2 := hna3.free 2
            have f3 := hna3.free 3
            go_upto_region 27 with fail
            obtain ⟨W3, hW3⟩ : ∃ W3, W3 = ((((w3.setCell ⟨g, 0, none⟩ (.int .i64 ((i : Int) + 1))).setCell ⟨g, 1, none⟩ (.slice A3 L.length c3)).setCell ⟨g, 2, none⟩ (.int .i64 far)).setCell ⟨g, 3, none⟩ (.slice B3 us9.length d3)) := ⟨_, rfl⟩
            rw [← hW3]
            have hna4 : NetAt W3 g ((i : Int) + 1) L far us9 A3 c3 B3 d3 := by rw [hW3]; exact hna3.put hoi3 hol3
            have HBW4 := Lib.hid (show Below w.heap.size w W3 by rw [hW3]; exact put_below HB3.out hgw)
            clear hna3 hoi3 hol3 hb3 hW3 y0 y1 y2 y3 f0 f1 f2 f3
            have hdl := HRU2.out.dlv
            have HD1 := Lib.hid (implDlv_at hna4 HRU2.out.small hdl)
            obtain ⟨us, hus⟩ : ∃ us, us = us9.drop (dueK us9 ((i : Int) + 1)) := ⟨_, rfl⟩
            obtain ⟨ts, hts⟩ : ∃ ts, ts = us9.take (dueK us9 ((i : Int) + 1)) := ⟨_, rfl⟩
            have HCUT := Lib.hid (show ts.length + us.length = us9.length by rw [hus, hts]; exact cut_len _ _)
            have HRU3 := Lib.hid (show Run ((i : Int) + 1) L far us (((i : Int) + 1) + 1) (41 + 50 * (i : Int) + 50) by rw [hus]; exact HRU2.out.left)
            rw [← hus, ← hts] at HD1
            have HNA4 := Lib.hid hna4
            have HTL := Lib.hid (show ts.length ≤ 100 by have := HCUT.out; have := HRU2.out.few; omega)
            clear hus hts hdl hna4 HNA HRU HBW HB3
            obtain ⟨y0, y1, y2, y3⟩ := HNA4.out.cells
            go_wp2_with fail
            refine HD1.out.mono ?_
            rintro e w5 ⟨A5, c5, B5, d5, D5, e5, rfl, hoi5, hol5, hot5, hb5⟩
            clear y0 y1 y2 y3 HD1
            have hna5 := HNA4.out.below hb5
            have hb6 := below1 w5 (.cells #[.int .i64 ((i : Int) + 1), .slice A5 L.length c5, .int .i64 far, .slice B5 us.length d5] 35)
            have hna6 := hna5.below hb6
            have hnb6 := NetAt.new (t := ((i : Int) + 1)) (far := far) hoi5 hol5
            have HB6 := Lib.hid (HBW4.out.trans ((hb5.trans (hb6.mono hb5.size)).mono HBW4.out.size))
            go_upto_region 28 with fail
            obtain ⟨g5, hg5⟩ : ∃ g5, g5 = w5.heap.size := ⟨_, rfl⟩
            obtain ⟨W5, hW5⟩ : ∃ W5, W5 = w5.alloc (.cells #[.int .i64 ((i : Int) + 1), .slice A5 L.length c5, .int .i64 far, .slice B5 us.length d5] 35) := ⟨_, rfl⟩
            rw [← hW5]
            rw [← hW5] at hna6 hnb6 HB6
            rw [← hg5] at hnb6 ⊢
            clear hW5 hg5 hna5 hb5 hb6 hoi5 hol5 hot5
            obtain ⟨x0, x1, x2, x3⟩ := hnb6.cells
            obtain ⟨y0, y1, y2, y3⟩ := hna6.cells
            have f0 := hna6.free 0
            have f1 := hna6.free 1
            have f2 := hna6.free 2
            have f3 := hna6.free 3
            have hna7p := hna6.put (t' := ((i : Int) + 1)) (far' := far) hnb6.2.1 hnb6.2.2
            have HB7p := put_below (p := .int .i64 ((i : Int) + 1)) (q := .slice A5 L.length c5) (r := .int .i64 far) (s := .slice B5 us.length d5) HB6.out hgw
            go_upto_region 29 with fail
            obtain ⟨W7, hW7⟩ : ∃ W7, W7 = ((((W5.setCell ⟨g, 0, none⟩ (.int .i64 ((i : Int) + 1))).setCell ⟨g, 1, none⟩ (.slice A5 L.length c5)).setCell ⟨g, 2, none⟩ (.int .i64 far)).setCell ⟨g, 3, none⟩ (.slice B5 us.length d5)) := ⟨_, rfl⟩
            rw [← hW7]
            have hna7 : NetAt W7 g ((i : Int) + 1) L far us A5 c5 B5 d5 := by rw [hW7]; exact hna7p
            have HB7 := Lib.hid (show Below w.heap.size w W7 by rw [hW7]; exact HB7p)
            have HNA7 := Lib.hid hna7
            have htl := HTL.out
            clear hna6 hnb6 HNA4 HBW4 hna7p HB7p hW7 x0 x1 x2 x3 y0 y1 y2 y3 f0 f1 f2 f3 hna7 HB6
            have HG1 := Lib.hid (implGood_at HNA7.out HRU3.out.small)
            have HG2 := Lib.hid (fun W (hW : NetAt W g ((i : Int) + 1) L far us A5 c5 B5 d5) => specGood_at hW HRU3.out.small)
            rw [HRU3.out.good] at HG1 HG2
            obtain ⟨y0, y1, y2, y3⟩ := HNA7.out.cells
            go_wp2_with fail
            refine HG1.out.mono ?_
            rintro e w8 ⟨rfl, hb8⟩
            have HNA8 := Lib.hid (HNA7.out.below hb8)
            have HB8 := Lib.hid (HB7.out.trans (hb8.mono HB7.out.size))
            clear y0 y1 y2 y3 hb8 HG1 HNA7 HB7
            obtain ⟨y0, y1, y2, y3⟩ := HNA8.out.cells
            go_wp2_with fail
            refine (HG2.out _ HNA8.out).mono ?_
            rintro e w9 ⟨rfl, hb9⟩
            have HNA9 := Lib.hid (HNA8.out.below hb9)
            have HB9 := Lib.hid (HB8.out.trans (hb9.mono HB8.out.size))
            clear y0 y1 y2 y3 hb9 HG2 HNA8 HB8
            obtain ⟨y0, y1, y2, y3⟩ := HNA9.out.cells
            have hfin : (us.length : Int) = (s9 : Int) - ((q : Int) + (ts.length : Int)) := by have := HQS.out; have := HCUT.out; omega
            have HRF := Lib.hid (show Run ((i + 1 : Nat) : Int) L far us (((i + 1 : Nat) : Int) + 1) (41 + 50 * ((i + 1 : Nat) : Int)) ∧ NetAt w9 g ((i + 1 : Nat) : Int) L far us A5 c5 B5 d5 by
              have e1 : ((i + 1 : Nat) : Int) = (i : Int) + 1 := by omega
              have e2 : (41 : Int) + 50 * ((i : Int) + 1) = 41 + 50 * (i : Int) + 50 := by omega
              rw [e1, e2]
              exact ⟨HRU3.out, HNA9.out⟩)
            go_wp2
            go_roundw
            case rel => exact ⟨i + 1, s9, q + ts.length, us, A5, c5, B5, d5, by omega, by go_num, by go_num, by go_num, show _ = _ by have := HQS.out; have := HCUT.out; omega, by omega, HRF.out.1, HRF.out.2, HB9.out⟩
            case measure => simp [intOf]; omega
          · skip
            obtain ⟨f, hf⟩ : ∃ f : Int, f = (u2 : Int) % 5 := ⟨_, rfl⟩
            have hf0 : 0 ≤ f := by omega
            rw [← hf] at hin
            have hans := HRUW.out.lostNo hin
            have HFF := Lib.hid (show Int.tmod (u2 : Int) 5 = f by rw [Int.tmod_eq_emod_of_nonneg (by omega)]; omega)
            clear hf
            have HS := Lib.hid (implLose_at hnaD HRUW.out.small f)
            rw [hans] at HS
            unfold noA at HS
            simp only at HS
            have hsD := HB0.out.size
            obtain ⟨y0, y1, y2, y3⟩ := HNA.out.cells
            have hw2 : IntKind.i64.wrap ((i : Int) + 2) = (i : Int) + 2 := by rw [IntKind.wrap_i64]; omega
            have hw3 : IntKind.i64.wrap ((i : Int) + 3) = (i : Int) + 3 := by rw [IntKind.wrap_i64]; omega
            go_upto_region 16 with fail
            have HS0 : WX.drew.cell? ⟨g, 0, none⟩ = some (.int .i64 (i : Int)) ∧ WX.drew.cell? ⟨g, 1, none⟩ = some (.slice A' L.length c') ∧ WX.drew.cell? ⟨g, 2, none⟩ = some (.int .i64 far) ∧ WX.drew.cell? ⟨g, 3, none⟩ = some (.slice B' ls.length d') := ⟨y0, y1, y2, y3⟩
            go_region_held3 (fun w' => w'.cell? ⟨g, 0, none⟩ = some (.int .i64 (i : Int)) ∧ w'.cell? ⟨g, 1, none⟩ = some (.slice A' L.length c') ∧ w'.cell? ⟨g, 2, none⟩ = some (.int .i64 far) ∧ w'.cell? ⟨g, 3, none⟩ = some (.slice B' ls.length d'))
              (first | with_reducible exact HS0 | with_reducible exact HS5 | with_reducible exact ⟨(put4_cell hgne).trans HS5.1, (put4_cell hgne).trans HS5.2.1, (put4_cell hgne).trans HS5.2.2.1, (put4_cell hgne).trans HS5.2.2.2⟩)
              (first | (go_at_call 29; (first | (with_reducible refine (HV2.out _ HB0.out).mono ?_)); rintro e w4 ⟨rfl, rfl⟩) | (go_at_call 40; rw [HFF.out]; (with_reducible refine HS.out.mono ?_); rintro e w5 ⟨A9, c9, B9, d9, rfl, hoi9, hol9, hb9⟩; have HS5 := (HNA.out.below (HB0.out.trans (hb9.mono HB0.out.size))).cells; have HNX5 := HNX.out.below (HB0.out.trans (hb9.mono HB0.out.size)); obtain ⟨x0, x1, x2, x3⟩ := HNX5.cells; have f0 := HNX5.free 0; have f1 := HNX5.free 1; have f2 := HNX5.free 2; have f3 := HNX5.free 3))
            have hz5 := hb9.size
            have HB5 := Lib.hid (HBW.out.trans ((HB0.out.trans (hb9.mono HB0.out.size)).mono HBW.out.size))
            have hna5 := HNA.out.below (HB0.out.trans (hb9.mono HB0.out.size))
            have hg8 : w.heap.size ≤ g8 := by have := HG8.out; omega
            obtain ⟨W9, hW9⟩ : ∃ W9, W9 = ((((w5.setCell ⟨g8, 0, none⟩ (.int .i64 0)).setCell ⟨g8, 1, none⟩ (.slice A9 0 c9)).setCell ⟨g8, 2, none⟩ (.int .i64 0)).setCell ⟨g8, 3, none⟩ (.slice B9 0 d9)) := ⟨_, rfl⟩
            rw [← hW9]
            have hna9 : NetAt W9 g (i : Int) L far ls A' c' B' d' := by rw [hW9]; exact hna5.over HNX5.1 hgne
            have HB9 := Lib.hid (show Below w.heap.size w W9 by rw [hW9]; exact put_below HB5.out hg8)
            clear hna5 HB5 hoi9 hol9 hb9 HNX5 HS5 HS0 x0 x1 x2 x3 y0 y1 y2 y3 f0 f1 f2 f3 HS HFF HNA HBW HNX hnaD hsD hz5 hW9 HV1 HV2 HV3 hans
            have HNA := Lib.hid hna9
            have HBW := HB9
            clear hna9 HB9 HRU
            have HRU := HRUW
            clear HRUW
            go_upto_region 26 with fail
            have hs9i : s ≤ i + 1 := by omega
            have hqb : q ≤ 100 := by have := HQS.out; omega
            have HTK := Lib.hid (implTick_at HNA.out HRU.out.small)
            rw [HRU.out.tick] at HTK
            have HRU2 := Lib.hid (HRU.out.tock (by omega))
            obtain ⟨y0, y1, y2, y3⟩ := HNA.out.cells
            go_wp2_with fail
            refine HTK.out.mono ?_
            rintro e w3 ⟨A3, c3, B3, d3, rfl, hoi3, hol3, hb3⟩
            have hna3 := HNA.out.below hb3
            have HB3 := Lib.hid (HBW.out.trans (hb3.mono HBW.out.size))
            clear y0 y1 y2 y3 HTK
            obtain ⟨y0, y1, y2, y3⟩ := hna3.cells
            have f0 := hna3.free 0
            have f1 := hna3.free 1
            have f2 := hna3.free 2
            have f3 := hna3.free 3
            go_upto_region 27 with fail
            obtain ⟨W3, hW3⟩ : ∃ W3, W3 = ((((w3.setCell ⟨g, 0, none⟩ (.int .i64 ((i : Int) + 1))).setCell ⟨g, 1, none⟩ (.slice A3 L.length c3)).setCell ⟨g, 2, none⟩ (.int .i64 far)).setCell ⟨g, 3, none⟩ (.slice B3 ls.length d3)) := ⟨_, rfl⟩
            rw [← hW3]
            have hna4 : NetAt W3 g ((i : Int) + 1) L far ls A3 c3 B3 d3 := by rw [hW3]; exact hna3.put hoi3 hol3
            have HBW4 := Lib.hid (show Below w.heap.size w W3 by rw [hW3]; exact put_below HB3.out hgw)
            clear hna3 hoi3 hol3 hb3 hW3 y0 y1 y2 y3 f0 f1 f2 f3
            have hdl := HRU2.out.dlv
            have HD1 := Lib.hid (implDlv_at hna4 HRU2.out.small hdl)
            obtain ⟨us, hus⟩ : ∃ us, us = ls.drop (dueK ls ((i : Int) + 1)) := ⟨_, rfl⟩
            obtain ⟨ts, hts⟩ : ∃ ts, ts = ls.take (dueK ls ((i : Int) + 1)) := ⟨_, rfl⟩
            have HCUT := Lib.hid (show ts.length + us.length = ls.length by rw [hus, hts]; exact cut_len _ _)
            have HRU3 := Lib.hid (show Run ((i : Int) + 1) L far us (((i : Int) + 1) + 1) (41 + 50 * (i : Int) + 50) by rw [hus]; exact HRU2.out.left)
            rw [← hus, ← hts] at HD1
            have HNA4 := Lib.hid hna4
            have HTL := Lib.hid (show ts.length ≤ 100 by have := HCUT.out; have := HRU2.out.few; omega)
            clear hus hts hdl hna4 HNA HRU HBW HB3
            obtain ⟨y0, y1, y2, y3⟩ := HNA4.out.cells
            go_wp2_with fail
            refine HD1.out.mono ?_
            rintro e w5 ⟨A5, c5, B5, d5, D5, e5, rfl, hoi5, hol5, hot5, hb5⟩
            clear y0 y1 y2 y3 HD1
            have hna5 := HNA4.out.below hb5
            have hb6 := below1 w5 (.cells #[.int .i64 ((i : Int) + 1), .slice A5 L.length c5, .int .i64 far, .slice B5 us.length d5] 35)
            have hna6 := hna5.below hb6
            have hnb6 := NetAt.new (t := ((i : Int) + 1)) (far := far) hoi5 hol5
            have HB6 := Lib.hid (HBW4.out.trans ((hb5.trans (hb6.mono hb5.size)).mono HBW4.out.size))
            go_upto_region 28 with fail
            obtain ⟨g5, hg5⟩ : ∃ g5, g5 = w5.heap.size := ⟨_, rfl⟩
            obtain ⟨W5, hW5⟩ : ∃ W5, W5 = w5.alloc (.cells #[.int .i64 ((i : Int) + 1), .slice A5 L.length c5, .int .i64 far, .slice B5 us.length d5] 35) := ⟨_, rfl⟩
            rw [← hW5]
            rw [← hW5] at hna6 hnb6 HB6
            rw [← hg5] at hnb6 ⊢
            clear hW5 hg5 hna5 hb5 hb6 hoi5 hol5 hot5
            obtain ⟨x0, x1, x2, x3⟩ := hnb6.cells
            obtain ⟨y0, y1, y2, y3⟩ := hna6.cells
            have f0 := hna6.free 0
            have f1 := hna6.free 1
            have f2 := hna6.free 2
            have f3 := hna6.free 3
            have hna7p := hna6.put (t' := ((i : Int) + 1)) (far' := far) hnb6.2.1 hnb6.2.2
            have HB7p := put_below (p := .int .i64 ((i : Int) + 1)) (q := .slice A5 L.length c5) (r := .int .i64 far) (s := .slice B5 us.length d5) HB6.out hgw
            go_upto_region 29 with fail
            obtain ⟨W7, hW7⟩ : ∃ W7, W7 = ((((W5.setCell ⟨g, 0, none⟩ (.int .i64 ((i : Int) + 1))).setCell ⟨g, 1, none⟩ (.slice A5 L.length c5)).setCell ⟨g, 2, none⟩ (.int .i64 far)).setCell ⟨g, 3, none⟩ (.slice B5 us.length d5)) := ⟨_, rfl⟩
            rw [← hW7]
            have hna7 : NetAt W7 g ((i : Int) + 1) L far us A5 c5 B5 d5 := by rw [hW7]; exact hna7p
            have HB7 := Lib.hid (show Below w.heap.size w W7 by rw [hW7]; exact HB7p)
            have HNA7 := Lib.hid hna7
            have htl := HTL.out
            clear hna6 hnb6 HNA4 HBW4 hna7p HB7p hW7 x0 x1 x2 x3 y0 y1 y2 y3 f0 f1 f2 f3 hna7 HB6
            have HG1 := Lib.hid (implGood_at HNA7.out HRU3.out.small)
            have HG2 := Lib.hid (fun W (hW : NetAt W g ((i : Int) + 1) L far us A5 c5 B5 d5) => specGood_at hW HRU3.out.small)
            rw [HRU3.out.good] at HG1 HG2
            obtain ⟨y0, y1, y2, y3⟩ := HNA7.out.cells
            go_wp2_with fail
            refine HG1.out.mono ?_
            rintro e w8 ⟨rfl, hb8⟩
            have HNA8 := Lib.hid (HNA7.out.below hb8)
            have HB8 := Lib.hid (HB7.out.trans (hb8.mono HB7.out.size))
            clear y0 y1 y2 y3 hb8 HG1 HNA7 HB7
            obtain ⟨y0, y1, y2, y3⟩ := HNA8.out.cells
            go_wp2_with fail
            refine (HG2.out _ HNA8.out).mono ?_
            rintro e w9 ⟨rfl, hb9⟩
            have HNA9 := Lib.hid (HNA8.out.below hb9)
            have HB9 := Lib.hid (HB8.out.trans (hb9.mono HB8.out.size))
            clear y0 y1 y2 y3 hb9 HG2 HNA8 HB8
            obtain ⟨y0, y1, y2, y3⟩ := HNA9.out.cells
            have hfin : (us.length : Int) = (s : Int) - ((q : Int) + (ts.length : Int)) := by have := HQS.out; have := HCUT.out; omega
            have HRF := Lib.hid (show Run ((i + 1 : Nat) : Int) L far us (((i + 1 : Nat) : Int) + 1) (41 + 50 * ((i + 1 : Nat) : Int)) ∧ NetAt w9 g ((i + 1 : Nat) : Int) L far us A5 c5 B5 d5 by
              have e1 : ((i + 1 : Nat) : Int) = (i : Int) + 1 := by omega
              have e2 : (41 : Int) + 50 * ((i : Int) + 1) = 41 + 50 * (i : Int) + 50 := by omega
              rw [e1, e2]
              exact ⟨HRU3.out, HNA9.out⟩)
            go_wp2
            go_roundw
            case rel => exact ⟨i + 1, s, q + ts.length, us, A5, c5, B5, d5, by omega, by go_num, by go_num, by go_num, show _ = _ by have := HQS.out; have := HCUT.out; omega, by omega, HRF.out.1, HRF.out.2, HB9.out⟩
            case measure => simp [intOf]; omega
        · by_cases hin : ((u2 : Int) % 5) < (ls.length : Int)
          · skip
            obtain ⟨f, hf⟩ : ∃ f : Int, f = (u2 : Int) % 5 := ⟨_, rfl⟩
            have hf0 : 0 ≤ f := by omega
            rw [← hf] at hin
            obtain ⟨hans, hr9⟩ := HRUW.out.dbl hf0 hin (by have := HQS.out; omega)
            obtain ⟨us9, hus9⟩ : ∃ x, x = insL ls (letAt ls f) := ⟨_, rfl⟩
            rw [← hus9] at hans hr9
            have HQS2 := Lib.hid (show q + us9.length = s + 1 by rw [hus9, insL_len]; have := HQS.out; omega)
            have HRU9 := Lib.hid hr9
            clear hus9 hr9
            have HFF := Lib.hid (show Int.tmod (u2 : Int) 5 = f by rw [Int.tmod_eq_emod_of_nonneg (by omega)]; omega)
            clear hf
            have HS := Lib.hid (implDbl_at hnaD HRUW.out.small f)
            rw [hans] at HS
            simp only at HS
            have hsD := HB0.out.size
            obtain ⟨y0, y1, y2, y3⟩ := HNA.out.cells
            have hw2 : IntKind.i64.wrap ((i : Int) + 2) = (i : Int) + 2 := by rw [IntKind.wrap_i64]; omega
            have hw3 : IntKind.i64.wrap ((i : Int) + 3) = (i : Int) + 3 := by rw [IntKind.wrap_i64]; omega
            go_upto_region 19 with fail
            have HS0 : WX.drew.cell? ⟨g, 0, none⟩ = some (.int .i64 (i : Int)) ∧ WX.drew.cell? ⟨g, 1, none⟩ = some (.slice A' L.length c') ∧ WX.drew.cell? ⟨g, 2, none⟩ = some (.int .i64 far) ∧ WX.drew.cell? ⟨g, 3, none⟩ = some (.slice B' ls.length d') := ⟨y0, y1, y2, y3⟩
            go_region_held3 (fun w' => w'.cell? ⟨g, 0, none⟩ = some (.int .i64 (i : Int)) ∧ w'.cell? ⟨g, 1, none⟩ = some (.slice A' L.length c') ∧ w'.cell? ⟨g, 2, none⟩ = some (.int .i64 far) ∧ w'.cell? ⟨g, 3, none⟩ = some (.slice B' ls.length d'))
              (first | with_reducible exact HS0 | with_reducible exact HS5 | with_reducible exact ⟨(put4_cell hgne).trans HS5.1, (put4_cell hgne).trans HS5.2.1, (put4_cell hgne).trans HS5.2.2.1, (put4_cell hgne).trans HS5.2.2.2⟩)
              (first | (go_at_call 29; (first | (with_reducible refine (HV2.out _ HB0.out).mono ?_)); rintro e w4 ⟨rfl, rfl⟩) | (go_at_call 41; rw [HFF.out]; (with_reducible refine HS.out.mono ?_); rintro e w5 ⟨A9, c9, B9, d9, rfl, hoi9, hol9, hb9⟩; have HS5 := (HNA.out.below (HB0.out.trans (hb9.mono HB0.out.size))).cells; have HNX5 := HNX.out.below (HB0.out.trans (hb9.mono HB0.out.size)); obtain ⟨x0, x1, x2, x3⟩ := HNX5.cells; have f0 := HNX5.free 0; have f1 := HNX5.free 1; have f2 := HNX5.free 2; have f3 := HNX5.free 3))
            have hz5 := hb9.size
            have HB5 := Lib.hid (HBW.out.trans ((HB0.out.trans (hb9.mono HB0.out.size)).mono HBW.out.size))
            have hna5 := HNA.out.below (HB0.out.trans (hb9.mono HB0.out.size))
            have hg8 : w.heap.size ≤ g8 := by have := HG8.out; omega
            obtain ⟨W9, hW9⟩ : ∃ W9, W9 = ((((w5.setCell ⟨g8, 0, none⟩ (.int .i64 (i : Int))).setCell ⟨g8, 1, none⟩ (.slice A9 L.length c9)).setCell ⟨g8, 2, none⟩ (.int .i64 far)).setCell ⟨g8, 3, none⟩ (.slice B9 us9.length d9)) := ⟨_, rfl⟩
            rw [← hW9]
            have hna9 : NetAt W9 g (i : Int) L far ls A' c' B' d' := by rw [hW9]; exact hna5.over HNX5.1 hgne
            have HB9 := Lib.hid (show Below w.heap.size w W9 by rw [hW9]; exact put_below HB5.out hg8)
            have hnx9 : NetAt W9 g8 (i : Int) L far us9 A9 c9 B9 d9 := by rw [hW9]; exact HNX5.put hoi9 hol9
            clear hna5 HB5 hoi9 hol9 hb9 HNX5 HS5 HS0 x0 x1 x2 x3 y0 y1 y2 y3 f0 f1 f2 f3 HS HFF HNA HBW HNX hnaD hsD hz5 hW9 HV1 HV2 HV3 hans
            obtain ⟨x0, x1, x2, x3⟩ := hnx9.cells
            obtain ⟨y0, y1, y2, y3⟩ := hna9.cells
            have f0 := hna9.free 0
            have f1 := hna9.free 1
            have f2 := hna9.free 2
            have f3 := hna9.free 3
            have HNP := Lib.hid (hna9.put hnx9.2.1 hnx9.2.2 (t' := (i : Int)) (far' := far))
            go_upto_region 26 with fail
            obtain ⟨W10, hW10⟩ : ∃ W10, W10 = ((((W9.setCell ⟨g, 0, none⟩ (.int .i64 (i : Int))).setCell ⟨g, 1, none⟩ (.slice A9 L.length c9)).setCell ⟨g, 2, none⟩ (.int .i64 far)).setCell ⟨g, 3, none⟩ (.slice B9 us9.length d9)) := ⟨_, rfl⟩
            rw [← hW10]
            have HNA := Lib.hid (show NetAt W10 g (i : Int) L far us9 A9 c9 B9 d9 by rw [hW10]; exact HNP.out)
            have HBW := Lib.hid (show Below w.heap.size w W10 by rw [hW10]; exact put_below HB9.out hgw)
            clear HNP hW10 hna9 hnx9 HB9 x0 x1 x2 x3 y0 y1 y2 y3 f0 f1 f2 f3 HQS HRU HRUW
            have HQS := HQS2
            have HRU := HRU9
            clear HQS2 HRU9
            obtain ⟨s9, hs9⟩ : ∃ s9 : Nat, s9 = s + 1 := ⟨_, rfl⟩
            rw [← hs9] at HQS
            rw [show (s : Int) + 1 = (s9 : Int) by omega]
            have hs9i : s9 ≤ i + 1 := by omega
            clear hs9
            have hqb : q ≤ 100 := by have := HQS.out; omega
            have HTK := Lib.hid (implTick_at HNA.out HRU.out.small)
            rw [HRU.out.tick] at HTK
            have HRU2 := Lib.hid (HRU.out.tock (by omega))
            obtain ⟨y0, y1, y2, y3⟩ := HNA.out.cells
            go_wp2_with fail
            refine HTK.out.mono ?_
            rintro e w3 ⟨A3, c3, B3, d3, rfl, hoi3, hol3, hb3⟩
            have hna3 := HNA.out.below hb3
            have HB3 := Lib.hid (HBW.out.trans (hb3.mono HBW.out.size))
            clear y0 y1 y2 y3 HTK
            obtain ⟨y0, y1, y2, y3⟩ := hna3.cells
            have f0 := hna3.free 0
            have f1 := hna3.free 1
            have f2 := hna3.free 2
            have f3 := hna3.free 3
            go_upto_region 27 with fail
            obtain ⟨W3, hW3⟩ : ∃ W3, W3 = ((((w3.setCell ⟨g, 0, none⟩ (.int .i64 ((i : Int) + 1))).setCell ⟨g, 1, none⟩ (.slice A3 L.length c3)).setCell ⟨g, 2, none⟩ (.int .i64 far)).setCell ⟨g, 3, none⟩ (.slice B3 us9.length d3)) := ⟨_, rfl⟩
            rw [← hW3]
            have hna4 : NetAt W3 g ((i : Int) + 1) L far us9 A3 c3 B3 d3 := by rw [hW3]; exact hna3.put hoi3 hol3
            have HBW4 := Lib.hid (show Below w.heap.size w W3 by rw [hW3]; exact put_below HB3.out hgw)
            clear hna3 hoi3 hol3 hb3 hW3 y0 y1 y2 y3 f0 f1 f2 f3
            have hdl := HRU2.out.dlv
            have HD1 := Lib.hid (implDlv_at hna4 HRU2.out.small hdl)
            obtain ⟨us, hus⟩ : ∃ us, us = us9.drop (dueK us9 ((i : Int) + 1)) := ⟨_, rfl⟩
            obtain ⟨ts, hts⟩ : ∃ ts, ts = us9.take (dueK us9 ((i : Int) + 1)) := ⟨_, rfl⟩
            have HCUT := Lib.hid (show ts.length + us.length = us9.length by rw [hus, hts]; exact cut_len _ _)
            have HRU3 := Lib.hid (show Run ((i : Int) + 1) L far us (((i : Int) + 1) + 1) (41 + 50 * (i : Int) + 50) by rw [hus]; exact HRU2.out.left)
            rw [← hus, ← hts] at HD1
            have HNA4 := Lib.hid hna4
            have HTL := Lib.hid (show ts.length ≤ 100 by have := HCUT.out; have := HRU2.out.few; omega)
            clear hus hts hdl hna4 HNA HRU HBW HB3
            obtain ⟨y0, y1, y2, y3⟩ := HNA4.out.cells
            go_wp2_with fail
            refine HD1.out.mono ?_
            rintro e w5 ⟨A5, c5, B5, d5, D5, e5, rfl, hoi5, hol5, hot5, hb5⟩
            clear y0 y1 y2 y3 HD1
            have hna5 := HNA4.out.below hb5
            have hb6 := below1 w5 (.cells #[.int .i64 ((i : Int) + 1), .slice A5 L.length c5, .int .i64 far, .slice B5 us.length d5] 35)
            have hna6 := hna5.below hb6
            have hnb6 := NetAt.new (t := ((i : Int) + 1)) (far := far) hoi5 hol5
            have HB6 := Lib.hid (HBW4.out.trans ((hb5.trans (hb6.mono hb5.size)).mono HBW4.out.size))
            go_upto_region 28 with fail
            obtain ⟨g5, hg5⟩ : ∃ g5, g5 = w5.heap.size := ⟨_, rfl⟩
            obtain ⟨W5, hW5⟩ : ∃ W5, W5 = w5.alloc (.cells #[.int .i64 ((i : Int) + 1), .slice A5 L.length c5, .int .i64 far, .slice B5 us.length d5] 35) := ⟨_, rfl⟩
            rw [← hW5]
            rw [← hW5] at hna6 hnb6 HB6
            rw [← hg5] at hnb6 ⊢
            clear hW5 hg5 hna5 hb5 hb6 hoi5 hol5 hot5
            obtain ⟨x0, x1, x2, x3⟩ := hnb6.cells
            obtain ⟨y0, y1, y2, y3⟩ := hna6.cells
            have f0 := hna6.free 0
            have f1 := hna6.free 1
            have f2 := hna6.free 2
            have f3 := hna6.free 3
            have hna7p := hna6.put (t' := ((i : Int) + 1)) (far' := far) hnb6.2.1 hnb6.2.2
            have HB7p := put_below (p := .int .i64 ((i : Int) + 1)) (q := .slice A5 L.length c5) (r := .int .i64 far) (s := .slice B5 us.length d5) HB6.out hgw
            go_upto_region 29 with fail
            obtain ⟨W7, hW7⟩ : ∃ W7, W7 = ((((W5.setCell ⟨g, 0, none⟩ (.int .i64 ((i : Int) + 1))).setCell ⟨g, 1, none⟩ (.slice A5 L.length c5)).setCell ⟨g, 2, none⟩ (.int .i64 far)).setCell ⟨g, 3, none⟩ (.slice B5 us.length d5)) := ⟨_, rfl⟩
            rw [← hW7]
            have hna7 : NetAt W7 g ((i : Int) + 1) L far us A5 c5 B5 d5 := by rw [hW7]; exact hna7p
            have HB7 := Lib.hid (show Below w.heap.size w W7 by rw [hW7]; exact HB7p)
            have HNA7 := Lib.hid hna7
            have htl := HTL.out
            clear hna6 hnb6 HNA4 HBW4 hna7p HB7p hW7 x0 x1 x2 x3 y0 y1 y2 y3 f0 f1 f2 f3 hna7 HB6
            have HG1 := Lib.hid (implGood_at HNA7.out HRU3.out.small)
            have HG2 := Lib.hid (fun W (hW : NetAt W g ((i : Int) + 1) L far us A5 c5 B5 d5) => specGood_at hW HRU3.out.small)
            rw [HRU3.out.good] at HG1 HG2
            obtain ⟨y0, y1, y2, y3⟩ := HNA7.out.cells
            go_wp2_with fail
            refine HG1.out.mono ?_
            rintro e w8 ⟨rfl, hb8⟩
            have HNA8 := Lib.hid (HNA7.out.below hb8)
            have HB8 := Lib.hid (HB7.out.trans (hb8.mono HB7.out.size))
            clear y0 y1 y2 y3 hb8 HG1 HNA7 HB7
            obtain ⟨y0, y1, y2, y3⟩ := HNA8.out.cells
            go_wp2_with fail
            refine (HG2.out _ HNA8.out).mono ?_
            rintro e w9 ⟨rfl, hb9⟩
            have HNA9 := Lib.hid (HNA8.out.below hb9)
            have HB9 := Lib.hid (HB8.out.trans (hb9.mono HB8.out.size))
            clear y0 y1 y2 y3 hb9 HG2 HNA8 HB8
            obtain ⟨y0, y1, y2, y3⟩ := HNA9.out.cells
            have hfin : (us.length : Int) = (s9 : Int) - ((q : Int) + (ts.length : Int)) := by have := HQS.out; have := HCUT.out; omega
            have HRF := Lib.hid (show Run ((i + 1 : Nat) : Int) L far us (((i + 1 : Nat) : Int) + 1) (41 + 50 * ((i + 1 : Nat) : Int)) ∧ NetAt w9 g ((i + 1 : Nat) : Int) L far us A5 c5 B5 d5 by
              have e1 : ((i + 1 : Nat) : Int) = (i : Int) + 1 := by omega
              have e2 : (41 : Int) + 50 * ((i : Int) + 1) = 41 + 50 * (i : Int) + 50 := by omega
              rw [e1, e2]
              exact ⟨HRU3.out, HNA9.out⟩)
            go_wp2
            go_roundw
            case rel => exact ⟨i + 1, s9, q + ts.length, us, A5, c5, B5, d5, by omega, by go_num, by go_num, by go_num, show _ = _ by have := HQS.out; have := HCUT.out; omega, by omega, HRF.out.1, HRF.out.2, HB9.out⟩
            case measure => simp [intOf]; omega
          · skip
            obtain ⟨f, hf⟩ : ∃ f : Int, f = (u2 : Int) % 5 := ⟨_, rfl⟩
            have hf0 : 0 ≤ f := by omega
            rw [← hf] at hin
            have hans := HRUW.out.dblNo hin
            have HFF := Lib.hid (show Int.tmod (u2 : Int) 5 = f by rw [Int.tmod_eq_emod_of_nonneg (by omega)]; omega)
            clear hf
            have HS := Lib.hid (implDbl_at hnaD HRUW.out.small f)
            rw [hans] at HS
            unfold noA at HS
            simp only at HS
            have hsD := HB0.out.size
            obtain ⟨y0, y1, y2, y3⟩ := HNA.out.cells
            have hw2 : IntKind.i64.wrap ((i : Int) + 2) = (i : Int) + 2 := by rw [IntKind.wrap_i64]; omega
            have hw3 : IntKind.i64.wrap ((i : Int) + 3) = (i : Int) + 3 := by rw [IntKind.wrap_i64]; omega
            go_upto_region 19 with fail
            have HS0 : WX.drew.cell? ⟨g, 0, none⟩ = some (.int .i64 (i : Int)) ∧ WX.drew.cell? ⟨g, 1, none⟩ = some (.slice A' L.length c') ∧ WX.drew.cell? ⟨g, 2, none⟩ = some (.int .i64 far) ∧ WX.drew.cell? ⟨g, 3, none⟩ = some (.slice B' ls.length d') := ⟨y0, y1, y2, y3⟩
            go_region_held3 (fun w' => w'.cell? ⟨g, 0, none⟩ = some (.int .i64 (i : Int)) ∧ w'.cell? ⟨g, 1, none⟩ = some (.slice A' L.length c') ∧ w'.cell? ⟨g, 2, none⟩ = some (.int .i64 far) ∧ w'.cell? ⟨g, 3, none⟩ = some (.slice B' ls.length d'))
              (first | with_reducible exact HS0 | with_reducible exact HS5 | with_reducible exact ⟨(put4_cell hgne).trans HS5.1, (put4_cell hgne).trans HS5.2.1, (put4_cell hgne).trans HS5.2.2.1, (put4_cell hgne).trans HS5.2.2.2⟩)
              (first | (go_at_call 29; (first | (with_reducible refine (HV2.out _ HB0.out).mono ?_)); rintro e w4 ⟨rfl, rfl⟩) | (go_at_call 41; rw [HFF.out]; (with_reducible refine HS.out.mono ?_); rintro e w5 ⟨A9, c9, B9, d9, rfl, hoi9, hol9, hb9⟩; have HS5 := (HNA.out.below (HB0.out.trans (hb9.mono HB0.out.size))).cells; have HNX5 := HNX.out.below (HB0.out.trans (hb9.mono HB0.out.size)); obtain ⟨x0, x1, x2, x3⟩ := HNX5.cells; have f0 := HNX5.free 0; have f1 := HNX5.free 1; have f2 := HNX5.free 2; have f3 := HNX5.free 3))
            have hz5 := hb9.size
            have HB5 := Lib.hid (HBW.out.trans ((HB0.out.trans (hb9.mono HB0.out.size)).mono HBW.out.size))
            have hna5 := HNA.out.below (HB0.out.trans (hb9.mono HB0.out.size))
            have hg8 : w.heap.size ≤ g8 := by have := HG8.out; omega
            obtain ⟨W9, hW9⟩ : ∃ W9, W9 = ((((w5.setCell ⟨g8, 0, none⟩ (.int .i64 0)).setCell ⟨g8, 1, none⟩ (.slice A9 0 c9)).setCell ⟨g8, 2, none⟩ (.int .i64 0)).setCell ⟨g8, 3, none⟩ (.slice B9 0 d9)) := ⟨_, rfl⟩
            rw [← hW9]
            have hna9 : NetAt W9 g (i : Int) L far ls A' c' B' d' := by rw [hW9]; exact hna5.over HNX5.1 hgne
            have HB9 := Lib.hid (show Below w.heap.size w W9 by rw [hW9]; exact put_below HB5.out hg8)
            clear hna5 HB5 hoi9 hol9 hb9 HNX5 HS5 HS0 x0 x1 x2 x3 y0 y1 y2 y3 f0 f1 f2 f3 HS HFF HNA HBW HNX hnaD hsD hz5 hW9 HV1 HV2 HV3 hans
            have HNA := Lib.hid hna9
            have HBW := HB9
            clear hna9 HB9 HRU
            have HRU := HRUW
            clear HRUW
            go_upto_region 26 with fail
            have hs9i : s ≤ i + 1 := by omega
            have hqb : q ≤ 100 := by have := HQS.out; omega
            have HTK := Lib.hid (implTick_at HNA.out HRU.out.small)
            rw [HRU.out.tick] at HTK
            have HRU2 := Lib.hid (HRU.out.tock (by omega))
            obtain ⟨y0, y1, y2, y3⟩ := HNA.out.cells
            go_wp2_with fail
            refine HTK.out.mono ?_
            rintro e w3 ⟨A3, c3, B3, d3, rfl, hoi3, hol3, hb3⟩
            have hna3 := HNA.out.below hb3
            have HB3 := Lib.hid (HBW.out.trans (hb3.mono HBW.out.size))
            clear y0 y1 y2 y3 HTK
            obtain ⟨y0, y1, y2, y3⟩ := hna3.cells
            have f0 := hna3.free 0
            have f1 := hna3.free 1
            have f2 := hna3.free 2
            have f3 := hna3.free 3
            go_upto_region 27 with fail
            obtain ⟨W3, hW3⟩ : ∃ W3, W3 = ((((w3.setCell ⟨g, 0, none⟩ (.int .i64 ((i : Int) + 1))).setCell ⟨g, 1, none⟩ (.slice A3 L.length c3)).setCell ⟨g, 2, none⟩ (.int .i64 far)).setCell ⟨g, 3, none⟩ (.slice B3 ls.length d3)) := ⟨_, rfl⟩
            rw [← hW3]
            have hna4 : NetAt W3 g ((i : Int) + 1) L far ls A3 c3 B3 d3 := by rw [hW3]; exact hna3.put hoi3 hol3
            have HBW4 := Lib.hid (show Below w.heap.size w W3 by rw [hW3]; exact put_below HB3.out hgw)
            clear hna3 hoi3 hol3 hb3 hW3 y0 y1 y2 y3 f0 f1 f2 f3
            have hdl := HRU2.out.dlv
            have HD1 := Lib.hid (implDlv_at hna4 HRU2.out.small hdl)
            obtain ⟨us, hus⟩ : ∃ us, us = ls.drop (dueK ls ((i : Int) + 1)) := ⟨_, rfl⟩
            obtain ⟨ts, hts⟩ : ∃ ts, ts = ls.take (dueK ls ((i : Int) + 1)) := ⟨_, rfl⟩
            have HCUT := Lib.hid (show ts.length + us.length = ls.length by rw [hus, hts]; exact cut_len _ _)
            have HRU3 := Lib.hid (show Run ((i : Int) + 1) L far us (((i : Int) + 1) + 1) (41 + 50 * (i : Int) + 50) by rw [hus]; exact HRU2.out.left)
            rw [← hus, ← hts] at HD1
            have HNA4 := Lib.hid hna4
            have HTL := Lib.hid (show ts.length ≤ 100 by have := HCUT.out; have := HRU2.out.few; omega)
            clear hus hts hdl hna4 HNA HRU HBW HB3
            obtain ⟨y0, y1, y2, y3⟩ := HNA4.out.cells
            go_wp2_with fail
            refine HD1.out.mono ?_
            rintro e w5 ⟨A5, c5, B5, d5, D5, e5, rfl, hoi5, hol5, hot5, hb5⟩
            clear y0 y1 y2 y3 HD1
            have hna5 := HNA4.out.below hb5
            have hb6 := below1 w5 (.cells #[.int .i64 ((i : Int) + 1), .slice A5 L.length c5, .int .i64 far, .slice B5 us.length d5] 35)
            have hna6 := hna5.below hb6
            have hnb6 := NetAt.new (t := ((i : Int) + 1)) (far := far) hoi5 hol5
            have HB6 := Lib.hid (HBW4.out.trans ((hb5.trans (hb6.mono hb5.size)).mono HBW4.out.size))
            go_upto_region 28 with fail
            obtain ⟨g5, hg5⟩ : ∃ g5, g5 = w5.heap.size := ⟨_, rfl⟩
            obtain ⟨W5, hW5⟩ : ∃ W5, W5 = w5.alloc (.cells #[.int .i64 ((i : Int) + 1), .slice A5 L.length c5, .int .i64 far, .slice B5 us.length d5] 35) := ⟨_, rfl⟩
            rw [← hW5]
            rw [← hW5] at hna6 hnb6 HB6
            rw [← hg5] at hnb6 ⊢
            clear hW5 hg5 hna5 hb5 hb6 hoi5 hol5 hot5
            obtain ⟨x0, x1, x2, x3⟩ := hnb6.cells
            obtain ⟨y0, y1, y2, y3⟩ := hna6.cells
            have f0 := hna6.free 0
            have f1 := hna6.free 1
            have f2 := hna6.free 2
            have f3 := hna6.free 3
            have hna7p := hna6.put (t' := ((i : Int) + 1)) (far' := far) hnb6.2.1 hnb6.2.2
            have HB7p := put_below (p := .int .i64 ((i : Int) + 1)) (q := .slice A5 L.length c5) (r := .int .i64 far) (s := .slice B5 us.length d5) HB6.out hgw
            go_upto_region 29 with fail
            obtain ⟨W7, hW7⟩ : ∃ W7, W7 = ((((W5.setCell ⟨g, 0, none⟩ (.int .i64 ((i : Int) + 1))).setCell ⟨g, 1, none⟩ (.slice A5 L.length c5)).setCell ⟨g, 2, none⟩ (.int .i64 far)).setCell ⟨g, 3, none⟩ (.slice B5 us.length d5)) := ⟨_, rfl⟩
            rw [← hW7]
            have hna7 : NetAt W7 g ((i : Int) + 1) L far us A5 c5 B5 d5 := by rw [hW7]; exact hna7p
            have HB7 := Lib.hid (show Below w.heap.size w W7 by rw [hW7]; exact HB7p)
            have HNA7 := Lib.hid hna7
            have htl := HTL.out
            clear hna6 hnb6 HNA4 HBW4 hna7p HB7p hW7 x0 x1 x2 x3 y0 y1 y2 y3 f0 f1 f2 f3 hna7 HB6
            have HG1 := Lib.hid (implGood_at HNA7.out HRU3.out.small)
            have HG2 := Lib.hid (fun W (hW : NetAt W g ((i : Int) + 1) L far us A5 c5 B5 d5) => specGood_at hW HRU3.out.small)
            rw [HRU3.out.good] at HG1 HG2
            obtain ⟨y0, y1, y2, y3⟩ := HNA7.out.cells
            go_wp2_with fail
            refine HG1.out.mono ?_
            rintro e w8 ⟨rfl, hb8⟩
            have HNA8 := Lib.hid (HNA7.out.below hb8)
            have HB8 := Lib.hid (HB7.out.trans (hb8.mono HB7.out.size))
            clear y0 y1 y2 y3 hb8 HG1 HNA7 HB7
            obtain ⟨y0, y1, y2, y3⟩ := HNA8.out.cells
            go_wp2_with fail
            refine (HG2.out _ HNA8.out).mono ?_
            rintro e w9 ⟨rfl, hb9⟩
            have HNA9 := Lib.hid (HNA8.out.below hb9)
            have HB9 := Lib.hid (HB8.out.trans (hb9.mono HB8.out.size))
            clear y0 y1 y2 y3 hb9 HG2 HNA8 HB8
            obtain ⟨y0, y1, y2, y3⟩ := HNA9.out.cells
            have hfin : (us.length : Int) = (s : Int) - ((q : Int) + (ts.length : Int)) := by have := HQS.out; have := HCUT.out; omega
            have HRF := Lib.hid (show Run ((i + 1 : Nat) : Int) L far us (((i + 1 : Nat) : Int) + 1) (41 + 50 * ((i + 1 : Nat) : Int)) ∧ NetAt w9 g ((i + 1 : Nat) : Int) L far us A5 c5 B5 d5 by
              have e1 : ((i + 1 : Nat) : Int) = (i : Int) + 1 := by omega
              have e2 : (41 : Int) + 50 * ((i : Int) + 1) = 41 + 50 * (i : Int) + 50 := by omega
              rw [e1, e2]
              exact ⟨HRU3.out, HNA9.out⟩)
            go_wp2
            go_roundw
            case rel => exact ⟨i + 1, s, q + ts.length, us, A5, c5, B5, d5, by omega, by go_num, by go_num, by go_num, show _ = _ by have := HQS.out; have := HCUT.out; omega, by omega, HRF.out.1, HRF.out.2, HB9.out⟩
            case measure => simp [intOf]; omega
        · by_cases hin : ((u2 : Int) % 5) < (ls.length : Int)
          · skip
            obtain ⟨f, hf⟩ : ∃ f : Int, f = (u2 : Int) % 5 := ⟨_, rfl⟩
            obtain ⟨t, ht⟩ : ∃ t : Int, t = 1 + (u3 : Int) % 50 := ⟨_, rfl⟩
            have htb : 1 ≤ t ∧ t ≤ 50 := by omega
            have hf0 : 0 ≤ f := by omega
            rw [← hf] at hin
            obtain ⟨hans, hr9, hl9⟩ := HRU.out.dly (hi' := 41 + 50 * (i : Int) + 50) hf0 hin htb (by omega) (by omega)
            obtain ⟨us9, hus9⟩ : ∃ x, x = insL (outL ls f.toNat) (later (letAt ls f) t) := ⟨_, rfl⟩
            rw [← hus9] at hans hr9 hl9
            have HQS2 := Lib.hid (show q + us9.length = s by have := HQS.out; omega)
            have HRU9 := Lib.hid hr9
            clear hus9 hr9 hl9
            have HFF := Lib.hid (show Int.tmod (u2 : Int) 5 = f by rw [Int.tmod_eq_emod_of_nonneg (by omega)]; omega)
            have HTT := Lib.hid (show IntKind.i64.wrap (1 + Int.tmod (u3 : Int) 50) = t by rw [Int.tmod_eq_emod_of_nonneg (by omega), IntKind.wrap_i64]; omega)
            clear ht
            clear hf
            have HS := Lib.hid (implDly_at hnaD HRUW.out.small f t)
            rw [hans] at HS
            simp only at HS
            have hsD := HB0.out.size
            obtain ⟨y0, y1, y2, y3⟩ := HNA.out.cells
            have hw2 : IntKind.i64.wrap ((i : Int) + 2) = (i : Int) + 2 := by rw [IntKind.wrap_i64]; omega
            have hw3 : IntKind.i64.wrap ((i : Int) + 3) = (i : Int) + 3 := by rw [IntKind.wrap_i64]; omega
            go_upto_region 22 with fail
            have HS0 : WX.drew.cell? ⟨g, 0, none⟩ = some (.int .i64 (i : Int)) ∧ WX.drew.cell? ⟨g, 1, none⟩ = some (.slice A' L.length c') ∧ WX.drew.cell? ⟨g, 2, none⟩ = some (.int .i64 far) ∧ WX.drew.cell? ⟨g, 3, none⟩ = some (.slice B' ls.length d') := ⟨y0, y1, y2, y3⟩
            go_region_held3 (fun w' => w'.cell? ⟨g, 0, none⟩ = some (.int .i64 (i : Int)) ∧ w'.cell? ⟨g, 1, none⟩ = some (.slice A' L.length c') ∧ w'.cell? ⟨g, 2, none⟩ = some (.int .i64 far) ∧ w'.cell? ⟨g, 3, none⟩ = some (.slice B' ls.length d'))
              (first | with_reducible exact HS0 | with_reducible exact HS5 | with_reducible exact ⟨(put4_cell hgne).trans HS5.1, (put4_cell hgne).trans HS5.2.1, (put4_cell hgne).trans HS5.2.2.1, (put4_cell hgne).trans HS5.2.2.2⟩)
              (first | (go_at_call 29; (first | (with_reducible refine (HV2.out _ HB0.out).mono ?_) | (with_reducible refine (HV3.out _ HB0.out).mono ?_)); rintro e w4 ⟨rfl, rfl⟩) | (go_at_call 42; rw [HFF.out, HTT.out]; (with_reducible refine HS.out.mono ?_); rintro e w5 ⟨A9, c9, B9, d9, rfl, hoi9, hol9, hb9⟩; have HS5 := (HNA.out.below (HB0.out.trans (hb9.mono HB0.out.size))).cells; have HNX5 := HNX.out.below (HB0.out.trans (hb9.mono HB0.out.size)); obtain ⟨x0, x1, x2, x3⟩ := HNX5.cells; have f0 := HNX5.free 0; have f1 := HNX5.free 1; have f2 := HNX5.free 2; have f3 := HNX5.free 3))
            have hz5 := hb9.size
            have HB5 := Lib.hid (HBW.out.trans ((HB0.out.trans (hb9.mono HB0.out.size)).mono HBW.out.size))
            have hna5 := HNA.out.below (HB0.out.trans (hb9.mono HB0.out.size))
            have hg8 : w.heap.size ≤ g8 := by have := HG8.out; omega
            obtain ⟨W9, hW9⟩ : ∃ W9, W9 = ((((w5.setCell ⟨g8, 0, none⟩ (.int .i64 (i : Int))).setCell ⟨g8, 1, none⟩ (.slice A9 L.length c9)).setCell ⟨g8, 2, none⟩ (.int .i64 far)).setCell ⟨g8, 3, none⟩ (.slice B9 us9.length d9)) := ⟨_, rfl⟩
            rw [← hW9]
            have hna9 : NetAt W9 g (i : Int) L far ls A' c' B' d' := by rw [hW9]; exact hna5.over HNX5.1 hgne
            have HB9 := Lib.hid (show Below w.heap.size w W9 by rw [hW9]; exact put_below HB5.out hg8)
            have hnx9 : NetAt W9 g8 (i : Int) L far us9 A9 c9 B9 d9 := by rw [hW9]; exact HNX5.put hoi9 hol9
            clear hna5 HB5 hoi9 hol9 hb9 HNX5 HS5 HS0 x0 x1 x2 x3 y0 y1 y2 y3 f0 f1 f2 f3 HS HFF HNA HBW HNX hnaD hsD hz5 hW9 HV1 HV2 HV3 hans HTT
            obtain ⟨x0, x1, x2, x3⟩ := hnx9.cells
            obtain ⟨y0, y1, y2, y3⟩ := hna9.cells
            have f0 := hna9.free 0
            have f1 := hna9.free 1
            have f2 := hna9.free 2
            have f3 := hna9.free 3
            have HNP := Lib.hid (hna9.put hnx9.2.1 hnx9.2.2 (t' := (i : Int)) (far' := far))
            go_upto_region 26 with fail
            obtain ⟨W10, hW10⟩ : ∃ W10, W10 = ((((W9.setCell ⟨g, 0, none⟩ (.int .i64 (i : Int))).setCell ⟨g, 1, none⟩ (.slice A9 L.length c9)).setCell ⟨g, 2, none⟩ (.int .i64 far)).setCell ⟨g, 3, none⟩ (.slice B9 us9.length d9)) := ⟨_, rfl⟩
            rw [← hW10]
            have HNA := Lib.hid (show NetAt W10 g (i : Int) L far us9 A9 c9 B9 d9 by rw [hW10]; exact HNP.out)
            have HBW := Lib.hid (show Below w.heap.size w W10 by rw [hW10]; exact put_below HB9.out hgw)
            clear HNP hW10 hna9 hnx9 HB9 x0 x1 x2 x3 y0 y1 y2 y3 f0 f1 f2 f3 HQS HRU HRUW
            have HQS := HQS2
            have HRU := HRU9
            clear HQS2 HRU9
            have hs9i : s ≤ i + 1 := by omega
            have hqb : q ≤ 100 := by have := HQS.out; omega
            have HTK := Lib.hid (implTick_at HNA.out HRU.out.small)
            rw [HRU.out.tick] at HTK
            have HRU2 := Lib.hid (HRU.out.tock (by omega))
            obtain ⟨y0, y1, y2, y3⟩ := HNA.out.cells
            go_wp2_with fail
            refine HTK.out.mono ?_
            rintro e w3 ⟨A3, c3, B3, d3, rfl, hoi3, hol3, hb3⟩
            have hna3 := HNA.out.below hb3
            have HB3 := Lib.hid (HBW.out.trans (hb3.mono HBW.out.size))
            clear y0 y1 y2 y3 HTK
            obtain ⟨y0, y1, y2, y3⟩ := hna3.cells
            have f0 := hna3.free 0
            have f1 := hna3.free 1
            have f2 := hna3.free 2
            have f3 := hna3.free 3
            go_upto_region 27 with fail
            obtain ⟨W3, hW3⟩ : ∃ W3, W3 = ((((w3.setCell ⟨g, 0, none⟩ (.int .i64 ((i : Int) + 1))).setCell ⟨g, 1, none⟩ (.slice A3 L.length c3)).setCell ⟨g, 2, none⟩ (.int .i64 far)).setCell ⟨g, 3, none⟩ (.slice B3 us9.length d3)) := ⟨_, rfl⟩
            rw [← hW3]
            have hna4 : NetAt W3 g ((i : Int) + 1) L far us9 A3 c3 B3 d3 := by rw [hW3]; exact hna3.put hoi3 hol3
            have HBW4 := Lib.hid (show Below w.heap.size w W3 by rw [hW3]; exact put_below HB3.out hgw)
            clear hna3 hoi3 hol3 hb3 hW3 y0 y1 y2 y3 f0 f1 f2 f3
            have hdl := HRU2.out.dlv
            have HD1 := Lib.hid (implDlv_at hna4 HRU2.out.small hdl)
            obtain ⟨us, hus⟩ : ∃ us, us = us9.drop (dueK us9 ((i : Int) + 1)) := ⟨_, rfl⟩
            obtain ⟨ts, hts⟩ : ∃ ts, ts = us9.take (dueK us9 ((i : Int) + 1)) := ⟨_, rfl⟩
            have HCUT := Lib.hid (show ts.length + us.length = us9.length by rw [hus, hts]; exact cut_len _ _)
            have HRU3 := Lib.hid (show Run ((i : Int) + 1) L far us (((i : Int) + 1) + 1) (41 + 50 * (i : Int) + 50) by rw [hus]; exact HRU2.out.left)
            rw [← hus, ← hts] at HD1
            have HNA4 := Lib.hid hna4
            have HTL := Lib.hid (show ts.length ≤ 100 by have := HCUT.out; have := HRU2.out.few; omega)
            clear hus hts hdl hna4 HNA HRU HBW HB3
            obtain ⟨y0, y1, y2, y3⟩ := HNA4.out.cells
            go_wp2_with fail
            refine HD1.out.mono ?_
            rintro e w5 ⟨A5, c5, B5, d5, D5, e5, rfl, hoi5, hol5, hot5, hb5⟩
            clear y0 y1 y2 y3 HD1
            have hna5 := HNA4.out.below hb5
            have hb6 := below1 w5 (.cells #[.int .i64 ((i : Int) + 1), .slice A5 L.length c5, .int .i64 far, .slice B5 us.length d5] 35)
            have hna6 := hna5.below hb6
            have hnb6 := NetAt.new (t := ((i : Int) + 1)) (far := far) hoi5 hol5
            have HB6 := Lib.hid (HBW4.out.trans ((hb5.trans (hb6.mono hb5.size)).mono HBW4.out.size))
            go_upto_region 28 with fail
            obtain ⟨g5, hg5⟩ : ∃ g5, g5 = w5.heap.size := ⟨_, rfl⟩
            obtain ⟨W5, hW5⟩ : ∃ W5, W5 = w5.alloc (.cells #[.int .i64 ((i : Int) + 1), .slice A5 L.length c5, .int .i64 far, .slice B5 us.length d5] 35) := ⟨_, rfl⟩
            rw [← hW5]
            rw [← hW5] at hna6 hnb6 HB6
            rw [← hg5] at hnb6 ⊢
            clear hW5 hg5 hna5 hb5 hb6 hoi5 hol5 hot5
            obtain ⟨x0, x1, x2, x3⟩ := hnb6.cells
            obtain ⟨y0, y1, y2, y3⟩ := hna6.cells
            have f0 := hna6.free 0
            have f1 := hna6.free 1
            have f2 := hna6.free 2
            have f3 := hna6.free 3
            have hna7p := hna6.put (t' := ((i : Int) + 1)) (far' := far) hnb6.2.1 hnb6.2.2
            have HB7p := put_below (p := .int .i64 ((i : Int) + 1)) (q := .slice A5 L.length c5) (r := .int .i64 far) (s := .slice B5 us.length d5) HB6.out hgw
            go_upto_region 29 with fail
            obtain ⟨W7, hW7⟩ : ∃ W7, W7 = ((((W5.setCell ⟨g, 0, none⟩ (.int .i64 ((i : Int) + 1))).setCell ⟨g, 1, none⟩ (.slice A5 L.length c5)).setCell ⟨g, 2, none⟩ (.int .i64 far)).setCell ⟨g, 3, none⟩ (.slice B5 us.length d5)) := ⟨_, rfl⟩
            rw [← hW7]
            have hna7 : NetAt W7 g ((i : Int) + 1) L far us A5 c5 B5 d5 := by rw [hW7]; exact hna7p
            have HB7 := Lib.hid (show Below w.heap.size w W7 by rw [hW7]; exact HB7p)
            have HNA7 := Lib.hid hna7
            have htl := HTL.out
            clear hna6 hnb6 HNA4 HBW4 hna7p HB7p hW7 x0 x1 x2 x3 y0 y1 y2 y3 f0 f1 f2 f3 hna7 HB6
            have HG1 := Lib.hid (implGood_at HNA7.out HRU3.out.small)
            have HG2 := Lib.hid (fun W (hW : NetAt W g ((i : Int) + 1) L far us A5 c5 B5 d5) => specGood_at hW HRU3.out.small)
            rw [HRU3.out.good] at HG1 HG2
            obtain ⟨y0, y1, y2, y3⟩ := HNA7.out.cells
            go_wp2_with fail
            refine HG1.out.mono ?_
            rintro e w8 ⟨rfl, hb8⟩
            have HNA8 := Lib.hid (HNA7.out.below hb8)
            have HB8 := Lib.hid (HB7.out.trans (hb8.mono HB7.out.size))
            clear y0 y1 y2 y3 hb8 HG1 HNA7 HB7
            obtain ⟨y0, y1, y2, y3⟩ := HNA8.out.cells
            go_wp2_with fail
            refine (HG2.out _ HNA8.out).mono ?_
            rintro e w9 ⟨rfl, hb9⟩
            have HNA9 := Lib.hid (HNA8.out.below hb9)
            have HB9 := Lib.hid (HB8.out.trans (hb9.mono HB8.out.size))
            clear y0 y1 y2 y3 hb9 HG2 HNA8 HB8
            obtain ⟨y0, y1, y2, y3⟩ := HNA9.out.cells
            have hfin : (us.length : Int) = (s : Int) - ((q : Int) + (ts.length : Int)) := by have := HQS.out; have := HCUT.out; omega
            have HRF := Lib.hid (show Run ((i + 1 : Nat) : Int) L far us (((i + 1 : Nat) : Int) + 1) (41 + 50 * ((i + 1 : Nat) : Int)) ∧ NetAt w9 g ((i + 1 : Nat) : Int) L far us A5 c5 B5 d5 by
              have e1 : ((i + 1 : Nat) : Int) = (i : Int) + 1 := by omega
              have e2 : (41 : Int) + 50 * ((i : Int) + 1) = 41 + 50 * (i : Int) + 50 := by omega
              rw [e1, e2]
              exact ⟨HRU3.out, HNA9.out⟩)
            go_wp2
            go_roundw
            case rel => exact ⟨i + 1, s, q + ts.length, us, A5, c5, B5, d5, by omega, by go_num, by go_num, by go_num, show _ = _ by have := HQS.out; have := HCUT.out; omega, by omega, HRF.out.1, HRF.out.2, HB9.out⟩
            case measure => simp [intOf]; omega
          · skip
            obtain ⟨f, hf⟩ : ∃ f : Int, f = (u2 : Int) % 5 := ⟨_, rfl⟩
            obtain ⟨t, ht⟩ : ∃ t : Int, t = 1 + (u3 : Int) % 50 := ⟨_, rfl⟩
            have htb : 1 ≤ t ∧ t ≤ 50 := by omega
            have hf0 : 0 ≤ f := by omega
            rw [← hf] at hin
            have hans := HRUW.out.dlyNo (b := t) hin
            have HFF := Lib.hid (show Int.tmod (u2 : Int) 5 = f by rw [Int.tmod_eq_emod_of_nonneg (by omega)]; omega)
            have HTT := Lib.hid (show IntKind.i64.wrap (1 + Int.tmod (u3 : Int) 50) = t by rw [Int.tmod_eq_emod_of_nonneg (by omega), IntKind.wrap_i64]; omega)
            clear ht
            clear hf
            have HS := Lib.hid (implDly_at hnaD HRUW.out.small f t)
            rw [hans] at HS
            unfold noA at HS
            simp only at HS
            have hsD := HB0.out.size
            obtain ⟨y0, y1, y2, y3⟩ := HNA.out.cells
            have hw2 : IntKind.i64.wrap ((i : Int) + 2) = (i : Int) + 2 := by rw [IntKind.wrap_i64]; omega
            have hw3 : IntKind.i64.wrap ((i : Int) + 3) = (i : Int) + 3 := by rw [IntKind.wrap_i64]; omega
            go_upto_region 22 with fail
            have HS0 : WX.drew.cell? ⟨g, 0, none⟩ = some (.int .i64 (i : Int)) ∧ WX.drew.cell? ⟨g, 1, none⟩ = some (.slice A' L.length c') ∧ WX.drew.cell? ⟨g, 2, none⟩ = some (.int .i64 far) ∧ WX.drew.cell? ⟨g, 3, none⟩ = some (.slice B' ls.length d') := ⟨y0, y1, y2, y3⟩
            go_region_held3 (fun w' => w'.cell? ⟨g, 0, none⟩ = some (.int .i64 (i : Int)) ∧ w'.cell? ⟨g, 1, none⟩ = some (.slice A' L.length c') ∧ w'.cell? ⟨g, 2, none⟩ = some (.int .i64 far) ∧ w'.cell? ⟨g, 3, none⟩ = some (.slice B' ls.length d'))
              (first | with_reducible exact HS0 | with_reducible exact HS5 | with_reducible exact ⟨(put4_cell hgne).trans HS5.1, (put4_cell hgne).trans HS5.2.1, (put4_cell hgne).trans HS5.2.2.1, (put4_cell hgne).trans HS5.2.2.2⟩)
              (first | (go_at_call 29; (first | (with_reducible refine (HV2.out _ HB0.out).mono ?_) | (with_reducible refine (HV3.out _ HB0.out).mono ?_)); rintro e w4 ⟨rfl, rfl⟩) | (go_at_call 42; rw [HFF.out, HTT.out]; (with_reducible refine HS.out.mono ?_); rintro e w5 ⟨A9, c9, B9, d9, rfl, hoi9, hol9, hb9⟩; have HS5 := (HNA.out.below (HB0.out.trans (hb9.mono HB0.out.size))).cells; have HNX5 := HNX.out.below (HB0.out.trans (hb9.mono HB0.out.size)); obtain ⟨x0, x1, x2, x3⟩ := HNX5.cells; have f0 := HNX5.free 0; have f1 := HNX5.free 1; have f2 := HNX5.free 2; have f3 := HNX5.free 3))
            have hz5 := hb9.size
            have HB5 := Lib.hid (HBW.out.trans ((HB0.out.trans (hb9.mono HB0.out.size)).mono HBW.out.size))
            have hna5 := HNA.out.below (HB0.out.trans (hb9.mono HB0.out.size))
            have hg8 : w.heap.size ≤ g8 := by have := HG8.out; omega
            obtain ⟨W9, hW9⟩ : ∃ W9, W9 = ((((w5.setCell ⟨g8, 0, none⟩ (.int .i64 0)).setCell ⟨g8, 1, none⟩ (.slice A9 0 c9)).setCell ⟨g8, 2, none⟩ (.int .i64 0)).setCell ⟨g8, 3, none⟩ (.slice B9 0 d9)) := ⟨_, rfl⟩
            rw [← hW9]
            have hna9 : NetAt W9 g (i : Int) L far ls A' c' B' d' := by rw [hW9]; exact hna5.over HNX5.1 hgne
            have HB9 := Lib.hid (show Below w.heap.size w W9 by rw [hW9]; exact put_below HB5.out hg8)
            clear hna5 HB5 hoi9 hol9 hb9 HNX5 HS5 HS0 x0 x1 x2 x3 y0 y1 y2 y3 f0 f1 f2 f3 HS HFF HNA HBW HNX hnaD hsD hz5 hW9 HV1 HV2 HV3 hans HTT
            have HNA := Lib.hid hna9
            have HBW := HB9
            clear hna9 HB9 HRU
            have HRU := HRUW
            clear HRUW
            go_upto_region 26 with fail
            have hs9i : s ≤ i + 1 := by omega
            have hqb : q ≤ 100 := by have := HQS.out; omega
            have HTK := Lib.hid (implTick_at HNA.out HRU.out.small)
            rw [HRU.out.tick] at HTK
            have HRU2 := Lib.hid (HRU.out.tock (by omega))
            obtain ⟨y0, y1, y2, y3⟩ := HNA.out.cells
            go_wp2_with fail
            refine HTK.out.mono ?_
            rintro e w3 ⟨A3, c3, B3, d3, rfl, hoi3, hol3, hb3⟩
            have hna3 := HNA.out.below hb3
            have HB3 := Lib.hid (HBW.out.trans (hb3.mono HBW.out.size))
            clear y0 y1 y2 y3 HTK
            obtain ⟨y0, y1, y2, y3⟩ := hna3.cells
            have f0 := hna3.free 0
            have f1 := hna3.free 1
            have f2 := hna3.free 2
            have f3 := hna3.free 3
            go_upto_region 27 with fail
            obtain ⟨W3, hW3⟩ : ∃ W3, W3 = ((((w3.setCell ⟨g, 0, none⟩ (.int .i64 ((i : Int) + 1))).setCell ⟨g, 1, none⟩ (.slice A3 L.length c3)).setCell ⟨g, 2, none⟩ (.int .i64 far)).setCell ⟨g, 3, none⟩ (.slice B3 ls.length d3)) := ⟨_, rfl⟩
            rw [← hW3]
            have hna4 : NetAt W3 g ((i : Int) + 1) L far ls A3 c3 B3 d3 := by rw [hW3]; exact hna3.put hoi3 hol3
            have HBW4 := Lib.hid (show Below w.heap.size w W3 by rw [hW3]; exact put_below HB3.out hgw)
            clear hna3 hoi3 hol3 hb3 hW3 y0 y1 y2 y3 f0 f1 f2 f3
            have hdl := HRU2.out.dlv
            have HD1 := Lib.hid (implDlv_at hna4 HRU2.out.small hdl)
            obtain ⟨us, hus⟩ : ∃ us, us = ls.drop (dueK ls ((i : Int) + 1)) := ⟨_, rfl⟩
            obtain ⟨ts, hts⟩ : ∃ ts, ts = ls.take (dueK ls ((i : Int) + 1)) := ⟨_, rfl⟩
            have HCUT := Lib.hid (show ts.length + us.length = ls.length by rw [hus, hts]; exact cut_len _ _)
            have HRU3 := Lib.hid (show Run ((i : Int) + 1) L far us (((i : Int) + 1) + 1) (41 + 50 * (i : Int) + 50) by rw [hus]; exact HRU2.out.left)
            rw [← hus, ← hts] at HD1
            have HNA4 := Lib.hid hna4
            have HTL := Lib.hid (show ts.length ≤ 100 by have := HCUT.out; have := HRU2.out.few; omega)
            clear hus hts hdl hna4 HNA HRU HBW HB3
            obtain ⟨y0, y1, y2, y3⟩ := HNA4.out.cells
            go_wp2_with fail
            refine HD1.out.mono ?_
            rintro e w5 ⟨A5, c5, B5, d5, D5, e5, rfl, hoi5, hol5, hot5, hb5⟩
            clear y0 y1 y2 y3 HD1
            have hna5 := HNA4.out.below hb5
            have hb6 := below1 w5 (.cells #[.int .i64 ((i : Int) + 1), .slice A5 L.length c5, .int .i64 far, .slice B5 us.length d5] 35)
            have hna6 := hna5.below hb6
            have hnb6 := NetAt.new (t := ((i : Int) + 1)) (far := far) hoi5 hol5
            have HB6 := Lib.hid (HBW4.out.trans ((hb5.trans (hb6.mono hb5.size)).mono HBW4.out.size))
            go_upto_region 28 with fail
            obtain ⟨g5, hg5⟩ : ∃ g5, g5 = w5.heap.size := ⟨_, rfl⟩
            obtain ⟨W5, hW5⟩ : ∃ W5, W5 = w5.alloc (.cells #[.int .i64 ((i : Int) + 1), .slice A5 L.length c5, .int .i64 far, .slice B5 us.length d5] 35) := ⟨_, rfl⟩
            rw [← hW5]
            rw [← hW5] at hna6 hnb6 HB6
            rw [← hg5] at hnb6 ⊢
            clear hW5 hg5 hna5 hb5 hb6 hoi5 hol5 hot5
            obtain ⟨x0, x1, x2, x3⟩ := hnb6.cells
            obtain ⟨y0, y1, y2, y3⟩ := hna6.cells
            have f0 := hna6.free 0
            have f1 := hna6.free 1
            have f2 := hna6.free 2
            have f3 := hna6.free 3
            have hna7p := hna6.put (t' := ((i : Int) + 1)) (far' := far) hnb6.2.1 hnb6.2.2
            have HB7p := put_below (p := .int .i64 ((i : Int) + 1)) (q := .slice A5 L.length c5) (r := .int .i64 far) (s := .slice B5 us.length d5) HB6.out hgw
            go_upto_region 29 with fail
            obtain ⟨W7, hW7⟩ : ∃ W7, W7 = ((((W5.setCell ⟨g, 0, none⟩ (.int .i64 ((i : Int) + 1))).setCell ⟨g, 1, none⟩ (.slice A5 L.length c5)).setCell ⟨g, 2, none⟩ (.int .i64 far)).setCell ⟨g, 3, none⟩ (.slice B5 us.length d5)) := ⟨_, rfl⟩
            rw [← hW7]
            have hna7 : NetAt W7 g ((i : Int) + 1) L far us A5 c5 B5 d5 := by rw [hW7]; exact hna7p
            have HB7 := Lib.hid (show Below w.heap.size w W7 by rw [hW7]; exact HB7p)
            have HNA7 := Lib.hid hna7
            have htl := HTL.out
            clear hna6 hnb6 HNA4 HBW4 hna7p HB7p hW7 x0 x1 x2 x3 y0 y1 y2 y3 f0 f1 f2 f3 hna7 HB6
            have HG1 := Lib.hid (implGood_at HNA7.out HRU3.out.small)
            have HG2 := Lib.hid (fun W (hW : NetAt W g ((i : Int) + 1) L far us A5 c5 B5 d5) => specGood_at hW HRU3.out.small)
            rw [HRU3.out.good] at HG1 HG2
            obtain ⟨y0, y1, y2, y3⟩ := HNA7.out.cells
            go_wp2_with fail
            refine HG1.out.mono ?_
            rintro e w8 ⟨rfl, hb8⟩
            have HNA8 := Lib.hid (HNA7.out.below hb8)
            have HB8 := Lib.hid (HB7.out.trans (hb8.mono HB7.out.size))
            clear y0 y1 y2 y3 hb8 HG1 HNA7 HB7
            obtain ⟨y0, y1, y2, y3⟩ := HNA8.out.cells
            go_wp2_with fail
            refine (HG2.out _ HNA8.out).mono ?_
            rintro e w9 ⟨rfl, hb9⟩
            have HNA9 := Lib.hid (HNA8.out.below hb9)
            have HB9 := Lib.hid (HB8.out.trans (hb9.mono HB8.out.size))
            clear y0 y1 y2 y3 hb9 HG2 HNA8 HB8
            obtain ⟨y0, y1, y2, y3⟩ := HNA9.out.cells
            have hfin : (us.length : Int) = (s : Int) - ((q : Int) + (ts.length : Int)) := by have := HQS.out; have := HCUT.out; omega
            have HRF := Lib.hid (show Run ((i + 1 : Nat) : Int) L far us (((i + 1 : Nat) : Int) + 1) (41 + 50 * ((i + 1 : Nat) : Int)) ∧ NetAt w9 g ((i + 1 : Nat) : Int) L far us A5 c5 B5 d5 by
              have e1 : ((i + 1 : Nat) : Int) = (i : Int) + 1 := by omega
              have e2 : (41 : Int) + 50 * ((i : Int) + 1) = 41 + 50 * (i : Int) + 50 := by omega
              rw [e1, e2]
              exact ⟨HRU3.out, HNA9.out⟩)
            go_wp2
            go_roundw
            case rel => exact ⟨i + 1, s, q + ts.length, us, A5, c5, B5, d5, by omega, by go_num, by go_num, by go_num, show _ = _ by have := HQS.out; have := HCUT.out; omega, by omega, HRF.out.1, HRF.out.2, HB9.out⟩
            case measure => simp [intOf]; omega
      · have hi : i = 30 := by omega
        subst hi
        have HQ0 := HQS
        have HR0 := Lib.hid (show Run (30 + ((0 : Nat) : Int)) L far ls (31 + ((0 : Nat) : Int)) 1541 from HRU.out)
        have HN0 := Lib.hid (show NetAt wr g (30 + ((0 : Nat) : Int)) L far ls A' c' B' d' from hna)
        have HB0 := Lib.hid hbw
        have hq30 : q ≤ 30 := by have := HQS.out; omega
        clear HQS HRU hna hbw
        go_wp2_with fail
        go_loopw [6, 14] (fun qv jv wr => ∃ (j q : Nat) (ls : List (Int × Int × Int × ByteArray)) (A : Option Addr) (c : Nat) (A' : Option Addr) (c' : Nat), j ≤ 1700 ∧ jv = .int .i64 (j : Int) ∧ qv = .int .i64 (q : Int) ∧ Hid (q + ls.length = s) ∧ Hid (Run (30 + (j : Int)) L far ls (31 + (j : Int)) 1541) ∧ NetAt wr g (30 + (j : Int)) L far ls A c A' c' ∧ Below w.heap.size w wr) (fun _ jv _ => 1700 - (intOf jv).toNat)
        case atStart => exact ⟨0, q, ls, A', c', B', d', by omega, rfl, rfl, HQ0, HR0.out, HN0.out, HB0.out⟩
        case round =>
          clear HQ0 HR0 HN0 HB0
          obtain ⟨j, q, ls, A', c', B', d', hj, rfl, rfl, HQS, HRU, hna, hbw⟩ := hrel
          by_cases hfin : j < 1700 ∧ 0 < ls.length
          · obtain ⟨hj1, hl1⟩ := hfin
            have hl2 : (0 : Int) < (ls.length : Int) := by omega
            have HNA := Lib.hid hna
            have HBW := Lib.hid hbw
            clear hna hbw
            have HTK := Lib.hid (implTick_at HNA.out HRU.out.small)
            rw [HRU.out.tick] at HTK
            have HRU2 := Lib.hid (HRU.out.tock (by omega))
            obtain ⟨y0, y1, y2, y3⟩ := HNA.out.cells
            go_wp2_with fail
            refine HTK.out.mono ?_
            rintro e w3 ⟨A3, c3, B3, d3, rfl, hoi3, hol3, hb3⟩
            have hna3 := HNA.out.below hb3
            have HB3 := Lib.hid (HBW.out.trans (hb3.mono HBW.out.size))
            clear y0 y1 y2 y3 HTK
            obtain ⟨y0, y1, y2, y3⟩ := hna3.cells
            have f0 := hna3.free 0
            have f1 := hna3.free 1
            have f2 := hna3.free 2
            have f3 := hna3.free 3
            go_upto_region 36 with fail
            obtain ⟨W3, hW3⟩ : ∃ W3, W3 = ((((w3.setCell ⟨g, 0, none⟩ (.int .i64 ((30 + (j : Int)) + 1))).setCell ⟨g, 1, none⟩ (.slice A3 L.length c3)).setCell ⟨g, 2, none⟩ (.int .i64 far)).setCell ⟨g, 3, none⟩ (.slice B3 ls.length d3)) := ⟨_, rfl⟩
            rw [← hW3]
            have hna4 : NetAt W3 g ((30 + (j : Int)) + 1) L far ls A3 c3 B3 d3 := by rw [hW3]; exact hna3.put hoi3 hol3
            have HBW4 := Lib.hid (show Below w.heap.size w W3 by rw [hW3]; exact put_below HB3.out hgw)
            clear hna3 hoi3 hol3 hb3 hW3 y0 y1 y2 y3 f0 f1 f2 f3
            have hdl := HRU2.out.dlv
            have HD1 := Lib.hid (implDlv_at hna4 HRU2.out.small hdl)
            obtain ⟨us, hus⟩ : ∃ us, us = ls.drop (dueK ls ((30 + (j : Int)) + 1)) := ⟨_, rfl⟩
            obtain ⟨ts, hts⟩ : ∃ ts, ts = ls.take (dueK ls ((30 + (j : Int)) + 1)) := ⟨_, rfl⟩
            have HCUT := Lib.hid (show ts.length + us.length = ls.length by rw [hus, hts]; exact cut_len _ _)
            have HRU3 := Lib.hid (show Run ((30 + (j : Int)) + 1) L far us (((30 + (j : Int)) + 1) + 1) 1541 by rw [hus]; exact HRU2.out.left)
            rw [← hus, ← hts] at HD1
            have HNA4 := Lib.hid hna4
            have HTL := Lib.hid (show ts.length ≤ 100 by have := HCUT.out; have := HRU2.out.few; omega)
            clear hus hts hdl hna4 HNA HRU HBW HB3
            obtain ⟨y0, y1, y2, y3⟩ := HNA4.out.cells
            go_wp2_with fail
            refine HD1.out.mono ?_
            rintro e w5 ⟨A5, c5, B5, d5, D5, e5, rfl, hoi5, hol5, hot5, hb5⟩
            clear y0 y1 y2 y3 HD1
            have hna5 := HNA4.out.below hb5
            have hb6 := below1 w5 (.cells #[.int .i64 ((30 + (j : Int)) + 1), .slice A5 L.length c5, .int .i64 far, .slice B5 us.length d5] 35)
            have hna6 := hna5.below hb6
            have hnb6 := NetAt.new (t := ((30 + (j : Int)) + 1)) (far := far) hoi5 hol5
            have HB6 := Lib.hid (HBW4.out.trans ((hb5.trans (hb6.mono hb5.size)).mono HBW4.out.size))
            go_upto_region 37 with fail
            obtain ⟨g5, hg5⟩ : ∃ g5, g5 = w5.heap.size := ⟨_, rfl⟩
            obtain ⟨W5, hW5⟩ : ∃ W5, W5 = w5.alloc (.cells #[.int .i64 ((30 + (j : Int)) + 1), .slice A5 L.length c5, .int .i64 far, .slice B5 us.length d5] 35) := ⟨_, rfl⟩
            rw [← hW5]
            rw [← hW5] at hna6 hnb6 HB6
            rw [← hg5] at hnb6 ⊢
            clear hW5 hg5 hna5 hb5 hb6 hoi5 hol5 hot5
            obtain ⟨x0, x1, x2, x3⟩ := hnb6.cells
            obtain ⟨y0, y1, y2, y3⟩ := hna6.cells
            have f0 := hna6.free 0
            have f1 := hna6.free 1
            have f2 := hna6.free 2
            have f3 := hna6.free 3
            have hna7p := hna6.put (t' := ((30 + (j : Int)) + 1)) (far' := far) hnb6.2.1 hnb6.2.2
            have HB7p := put_below (p := .int .i64 ((30 + (j : Int)) + 1)) (q := .slice A5 L.length c5) (r := .int .i64 far) (s := .slice B5 us.length d5) HB6.out hgw
            go_upto_region 38 with fail
            obtain ⟨W7, hW7⟩ : ∃ W7, W7 = ((((W5.setCell ⟨g, 0, none⟩ (.int .i64 ((30 + (j : Int)) + 1))).setCell ⟨g, 1, none⟩ (.slice A5 L.length c5)).setCell ⟨g, 2, none⟩ (.int .i64 far)).setCell ⟨g, 3, none⟩ (.slice B5 us.length d5)) := ⟨_, rfl⟩
            rw [← hW7]
            have hna7 : NetAt W7 g ((30 + (j : Int)) + 1) L far us A5 c5 B5 d5 := by rw [hW7]; exact hna7p
            have HB7 := Lib.hid (show Below w.heap.size w W7 by rw [hW7]; exact HB7p)
            have HNA7 := Lib.hid hna7
            have htl := HTL.out
            clear hna6 hnb6 HNA4 HBW4 hna7p HB7p hW7 x0 x1 x2 x3 y0 y1 y2 y3 f0 f1 f2 f3 hna7 HB6
            have hqb : q ≤ 30 := by have := HQS.out; omega
            have HRF := Lib.hid (show Run (30 + ((j + 1 : Nat) : Int)) L far us (31 + ((j + 1 : Nat) : Int)) 1541 ∧ NetAt W7 g (30 + ((j + 1 : Nat) : Int)) L far us A5 c5 B5 d5 by
              have e1 : (30 : Int) + ((j + 1 : Nat) : Int) = 30 + (j : Int) + 1 := by omega
              have e2 : (31 : Int) + ((j + 1 : Nat) : Int) = 30 + (j : Int) + 1 + 1 := by omega
              rw [e1, e2]
              exact ⟨HRU3.out, HNA7.out⟩)
            go_wp2
            go_roundw
            case rel =>
              have HSUM := Lib.hid (show q + ts.length + us.length = s by have := HQS.out; have := HCUT.out; omega)
              first
              | exact ⟨j + 1, q + ts.length, us, A5, c5, B5, d5, by omega, by go_num, by go_num, HSUM, HRF.out.1, HRF.out.2, HB7.out⟩
              | ((repeat apply Exists.intro); exact ⟨⟨j + 1, q + ts.length, us, A5, c5, B5, d5, by omega, by go_num, by go_num, HSUM, HRF.out.1, HRF.out.2, HB7.out⟩, rfl⟩)
            case measure => simp [intOf]; omega
          · have hls : ls = [] := by
              by_cases hj1 : j < 1700
              · exact List.eq_nil_of_length_eq_zero (by omega)
              · exact HRU.out.lets.none (by omega)
            subst hls
            obtain ⟨y0, y1, y2, y3⟩ := hna.cells
            have hqs := HQS.out
            simp only [List.length_nil, Nat.add_zero] at hqs y3
            subst hqs
            have hb9 := hbw
            clear hna hbw HRU HQS hfin
            by_cases hj1 : j < 1700
            · go_wp2
              go_ret
              exact ⟨by simp, hb9⟩
            · go_wp2
              go_ret
              exact ⟨by simp, hb9⟩
  · have HV := Lib.hid (fun W => vBig_yes A n c W (by omega))
    clear hn h hm
    go_enter Try.func9, Try.ntmps9
    go_wp2_with fail
    refine (HV.out _).mono ?_
    rintro e w1 ⟨rfl, rfl⟩
    go_wp2
    go_ret
    exact ⟨rfl, Below.refl _ _⟩
end Go.Proofs.Ytojplmjoipjabaa.Fs
