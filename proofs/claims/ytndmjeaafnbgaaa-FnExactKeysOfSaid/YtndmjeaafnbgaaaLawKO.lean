/-
  The walk of the law FnExactKeysOf.
-/
import Derived.Test.YtndmjeaafnbgaaaKeysU
import Derived.Test.YtndmjeaafnbgaaaLawGR
namespace Go.Proofs.Ytndmjeaafnbgaaa
open Go.RowKit CM
set_option linter.unusedVariables false

set_option maxRecDepth 100000 in
set_option maxHeartbeats 4000000 in
theorem keysOf_walk (w : World) (k t tm ld : Int) (y : Bool) (Ar : Option Addr) (nr cr : Nat) (rs : List ByteArray) (Aw : Option Addr) (nw cw : Nat) (ws : List (ByteArray × ByteArray × Bool)) (hnr : rs.length = nr) (hr : StrsB w w.heap.size Ar rs) (hmr : SMax rs) (hnw : ws.length = nw) (hw : WritesB w w.heap.size Aw ws) (hmw : WMax ws) :
    Calls Try.prog 10 #[.agg #[.int .i64 k, .int .i64 t, .int .i64 tm, .int .i64 ld, .slice Ar nr cr, .slice Aw nw cw, .bool y]] w fun e w' => e = .returned (.bool true) ∧ Below w.heap.size w w' := by
  obtain ⟨W0, hW0⟩ : ∃ W0, W0 = w.alloc (.cells #[.int .i64 k, .int .i64 t, .int .i64 tm, .int .i64 ld, .slice Ar nr cr, .slice Aw nw cw, .bool y] 64) := ⟨_, rfl⟩
  have hb0 : Below w.heap.size w W0 := by rw [hW0]; exact below1 _ _
  have kn : W0.heap[w.heap.size]? = some (.cells #[.int .i64 k, .int .i64 t, .int .i64 tm, .int .i64 ld, .slice Ar nr cr, .slice Aw nw cw, .bool y] 64) := by rw [hW0]; exact heap_alloc_new _ _
  have HZ := Lib.hid (szRec_any k t tm ld y Ar nr cr rs Aw nw cw ws 1048576 w.heap.size W0 hnr (hr.below hb0) hnw (hw.below hb0) hb0.size hmr hmw (Nat.le_refl _))
  have HW0 := Lib.hid hW0
  have HB0 := Lib.hid hb0
  have KN := Lib.hid kn
  have hlt0 : w.heap.size < W0.heap.size := lt_blk kn
  by_cases hs : szSs rs + szWs ws ≤ 1048576
  · have hsr := ssmall_of (show szSs rs ≤ 1048576 by omega)
    have hsw := wsmall_of (show szWs ws ≤ 1048576 by omega)
    have hl1 : nr ≤ 1048576 := by rw [← hnr]; exact hsr.1
    have hl2 : nw ≤ 1048576 := by rw [← hnw]; exact hsw.1
    have HSR := Lib.hid hsr
    have HSW := Lib.hid hsw
    have HNR := Lib.hid hnr
    have HNW := Lib.hid hnw
    have HT := Lib.hid (fun W (hW : Below W0.heap.size W0 W) => toRec_any k t tm ld y Ar nr cr rs Aw nw cw ws w.heap.size W hnr (hr.below (hb0.trans (hW.mono hb0.size))) hnw (hw.below (hb0.trans (hW.mono hb0.size))) (Nat.le_trans hb0.size hW.size) hl1 hl2)
    obtain ⟨v, hv⟩ : ∃ v, v = recB k t tm ld y rs ws := ⟨_, rfl⟩
    have HV := Lib.hid hv
    rw [remI_yes hs] at HZ
    have hz0 : (0 : Int) ≤ (1048576 : Int) - ((szSs rs + szWs ws : Nat) : Int) := by omega
    have HZ' : Hid (Calls Try.prog 49 #[.agg #[.int .i64 k, .int .i64 t, .int .i64 tm, .int .i64 ld, .slice Ar nr cr, .slice Aw nw cw, .bool y], .int .i64 1048576] W0 fun e w' => e = .returned (.int .i64 ((1048576 : Int) - ((szSs rs + szWs ws : Nat) : Int))) ∧ Below W0.heap.size W0 w') := HZ
    obtain ⟨z, hz⟩ : ∃ z, z = (1048576 : Int) - ((szSs rs + szWs ws : Nat) : Int) := ⟨_, rfl⟩
    rw [← hz] at HZ' hz0
    clear hnr hr hsr hsw hv HZ hs hnw hw hmr hmw hW0 hb0 kn hz
    go_enter Try.func10, Try.ntmps10
    go_wp2_with fail
    rw [← HW0.out]
    refine HZ'.out.mono ?_
    rintro e w1 ⟨rfl, hb1⟩
    have HB1 := Lib.hid hb1
    obtain ⟨a0, a1, a2, a3, a4, a5, a6⟩ := cells7 ((hb1.block w.heap.size hlt0).trans KN.out)
    clear hb1
    go_wp2_with fail
    refine (HT.out _ HB1.out).mono ?_
    rintro e w2 ⟨g1, g2, m, rfl, ho1, ho2, hm1, hm2, hb2⟩
    have HB2 := Lib.hid (HB1.out.trans (hb2.mono HB1.out.size))
    have HC2 := Lib.hid (specKeysOf_any k t tm ld y _ _ nr nw nr nw rs ws _ w2 HNR.out HNW.out (ho1.strs.mono hm2) ho2.writes (Nat.le_refl _) HSR.out HSW.out)
    rw [← HV.out] at HC2
    clear ho1 ho2 hm1 hm2 hb2 a0 a1 a2 a3 a4 a5 a6
    go_wp2_with fail
    refine HC2.out.mono ?_
    intro e w3 hpost3
    obtain ⟨A0, c0, R0, rfl, hR0, hres0, hb3⟩ := specU hpost3
    have HB3 := Lib.hid (HB2.out.trans (hb3.mono HB2.out.size))
    have HR0 := Lib.hid hR0
    have HRES := Lib.hid hres0
    obtain ⟨a0, a1, a2, a3, a4, a5, a6⟩ := cells7 ((HB3.out.block w.heap.size hlt0).trans KN.out)
    clear hb3 hpost3 hR0 hres0
    go_wp2_with fail
    refine (HT.out _ HB3.out).mono ?_
    rintro e w4 ⟨g3, g4, m4, rfl, ho3, ho4, hm3, hm4, hb4⟩
    have HB4 := Lib.hid (HB3.out.trans (hb4.mono HB3.out.size))
    have HB34 := Lib.hid hb4
    obtain ⟨W4, hW4⟩ : ∃ W4, W4 = w4.alloc (.cells #[.int .i64 k, .int .i64 t, .int .i64 tm, .int .i64 ld, .slice (some ⟨g3, 0, none⟩) nr nr, .slice (some ⟨g4, 0, none⟩) nw nw, .bool y] 68) := ⟨_, rfl⟩
    have hb44 : Below w4.heap.size w4 W4 := by rw [hW4]; exact below1 _ _
    have kx : W4.heap[w4.heap.size]? = some (.cells #[.int .i64 k, .int .i64 t, .int .i64 tm, .int .i64 ld, .slice (some ⟨g3, 0, none⟩) nr nr, .slice (some ⟨g4, 0, none⟩) nw nw, .bool y] 68) := by rw [hW4]; exact heap_alloc_new _ _
    have HS3 := Lib.hid ((ho3.strs.mono hm4).below hb44)
    have HS4 := Lib.hid (ho4.writes.below hb44)
    have HO3 := Lib.hid (ho3.below (hb44.mono hm4))
    have HO4 := Lib.hid (ho4.below hb44)
    have HBB := Lib.hid (HB4.out.trans (hb44.mono HB4.out.size))
    have HC4 := Lib.hid (implKeysOf_any k t tm ld y _ _ nr nw nr nw rs ws _ W4 HNR.out HNW.out HS3.out HS4.out hb44.size HSR.out HSW.out)
    rw [← HV.out] at HC4
    have HW4 := Lib.hid hW4
    have KX := Lib.hid kx
    have hltx : w4.heap.size < W4.heap.size := lt_blk kx
    have hlex := hb44.size
    have h34 := hb4.size
    clear ho3 ho4 hb4 hb44 kx hW4 a0 a1 a2 a3 a4 a5 a6
    go_wp2_with fail
    rw [← HW4.out]
    refine HC4.out.mono ?_
    intro e w5 hpost5
    obtain ⟨A1, c1, R1, rfl, hR1, hres1, hlen1, hb5⟩ := implU hpost5
    obtain rfl : R1 = R0 := KRes.unique hres1 HRES.out
    have HB5 := Lib.hid (HBB.out.trans (hb5.mono HBB.out.size))
    have HX5 := Lib.hid (HS3.out.below (hb5.mono hlex))
    have HY5 := Lib.hid (HS4.out.below (hb5.mono hlex))
    have HO35 := Lib.hid (HO3.out.below (hb5.mono (Nat.le_trans hm4 hlex)))
    have HO45 := Lib.hid (HO4.out.below (hb5.mono hlex))
    have HG5 := Lib.hid hR1
    have h45 : W4.heap.size ≤ w5.heap.size := hb5.size
    have HR5 := Lib.hid ((HR0.out.below HB34.out).below ((show Below w3.heap.size w4 W4 by rw [HW4.out]; exact (below1 _ _).mono h34).trans (hb5.mono (Nat.le_trans h34 hlex))))
    have KX5 := Lib.hid ((hb5.block w4.heap.size hltx).trans KX.out)
    have HE5 := Lib.hid (eqStringS_same A1 A0 R1.length c1 c0 R1 w5.heap.size w5 rfl (OwnS.strs hR1) (HR5.out.mono (by omega)) (Nat.le_refl _) (by omega))
    clear hb5 hpost5 hR1 hres1
    go_wp2_with fail
    refine HE5.out.mono ?_
    rintro e w6 ⟨rfl, hb6⟩
    have HB6 := Lib.hid (HB5.out.trans (hb6.mono HB5.out.size))
    have h56 := hb6.size
    have HX6 := Lib.hid (HX5.out.below (hb6.mono (Nat.le_trans hlex h45)))
    have HY6 := Lib.hid (HY5.out.below (hb6.mono (Nat.le_trans hlex h45)))
    have HO36 := Lib.hid (HO35.out.below (hb6.mono (Nat.le_trans hm4 (Nat.le_trans hlex h45))))
    have HO46 := Lib.hid (HO45.out.below (hb6.mono (Nat.le_trans hlex h45)))
    have HG6 := Lib.hid (HG5.out.below hb6)
    have HR6 := Lib.hid (HR5.out.below (hb6.mono (by omega)))
    have KX6 := Lib.hid ((hb6.block w4.heap.size (Nat.lt_of_lt_of_le hltx h45)).trans KX5.out)
    have hlx6 : w4.heap.size < w6.heap.size := lt_blk KX6.out
    have hla6 : w.heap.size < w6.heap.size := Nat.lt_of_lt_of_le hlt0 HB6.out.size
    obtain ⟨a0, a1, a2, a3, a4, a5, a6⟩ := cells7 ((HB6.out.block w.heap.size hlt0).trans KN.out)
    obtain ⟨x0, x1, x2, x3, x4, x5, x6⟩ := cells7 KX6.out
    clear hb6
    go_wp2_with fail
    go_region_held3 (fun w' => w'.cell? ⟨w4.heap.size, 0, none⟩ = some (.int .i64 k) ∧ w'.cell? ⟨w4.heap.size, 1, none⟩ = some (.int .i64 t) ∧ w'.cell? ⟨w4.heap.size, 2, none⟩ = some (.int .i64 tm) ∧ w'.cell? ⟨w4.heap.size, 3, none⟩ = some (.int .i64 ld) ∧ w'.cell? ⟨w4.heap.size, 4, none⟩ = some (.slice (some ⟨g3, 0, none⟩) nr nr) ∧ w'.cell? ⟨w4.heap.size, 5, none⟩ = some (.slice (some ⟨g4, 0, none⟩) nw nw) ∧ w'.cell? ⟨w4.heap.size, 6, none⟩ = some (.bool y) ∧ w'.cell? ⟨w.heap.size, 0, none⟩ = some (.int .i64 k) ∧ w'.cell? ⟨w.heap.size, 1, none⟩ = some (.int .i64 t) ∧ w'.cell? ⟨w.heap.size, 2, none⟩ = some (.int .i64 tm) ∧ w'.cell? ⟨w.heap.size, 3, none⟩ = some (.int .i64 ld) ∧ w'.cell? ⟨w.heap.size, 4, none⟩ = some (.slice Ar nr cr) ∧ w'.cell? ⟨w.heap.size, 5, none⟩ = some (.slice Aw nw cw) ∧ w'.cell? ⟨w.heap.size, 6, none⟩ = some (.bool y))
      (first | exact ⟨x0, x1, x2, x3, x4, x5, x6, a0, a1, a2, a3, a4, a5, a6⟩ | exact held1 | exact held2 | skip)
      (first
        | ((go_at_call 51; (with_reducible refine (HT.out _ HB6.out.drew).mono ?_); rintro e w7 ⟨u1, u2, um, rfl, hu1, hu2, hmu1, hmu2, hbu⟩; have held1 := (show _ ∧ _ ∧ _ ∧ _ ∧ _ ∧ _ ∧ _ ∧ _ ∧ _ ∧ _ ∧ _ ∧ _ ∧ _ ∧ _ from ⟨kept2 hbu x0 hlx6, kept2 hbu x1 hlx6, kept2 hbu x2 hlx6, kept2 hbu x3 hlx6, kept2 hbu x4 hlx6, kept2 hbu x5 hlx6, kept2 hbu x6 hlx6, kept2 hbu a0 hla6, kept2 hbu a1 hla6, kept2 hbu a2 hla6, kept2 hbu a3 hla6, kept2 hbu a4 hla6, kept2 hbu a5 hla6, kept2 hbu a6 hla6⟩); have hv1 : w4.heap.size < w7.heap.size := Nat.lt_of_lt_of_le hlx6 hbu.size; have hv2 : w.heap.size < w7.heap.size := Nat.lt_of_lt_of_le hla6 hbu.size))
        | ((go_at_call 53; (with_reducible refine (eqRec_same k t tm ld y nr nw rs ws _ _ _ _ _ _ _ _ _ w7 HNR.out ((HX6.out.below ((below_undrew hbu).mono (Nat.le_of_lt hlx6))).mono (Nat.le_of_lt hv1)) (hu1.strs.mono hmu2) HNW.out ((HY6.out.below ((below_undrew hbu).mono (Nat.le_of_lt hlx6))).mono (Nat.le_of_lt hv1)) hu2.writes (Nat.le_refl _) hl1 hl2).mono ?_); rintro e w8 ⟨rfl, hbv⟩; have held2 := (show _ ∧ _ ∧ _ ∧ _ ∧ _ ∧ _ ∧ _ ∧ _ ∧ _ ∧ _ ∧ _ ∧ _ ∧ _ ∧ _ from ⟨kept2 hbv held1.1 hv1, kept2 hbv held1.2.1 hv1, kept2 hbv held1.2.2.1 hv1, kept2 hbv held1.2.2.2.1 hv1, kept2 hbv held1.2.2.2.2.1 hv1, kept2 hbv held1.2.2.2.2.2.1 hv1, kept2 hbv held1.2.2.2.2.2.2.1 hv1, kept2 hbv held1.2.2.2.2.2.2.2.1 hv2, kept2 hbv held1.2.2.2.2.2.2.2.2.1 hv2, kept2 hbv held1.2.2.2.2.2.2.2.2.2.1 hv2, kept2 hbv held1.2.2.2.2.2.2.2.2.2.2.1 hv2, kept2 hbv held1.2.2.2.2.2.2.2.2.2.2.2.1 hv2, kept2 hbv held1.2.2.2.2.2.2.2.2.2.2.2.2.1 hv2, kept2 hbv held1.2.2.2.2.2.2.2.2.2.2.2.2.2 hv2⟩))))
    have hbf : Below w6.heap.size w6 w8 := (below_undrew hbu).trans (hbv.mono (below_undrew hbu).size)
    have HB8 := Lib.hid (HB6.out.trans (hbf.mono HB6.out.size))
    have h68 := hbf.size
    have HO38 := HO36.out.below (hbf.mono (Nat.le_trans hm4 (Nat.le_of_lt hlx6)))
    have HO48 := HO46.out.below (hbf.mono (Nat.le_of_lt hlx6))
    have HG8 := Lib.hid (HG6.out.below (hbf.mono h56))
    have HR8 := Lib.hid (HR6.out.below (hbf.mono (by omega)))
    have KX8 := (hbf.block _ hlx6).trans KX6.out
    have HM := Lib.hid (markRec_any k t tm ld y 1 nr nw rs ws (some ⟨g3, 0, none⟩) (some ⟨g4, 0, none⟩) nr nw w3.heap.size m4 w4.heap.size w8 HNR.out HO38 HNW.out HO48 hm3 hm4 (by omega) (by omega) (by omega) (by omega))
    clear hbf hbu hbv held1 held2 hu1 hu2 hmu1 hmu2 a0 a1 a2 a3 a4 a5 a6 x0 x1 x2 x3 x4 x5 x6 HO38 HO48
    obtain ⟨x0, x1, x2, x3, x4, x5, x6⟩ := cells7 KX8
    clear KX8
    go_wp2_with fail
    refine HM.out.mono ?_
    rintro e w9 ⟨rfl, _, _, hbm, hmid⟩
    have HB9 := Lib.hid (HB8.out.trans (hbm.mono (by have := HB3.out.size; omega)))
    have h89 := hbm.size
    have HG9 := Lib.hid (Own.mid HG8.out hmid (.inl hlex))
    have HR9 := Lib.hid (HR8.out.below hbm)
    have HE9 := Lib.hid (eqStringS_same A1 A0 R1.length c1 c0 R1 w9.heap.size w9 rfl ((OwnS.strs HG9.out).mono (by omega)) (HR9.out.mono (by omega)) (Nat.le_refl _) (by omega))
    have hmn : (0 : Int) ≤ ((1 + nr + 3 * nw : Nat) : Int) := by omega
    clear hbm hmid x0 x1 x2 x3 x4 x5 x6
    go_wp2_with fail
    refine HE9.out.mono ?_
    rintro e w10 ⟨rfl, hb10⟩
    have HB10 := Lib.hid (HB9.out.trans (hb10.mono HB9.out.size))
    have h910 := hb10.size
    have HG10 := HG9.out.below (hb10.mono (by omega))
    have HR10 := Lib.hid (HR9.out.below (hb10.mono (by omega)))
    have HMS := Lib.hid (markStringS_any A1 R1.length c1 1 W4.heap.size w5.heap.size R1 w10 rfl HG10 (by omega) (by omega))
    have hA1 : ∀ x, A1 = some x → W4.heap.size ≤ x.block ∧ x.block < w5.heap.size := fun x hx => by have := Own.block HG10 x hx; exact ⟨this.1, this.2.1⟩
    have HA1 := Lib.hid hA1
    clear hb10 HG10 hA1
    go_wp2_with fail
    refine HMS.out.mono ?_
    rintro e w11 ⟨rfl, hg11, hma⟩
    have hbma : Below W4.heap.size w10 w11 := hma.below' (fun x hx => (HA1.out x hx).1) (by have := HB10.out.size; omega)
    have HB11 := Lib.hid (HB10.out.trans (hbma.mono (by have := HBB.out.size; omega)))
    have h1011 := hbma.size
    have HR11 := Lib.hid (HR10.out.below (hbma.mono (by omega)))
    have HG11 := Lib.hid hg11.strs
    have HH := Lib.hid (heldStringS_any A1 R1.length c1 1 w5.heap.size w11 hg11.strs (by omega) (by omega) (by omega))
    clear hg11 hma hbma
    go_wp2_with fail
    refine HH.out.mono ?_
    rintro e w12 ⟨rfl, hb12⟩
    have HB12 := Lib.hid (HB11.out.trans (hb12.mono HB11.out.size))
    have h1112 := hb12.size
    have HR12 := Lib.hid (HR11.out.below (hb12.mono (by omega)))
    have HG12 := Lib.hid (HG11.out.below (hb12.mono (by omega)))
    have hn1 : (0 : Int) ≤ ((1 + R1.length : Nat) : Int) := by omega
    obtain ⟨a0, a1, a2, a3, a4, a5, a6⟩ := cells7 ((HB12.out.block w.heap.size hlt0).trans KN.out)
    clear hb12
    go_wp2_with fail
    refine (HT.out _ HB12.out).mono ?_
    rintro e w13 ⟨g5, g6, m6, rfl, ho5, ho6, hm5, hm6, hb13⟩
    have HB13 := Lib.hid (HB12.out.trans (hb13.mono HB12.out.size))
    have h1213 := hb13.size
    have HR13 := Lib.hid (HR12.out.below (hb13.mono (by omega)))
    have HG13 := Lib.hid (HG12.out.below (hb13.mono (by omega)))
    have HC13 := Lib.hid (implKeysOf_any k t tm ld y _ _ nr nw nr nw rs ws _ w13 HNR.out HNW.out (ho5.strs.mono hm6) ho6.writes (Nat.le_refl _) HSR.out HSW.out)
    rw [← HV.out] at HC13
    clear ho5 ho6 hm5 hm6 hb13 a0 a1 a2 a3 a4 a5 a6
    go_wp2_with fail
    refine HC13.out.mono ?_
    intro e w14 hpost14
    obtain ⟨A2, c2, R2, rfl, hR2, hres2, hlen2, hb14⟩ := implU hpost14
    obtain rfl : R2 = R1 := KRes.unique hres2 HRES.out
    have HB14 := Lib.hid (HB13.out.trans (hb14.mono HB13.out.size))
    have h1314 := hb14.size
    have HR14 := Lib.hid (HR13.out.below (hb14.mono (by omega)))
    have HG14 := Lib.hid (HG13.out.below (hb14.mono (by omega)))
    have HE14 := Lib.hid (eqStringS_same A2 A0 R2.length c2 c0 R2 w14.heap.size w14 rfl (OwnS.strs hR2) (HR14.out.mono (by omega)) (Nat.le_refl _) (by omega))
    clear hb14 hpost14 hR2 hres2
    go_wp2_with fail
    refine HE14.out.mono ?_
    rintro e w15 ⟨rfl, hb15⟩
    have HB15 := Lib.hid (HB14.out.trans (hb15.mono HB14.out.size))
    have h1415 := hb15.size
    have HG15 := HG14.out.below (hb15.mono (by omega))
    have HH15 := Lib.hid (heldStringS_any A1 R2.length c1 1 w5.heap.size w15 HG15 (by omega) (by omega) (by omega))
    clear hb15 HG15
    go_wp2_with fail
    refine HH15.out.mono ?_
    rintro e w16 ⟨rfl, hb16⟩
    have HF := Lib.hid (HB0.out.trans ((HB15.out.trans (hb16.mono HB15.out.size)).mono HB0.out.size))
    clear hb16
    go_wp2
    go_ret
    exact ⟨rfl, HF.out⟩
  · rw [remI_no (by omega)] at HZ
    have HZ' : Hid (Calls Try.prog 49 #[.agg #[.int .i64 k, .int .i64 t, .int .i64 tm, .int .i64 ld, .slice Ar nr cr, .slice Aw nw cw, .bool y], .int .i64 1048576] W0 fun e w' => e = .returned (.int .i64 (-1)) ∧ Below W0.heap.size W0 w') := HZ
    clear hnr hr HZ hs hnw hw hmr hmw hW0 hb0 kn
    go_enter Try.func10, Try.ntmps10
    go_wp2_with fail
    rw [← HW0.out]
    refine HZ'.out.mono ?_
    rintro e w1 ⟨rfl, hb1⟩
    have HF := Lib.hid (HB0.out.trans (hb1.mono HB0.out.size))
    clear hb1
    go_wp2
    go_ret
    exact ⟨rfl, HF.out⟩
end Go.Proofs.Ytndmjeaafnbgaaa
