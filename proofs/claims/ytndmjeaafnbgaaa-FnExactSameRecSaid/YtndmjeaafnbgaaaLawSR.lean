/-
  The walk of the law FnExactSameRec.
-/
import Derived.Test.YtndmjeaafnbgaaaLawGR
namespace Go.Proofs.Ytndmjeaafnbgaaa
open Go.RowKit CM
set_option linter.unusedVariables false

set_option maxRecDepth 100000 in
set_option maxHeartbeats 4000000 in
theorem sameRec_walk (w : World) (k t tm ld : Int) (y : Bool) (Ar : Option Addr) (nr cr : Nat) (rs : List ByteArray) (Aw : Option Addr) (nw cw : Nat) (ws : List (ByteArray × ByteArray × Bool)) (hnr : rs.length = nr) (hr : StrsB w w.heap.size Ar rs) (hmr : SMax rs) (hnw : ws.length = nw) (hw : WritesB w w.heap.size Aw ws) (hmw : WMax ws)
    (k' t' tm' ld' : Int) (y' : Bool) (Ar' : Option Addr) (nr' cr' : Nat) (rs' : List ByteArray) (Aw' : Option Addr) (nw' cw' : Nat) (ws' : List (ByteArray × ByteArray × Bool)) (hnr' : rs'.length = nr') (hr' : StrsB w w.heap.size Ar' rs') (hmr' : SMax rs') (hnw' : ws'.length = nw') (hw' : WritesB w w.heap.size Aw' ws') (hmw' : WMax ws') :
    Calls Try.prog 7 #[.agg #[.int .i64 k, .int .i64 t, .int .i64 tm, .int .i64 ld, .slice Ar nr cr, .slice Aw nw cw, .bool y], .agg #[.int .i64 k', .int .i64 t', .int .i64 tm', .int .i64 ld', .slice Ar' nr' cr', .slice Aw' nw' cw', .bool y']] w fun e w' => e = .returned (.bool true) ∧ Below w.heap.size w w' := by
  obtain ⟨W0, hW0⟩ : ∃ W0, W0 = (w.alloc (.cells #[.int .i64 k, .int .i64 t, .int .i64 tm, .int .i64 ld, .slice Ar nr cr, .slice Aw nw cw, .bool y] 64)).alloc (.cells #[.int .i64 k', .int .i64 t', .int .i64 tm', .int .i64 ld', .slice Ar' nr' cr', .slice Aw' nw' cw', .bool y'] 64) := ⟨_, rfl⟩
  have hb0 : Below w.heap.size w W0 := by rw [hW0]; exact below2 _ _ _
  have kn : W0.heap[w.heap.size]? = some (.cells #[.int .i64 k, .int .i64 t, .int .i64 tm, .int .i64 ld, .slice Ar nr cr, .slice Aw nw cw, .bool y] 64) := by rw [hW0]; exact alloc2_a _ _ _
  have kn' : W0.heap[w.heap.size + 1]? = some (.cells #[.int .i64 k', .int .i64 t', .int .i64 tm', .int .i64 ld', .slice Ar' nr' cr', .slice Aw' nw' cw', .bool y'] 64) := by rw [hW0]; exact alloc2_b _ _ _
  have HZ := Lib.hid (szRec_any k t tm ld y Ar nr cr rs Aw nw cw ws 1048576 w.heap.size W0 hnr (hr.below hb0) hnw (hw.below hb0) hb0.size hmr hmw (Nat.le_refl _))
  have HW0 := Lib.hid hW0
  have HB0 := Lib.hid hb0
  have KN := Lib.hid kn
  have KN' := Lib.hid kn'
  have hlt0 : w.heap.size < W0.heap.size := lt_blk kn
  have hlt0' : w.heap.size + 1 < W0.heap.size := lt_blk kn'
  obtain ⟨q, hq⟩ : ∃ q, q = 1048576 - (szSs rs + szWs ws) := ⟨_, rfl⟩
  by_cases hs : szSs rs + szWs ws ≤ 1048576
  · rw [remI_yes hs, show ((1048576 : Nat) : Int) - ((szSs rs + szWs ws : Nat) : Int) = (q : Int) by omega] at HZ
    have HZ' : Hid (Calls Try.prog 49 #[.agg #[.int .i64 k, .int .i64 t, .int .i64 tm, .int .i64 ld, .slice Ar nr cr, .slice Aw nw cw, .bool y], .int .i64 1048576] W0 fun e w' => e = .returned (.int .i64 (q : Int)) ∧ Below W0.heap.size W0 w') := HZ
    have hq0 : (0 : Int) ≤ (q : Int) := by omega
    have HY := Lib.hid (fun W (hW : Below W0.heap.size W0 W) => szRec_any k' t' tm' ld' y' Ar' nr' cr' rs' Aw' nw' cw' ws' q w.heap.size W hnr' (hr'.below (hb0.trans (hW.mono hb0.size))) hnw' (hw'.below (hb0.trans (hW.mono hb0.size))) (Nat.le_trans hb0.size hW.size) hmr' hmw' (by omega))
    clear HZ
    by_cases hs' : szSs rs' + szWs ws' ≤ q
    · have hsr := ssmall_of (show szSs rs ≤ 1048576 by omega)
      have hsw := wsmall_of (show szWs ws ≤ 1048576 by omega)
      have hsr' := ssmall_of (show szSs rs' ≤ 1048576 by omega)
      have hsw' := wsmall_of (show szWs ws' ≤ 1048576 by omega)
      have hl1 : nr ≤ 1048576 := by rw [← hnr]; exact hsr.1
      have hl2 : nw ≤ 1048576 := by rw [← hnw]; exact hsw.1
      have hl1' : nr' ≤ 1048576 := by rw [← hnr']; exact hsr'.1
      have hl2' : nw' ≤ 1048576 := by rw [← hnw']; exact hsw'.1
      have HNR := Lib.hid hnr
      have HNW := Lib.hid hnw
      have HNR' := Lib.hid hnr'
      have HNW' := Lib.hid hnw'
      have HT := Lib.hid (fun W (hW : Below W0.heap.size W0 W) => toRec_any k t tm ld y Ar nr cr rs Aw nw cw ws w.heap.size W hnr (hr.below (hb0.trans (hW.mono hb0.size))) hnw (hw.below (hb0.trans (hW.mono hb0.size))) (Nat.le_trans hb0.size hW.size) hl1 hl2)
      have HT' := Lib.hid (fun W (hW : Below W0.heap.size W0 W) => toRec_any k' t' tm' ld' y' Ar' nr' cr' rs' Aw' nw' cw' ws' w.heap.size W hnr' (hr'.below (hb0.trans (hW.mono hb0.size))) hnw' (hw'.below (hb0.trans (hW.mono hb0.size))) (Nat.le_trans hb0.size hW.size) hl1' hl2')
      obtain ⟨v, hv⟩ : ∃ v, v = sameB k k' t t' tm tm' ld ld' y y' rs rs' ws ws' := ⟨_, rfl⟩
      have HV := Lib.hid hv
      obtain ⟨z, hz⟩ : ∃ z, z = remI (szSs rs' + szWs ws') q := ⟨_, rfl⟩
      have hz0 : (0 : Int) ≤ z := by rw [hz, remI_yes hs']; omega
      rw [← hz] at HY
      clear hnr hr hsr hsw hv hs hnw hw hmr hmw hW0 hb0 kn hz hnr' hr' hsr' hsw' hs' hnw' hw' hmr' hmw' kn' hq
      go_enter Try.func7, Try.ntmps7
      go_wp2_with fail
      rw [← HW0.out]
      refine HZ'.out.mono ?_
      rintro e w1 ⟨rfl, hb1⟩
      have HB1 := Lib.hid hb1
      obtain ⟨d0, d1, d2, d3, d4, d5, d6⟩ := cells7 ((hb1.block (w.heap.size + 1) hlt0').trans KN'.out)
      clear hb1
      go_wp2_with fail
      refine (HY.out _ HB1.out).mono ?_
      rintro e w2 ⟨rfl, hb2⟩
      have HB2 := Lib.hid (HB1.out.trans (hb2.mono HB1.out.size))
      clear hb2 d0 d1 d2 d3 d4 d5 d6
      obtain ⟨a0, a1, a2, a3, a4, a5, a6⟩ := cells7 ((HB2.out.block w.heap.size hlt0).trans KN.out)
      obtain ⟨d0, d1, d2, d3, d4, d5, d6⟩ := cells7 ((HB2.out.block (w.heap.size + 1) hlt0').trans KN'.out)
      have hla2 : w.heap.size < w2.heap.size := Nat.lt_of_lt_of_le hlt0 HB2.out.size
      have hld2 : w.heap.size + 1 < w2.heap.size := Nat.lt_of_lt_of_le hlt0' HB2.out.size
      go_wp2_with fail
      go_region_held3 (fun w' => w'.cell? ⟨w.heap.size, 0, none⟩ = some (.int .i64 k) ∧ w'.cell? ⟨w.heap.size, 1, none⟩ = some (.int .i64 t) ∧ w'.cell? ⟨w.heap.size, 2, none⟩ = some (.int .i64 tm) ∧ w'.cell? ⟨w.heap.size, 3, none⟩ = some (.int .i64 ld) ∧ w'.cell? ⟨w.heap.size, 4, none⟩ = some (.slice Ar nr cr) ∧ w'.cell? ⟨w.heap.size, 5, none⟩ = some (.slice Aw nw cw) ∧ w'.cell? ⟨w.heap.size, 6, none⟩ = some (.bool y) ∧ w'.cell? ⟨w.heap.size + 1, 0, none⟩ = some (.int .i64 k') ∧ w'.cell? ⟨w.heap.size + 1, 1, none⟩ = some (.int .i64 t') ∧ w'.cell? ⟨w.heap.size + 1, 2, none⟩ = some (.int .i64 tm') ∧ w'.cell? ⟨w.heap.size + 1, 3, none⟩ = some (.int .i64 ld') ∧ w'.cell? ⟨w.heap.size + 1, 4, none⟩ = some (.slice Ar' nr' cr') ∧ w'.cell? ⟨w.heap.size + 1, 5, none⟩ = some (.slice Aw' nw' cw') ∧ w'.cell? ⟨w.heap.size + 1, 6, none⟩ = some (.bool y'))
        (first | exact ⟨a0, a1, a2, a3, a4, a5, a6, d0, d1, d2, d3, d4, d5, d6⟩ | exact held3 | exact held4 | exact held5 | skip)
        (first
          | ((go_at_call 51; (with_reducible refine (HT.out _ HB2.out.drew).mono ?_); rintro e w3 ⟨g1, g2, m1, rfl, ho1, ho2, hm1, hm2, hb3⟩; have held3 := (show _ ∧ _ ∧ _ ∧ _ ∧ _ ∧ _ ∧ _ ∧ _ ∧ _ ∧ _ ∧ _ ∧ _ ∧ _ ∧ _ from ⟨kept2 hb3 a0 hla2, kept2 hb3 a1 hla2, kept2 hb3 a2 hla2, kept2 hb3 a3 hla2, kept2 hb3 a4 hla2, kept2 hb3 a5 hla2, kept2 hb3 a6 hla2, kept2 hb3 d0 hld2, kept2 hb3 d1 hld2, kept2 hb3 d2 hld2, kept2 hb3 d3 hld2, kept2 hb3 d4 hld2, kept2 hb3 d5 hld2, kept2 hb3 d6 hld2⟩); have hla3 : w.heap.size < w3.heap.size := Nat.lt_of_lt_of_le hla2 hb3.size; have hld3 : w.heap.size + 1 < w3.heap.size := Nat.lt_of_lt_of_le hld2 hb3.size; have HB3 := Lib.hid (HB2.out.trans ((below_undrew hb3).mono HB2.out.size))))
          | ((go_at_call 51; (with_reducible refine (HT'.out _ HB3.out).mono ?_); rintro e w4 ⟨g3, g4, m2, rfl, ho3, ho4, hm3, hm4, hb4⟩; have held4 := (show _ ∧ _ ∧ _ ∧ _ ∧ _ ∧ _ ∧ _ ∧ _ ∧ _ ∧ _ ∧ _ ∧ _ ∧ _ ∧ _ from ⟨kept2 hb4 held3.1 hla3, kept2 hb4 held3.2.1 hla3, kept2 hb4 held3.2.2.1 hla3, kept2 hb4 held3.2.2.2.1 hla3, kept2 hb4 held3.2.2.2.2.1 hla3, kept2 hb4 held3.2.2.2.2.2.1 hla3, kept2 hb4 held3.2.2.2.2.2.2.1 hla3, kept2 hb4 held3.2.2.2.2.2.2.2.1 hld3, kept2 hb4 held3.2.2.2.2.2.2.2.2.1 hld3, kept2 hb4 held3.2.2.2.2.2.2.2.2.2.1 hld3, kept2 hb4 held3.2.2.2.2.2.2.2.2.2.2.1 hld3, kept2 hb4 held3.2.2.2.2.2.2.2.2.2.2.2.1 hld3, kept2 hb4 held3.2.2.2.2.2.2.2.2.2.2.2.2.1 hld3, kept2 hb4 held3.2.2.2.2.2.2.2.2.2.2.2.2.2 hld3⟩); have hla4 : w.heap.size < w4.heap.size := Nat.lt_of_lt_of_le hla3 hb4.size; have hld4 : w.heap.size + 1 < w4.heap.size := Nat.lt_of_lt_of_le hld3 hb4.size; have HB4 := Lib.hid (HB3.out.trans (hb4.mono HB3.out.size))))
          | ((go_at_call 54; (with_reducible refine (specSameRec_any k k' t t' tm tm' ld ld' y y' _ _ _ _ nr nr' nw nw' nr nr' nw nw' rs rs' ws ws' _ w4 HNR.out HNR'.out HNW.out HNW'.out (((ho1.strs.mono hm2).below hb4).mono hb4.size) (ho3.strs.mono hm4) ((ho2.writes.below hb4).mono hb4.size) ho4.writes (Nat.le_refl _) hl1 hl1' hl2 hl2').mono ?_); rintro e w5 ⟨rfl, hb5⟩; have held5 := (show _ ∧ _ ∧ _ ∧ _ ∧ _ ∧ _ ∧ _ ∧ _ ∧ _ ∧ _ ∧ _ ∧ _ ∧ _ ∧ _ from ⟨kept2 hb5 held4.1 hla4, kept2 hb5 held4.2.1 hla4, kept2 hb5 held4.2.2.1 hla4, kept2 hb5 held4.2.2.2.1 hla4, kept2 hb5 held4.2.2.2.2.1 hla4, kept2 hb5 held4.2.2.2.2.2.1 hla4, kept2 hb5 held4.2.2.2.2.2.2.1 hla4, kept2 hb5 held4.2.2.2.2.2.2.2.1 hld4, kept2 hb5 held4.2.2.2.2.2.2.2.2.1 hld4, kept2 hb5 held4.2.2.2.2.2.2.2.2.2.1 hld4, kept2 hb5 held4.2.2.2.2.2.2.2.2.2.2.1 hld4, kept2 hb5 held4.2.2.2.2.2.2.2.2.2.2.2.1 hld4, kept2 hb5 held4.2.2.2.2.2.2.2.2.2.2.2.2.1 hld4, kept2 hb5 held4.2.2.2.2.2.2.2.2.2.2.2.2.2 hld4⟩))))
      have HB5 := Lib.hid (HB4.out.trans (hb5.mono HB4.out.size))
      rw [← HV.out]
      clear ho1 ho2 ho3 ho4 hm1 hm2 hm3 hm4 hb3 hb4 hb5 held3 held4 held5 HB3 HB4 a0 a1 a2 a3 a4 a5 a6 d0 d1 d2 d3 d4 d5 d6
      obtain ⟨a0, a1, a2, a3, a4, a5, a6⟩ := cells7 ((HB5.out.block w.heap.size hlt0).trans KN.out)
      go_wp2_with fail
      refine (HT.out _ HB5.out).mono ?_
      rintro e w6 ⟨g5, g6, m6, rfl, ho5, ho6, hm5, hm6, hb6⟩
      have HB6 := Lib.hid (HB5.out.trans (hb6.mono HB5.out.size))
      obtain ⟨W6, hW6⟩ : ∃ W6, W6 = w6.alloc (.cells #[.int .i64 k, .int .i64 t, .int .i64 tm, .int .i64 ld, .slice (some ⟨g5, 0, none⟩) nr nr, .slice (some ⟨g6, 0, none⟩) nw nw, .bool y] 68) := ⟨_, rfl⟩
      have hb66 : Below w6.heap.size w6 W6 := by rw [hW6]; exact below1 _ _
      have kx : W6.heap[w6.heap.size]? = some (.cells #[.int .i64 k, .int .i64 t, .int .i64 tm, .int .i64 ld, .slice (some ⟨g5, 0, none⟩) nr nr, .slice (some ⟨g6, 0, none⟩) nw nw, .bool y] 68) := by rw [hW6]; exact heap_alloc_new _ _
      have HS5 := Lib.hid ((ho5.strs.mono hm6).below hb66)
      have HS6 := Lib.hid (ho6.writes.below hb66)
      have HBB := Lib.hid (HB6.out.trans (hb66.mono HB6.out.size))
      have HW6 := Lib.hid hW6
      have KX := Lib.hid kx
      have hltx : w6.heap.size < W6.heap.size := lt_blk kx
      have hlex := hb66.size
      clear ho5 ho6 hm5 hm6 hb6 hb66 kx hW6 a0 a1 a2 a3 a4 a5 a6
      obtain ⟨d0, d1, d2, d3, d4, d5, d6⟩ := cells7 ((HB6.out.block (w.heap.size + 1) hlt0').trans KN'.out)
      have hld6 : w.heap.size + 1 < w6.heap.size := Nat.lt_of_lt_of_le hlt0' HB6.out.size
      go_wp2_with fail
      rw [← HW6.out]
      refine (HT'.out _ HBB.out).mono ?_
      rintro e w7 ⟨g7, g8, m7, rfl, ho7, ho8, hm7, hm8, hb7⟩
      have HB7 := Lib.hid (HBB.out.trans (hb7.mono HBB.out.size))
      have hb67 : Below w6.heap.size W6 w7 := hb7.mono hlex
      obtain ⟨W7, hW7⟩ : ∃ W7, W7 = w7.alloc (.cells #[.int .i64 k', .int .i64 t', .int .i64 tm', .int .i64 ld', .slice (some ⟨g7, 0, none⟩) nr' nr', .slice (some ⟨g8, 0, none⟩) nw' nw', .bool y'] 68) := ⟨_, rfl⟩
      have hb77 : Below w7.heap.size w7 W7 := by rw [hW7]; exact below1 _ _
      have ky : W7.heap[w7.heap.size]? = some (.cells #[.int .i64 k', .int .i64 t', .int .i64 tm', .int .i64 ld', .slice (some ⟨g7, 0, none⟩) nr' nr', .slice (some ⟨g8, 0, none⟩) nw' nw', .bool y'] 68) := by rw [hW7]; exact heap_alloc_new _ _
      have h7le : w6.heap.size ≤ w7.heap.size := Nat.le_trans hlex hb7.size
      have hb6W7 : Below w6.heap.size W6 W7 := hb67.trans (hb77.mono h7le)
      have kx7 := (hb7.block w6.heap.size hltx).trans KX.out
      have kx := (hb77.block w6.heap.size (Nat.lt_of_lt_of_le hltx hb7.size)).trans kx7
      have HX5 := Lib.hid ((HS5.out.below hb6W7).mono h7le)
      have HX6 := Lib.hid ((HS6.out.below hb6W7).mono h7le)
      have HS7 := Lib.hid ((ho7.strs.mono hm8).below hb77)
      have HS8 := Lib.hid (ho8.writes.below hb77)
      have HBC := Lib.hid (HB7.out.trans (hb77.mono HB7.out.size))
      have HC7 := Lib.hid (implSameRec_any k k' t t' tm tm' ld ld' y y' _ _ _ _ nr nr' nw nw' nr nr' nw nw' rs rs' ws ws' _ W7 HNR.out HNR'.out HNW.out HNW'.out HX5.out HS7.out HX6.out HS8.out hb77.size hl1 hl1' hl2 hl2')
      rw [← HV.out] at HC7
      have HW7 := Lib.hid hW7
      have KY := Lib.hid ky
      have hlty : w7.heap.size < W7.heap.size := lt_blk ky
      have hltxx : w6.heap.size < W7.heap.size := lt_blk kx
      have hlx7 : w6.heap.size < w7.heap.size := lt_blk kx7
      have hley := hb77.size
      have KX7 := Lib.hid kx
      obtain ⟨x0, x1, x2, x3, x4, x5, x6⟩ := cells7 kx7
      clear ho7 ho8 hm7 hm8 hb7 hb67 hb77 ky hW7 hb6W7 kx d0 d1 d2 d3 d4 d5 d6 kx7
      go_wp2_with fail
      rw [← HW7.out]
      refine HC7.out.mono ?_
      rintro e w8 ⟨rfl, hb8⟩
      have HB8 := Lib.hid (HBC.out.trans (hb8.mono HBC.out.size))
      have HX58 := Lib.hid ((HX5.out.below (hb8.mono hley)).mono (Nat.le_trans hley hb8.size))
      have HX68 := Lib.hid ((HX6.out.below (hb8.mono hley)).mono (Nat.le_trans hley hb8.size))
      have HS78 := Lib.hid ((HS7.out.below (hb8.mono hley)).mono (Nat.le_trans hley hb8.size))
      have HS88 := Lib.hid ((HS8.out.below (hb8.mono hley)).mono (Nat.le_trans hley hb8.size))
      have KX8 := Lib.hid ((hb8.block _ hltxx).trans KX7.out)
      have KY8 := Lib.hid ((hb8.block _ hlty).trans KY.out)
      have hlx8 : w6.heap.size < w8.heap.size := Nat.lt_of_lt_of_le hltxx hb8.size
      have hly8 : w7.heap.size < w8.heap.size := Nat.lt_of_lt_of_le hlty hb8.size
      have hla8 : w.heap.size < w8.heap.size := Nat.lt_of_lt_of_le hlt0 HB8.out.size
      have hld8 : w.heap.size + 1 < w8.heap.size := Nat.lt_of_lt_of_le hlt0' HB8.out.size
      clear hb8 x0 x1 x2 x3 x4 x5 x6
      obtain ⟨a0, a1, a2, a3, a4, a5, a6⟩ := cells7 ((HB8.out.block w.heap.size hlt0).trans KN.out)
      obtain ⟨c0, c1, c2, c3, c4, c5, c6⟩ := cells7 KX8.out
      go_wp2_with fail
      go_region_held3 (fun w' => w'.cell? ⟨w6.heap.size, 0, none⟩ = some (.int .i64 k) ∧ w'.cell? ⟨w6.heap.size, 1, none⟩ = some (.int .i64 t) ∧ w'.cell? ⟨w6.heap.size, 2, none⟩ = some (.int .i64 tm) ∧ w'.cell? ⟨w6.heap.size, 3, none⟩ = some (.int .i64 ld) ∧ w'.cell? ⟨w6.heap.size, 4, none⟩ = some (.slice (some ⟨g5, 0, none⟩) nr nr) ∧ w'.cell? ⟨w6.heap.size, 5, none⟩ = some (.slice (some ⟨g6, 0, none⟩) nw nw) ∧ w'.cell? ⟨w6.heap.size, 6, none⟩ = some (.bool y) ∧ w'.cell? ⟨w.heap.size, 0, none⟩ = some (.int .i64 k) ∧ w'.cell? ⟨w.heap.size, 1, none⟩ = some (.int .i64 t) ∧ w'.cell? ⟨w.heap.size, 2, none⟩ = some (.int .i64 tm) ∧ w'.cell? ⟨w.heap.size, 3, none⟩ = some (.int .i64 ld) ∧ w'.cell? ⟨w.heap.size, 4, none⟩ = some (.slice Ar nr cr) ∧ w'.cell? ⟨w.heap.size, 5, none⟩ = some (.slice Aw nw cw) ∧ w'.cell? ⟨w.heap.size, 6, none⟩ = some (.bool y))
        (first | exact ⟨c0, c1, c2, c3, c4, c5, c6, a0, a1, a2, a3, a4, a5, a6⟩ | exact held1 | exact held2 | skip)
        (first
          | ((go_at_call 51; (with_reducible refine (HT.out _ HB8.out.drew).mono ?_); rintro e w9 ⟨u1, u2, um, rfl, hu1, hu2, hm1, hm2, hbu⟩; have held1 := (show _ ∧ _ ∧ _ ∧ _ ∧ _ ∧ _ ∧ _ ∧ _ ∧ _ ∧ _ ∧ _ ∧ _ ∧ _ ∧ _ from ⟨kept2 hbu c0 hlx8, kept2 hbu c1 hlx8, kept2 hbu c2 hlx8, kept2 hbu c3 hlx8, kept2 hbu c4 hlx8, kept2 hbu c5 hlx8, kept2 hbu c6 hlx8, kept2 hbu a0 hla8, kept2 hbu a1 hla8, kept2 hbu a2 hla8, kept2 hbu a3 hla8, kept2 hbu a4 hla8, kept2 hbu a5 hla8, kept2 hbu a6 hla8⟩); have hv1 : w6.heap.size < w9.heap.size := Nat.lt_of_lt_of_le hlx8 hbu.size; have hv2 : w.heap.size < w9.heap.size := Nat.lt_of_lt_of_le hla8 hbu.size))
          | ((go_at_call 53; (with_reducible refine (eqRec_same k t tm ld y nr nw rs ws _ _ _ _ _ _ _ _ _ w9 HNR.out ((HX58.out.below (below_undrew hbu)).mono (below_undrew hbu).size) (hu1.strs.mono hm2) HNW.out ((HX68.out.below (below_undrew hbu)).mono (below_undrew hbu).size) hu2.writes (Nat.le_refl _) hl1 hl2).mono ?_); rintro e w10 ⟨rfl, hbv⟩; have held2 := (show _ ∧ _ ∧ _ ∧ _ ∧ _ ∧ _ ∧ _ ∧ _ ∧ _ ∧ _ ∧ _ ∧ _ ∧ _ ∧ _ from ⟨kept2 hbv held1.1 hv1, kept2 hbv held1.2.1 hv1, kept2 hbv held1.2.2.1 hv1, kept2 hbv held1.2.2.2.1 hv1, kept2 hbv held1.2.2.2.2.1 hv1, kept2 hbv held1.2.2.2.2.2.1 hv1, kept2 hbv held1.2.2.2.2.2.2.1 hv1, kept2 hbv held1.2.2.2.2.2.2.2.1 hv2, kept2 hbv held1.2.2.2.2.2.2.2.2.1 hv2, kept2 hbv held1.2.2.2.2.2.2.2.2.2.1 hv2, kept2 hbv held1.2.2.2.2.2.2.2.2.2.2.1 hv2, kept2 hbv held1.2.2.2.2.2.2.2.2.2.2.2.1 hv2, kept2 hbv held1.2.2.2.2.2.2.2.2.2.2.2.2.1 hv2, kept2 hbv held1.2.2.2.2.2.2.2.2.2.2.2.2.2 hv2⟩))))
      have hbf : Below w8.heap.size w8 w10 := (below_undrew hbu).trans (hbv.mono (below_undrew hbu).size)
      have HB10 := Lib.hid (HB8.out.trans (hbf.mono HB8.out.size))
      have KY10 := Lib.hid ((hbf.block _ hly8).trans KY8.out)
      have HS710 := Lib.hid ((HS78.out.below hbf).mono hbf.size)
      have HS810 := Lib.hid ((HS88.out.below hbf).mono hbf.size)
      have hly10 : w7.heap.size < w10.heap.size := Nat.lt_of_lt_of_le hly8 hbf.size
      have hld10 : w.heap.size + 1 < w10.heap.size := Nat.lt_of_lt_of_le hld8 hbf.size
      clear hbf hbu hbv held1 held2 hu1 hu2 hm1 hm2 a0 a1 a2 a3 a4 a5 a6 c0 c1 c2 c3 c4 c5 c6
      obtain ⟨a0, a1, a2, a3, a4, a5, a6⟩ := cells7 ((HB10.out.block (w.heap.size + 1) hlt0').trans KN'.out)
      obtain ⟨c0, c1, c2, c3, c4, c5, c6⟩ := cells7 KY10.out
      go_wp2_with fail
      go_region_held3 (fun w' => w'.cell? ⟨w7.heap.size, 0, none⟩ = some (.int .i64 k') ∧ w'.cell? ⟨w7.heap.size, 1, none⟩ = some (.int .i64 t') ∧ w'.cell? ⟨w7.heap.size, 2, none⟩ = some (.int .i64 tm') ∧ w'.cell? ⟨w7.heap.size, 3, none⟩ = some (.int .i64 ld') ∧ w'.cell? ⟨w7.heap.size, 4, none⟩ = some (.slice (some ⟨g7, 0, none⟩) nr' nr') ∧ w'.cell? ⟨w7.heap.size, 5, none⟩ = some (.slice (some ⟨g8, 0, none⟩) nw' nw') ∧ w'.cell? ⟨w7.heap.size, 6, none⟩ = some (.bool y') ∧ w'.cell? ⟨w.heap.size + 1, 0, none⟩ = some (.int .i64 k') ∧ w'.cell? ⟨w.heap.size + 1, 1, none⟩ = some (.int .i64 t') ∧ w'.cell? ⟨w.heap.size + 1, 2, none⟩ = some (.int .i64 tm') ∧ w'.cell? ⟨w.heap.size + 1, 3, none⟩ = some (.int .i64 ld') ∧ w'.cell? ⟨w.heap.size + 1, 4, none⟩ = some (.slice Ar' nr' cr') ∧ w'.cell? ⟨w.heap.size + 1, 5, none⟩ = some (.slice Aw' nw' cw') ∧ w'.cell? ⟨w.heap.size + 1, 6, none⟩ = some (.bool y'))
        (first | exact ⟨c0, c1, c2, c3, c4, c5, c6, a0, a1, a2, a3, a4, a5, a6⟩ | exact held1 | exact held2 | skip)
        (first
          | ((go_at_call 51; (with_reducible refine (HT'.out _ HB10.out.drew).mono ?_); rintro e w11 ⟨u1, u2, um, rfl, hu1, hu2, hm1, hm2, hbu⟩; have held1 := (show _ ∧ _ ∧ _ ∧ _ ∧ _ ∧ _ ∧ _ ∧ _ ∧ _ ∧ _ ∧ _ ∧ _ ∧ _ ∧ _ from ⟨kept2 hbu c0 hly10, kept2 hbu c1 hly10, kept2 hbu c2 hly10, kept2 hbu c3 hly10, kept2 hbu c4 hly10, kept2 hbu c5 hly10, kept2 hbu c6 hly10, kept2 hbu a0 hld10, kept2 hbu a1 hld10, kept2 hbu a2 hld10, kept2 hbu a3 hld10, kept2 hbu a4 hld10, kept2 hbu a5 hld10, kept2 hbu a6 hld10⟩); have hv1 : w7.heap.size < w11.heap.size := Nat.lt_of_lt_of_le hly10 hbu.size; have hv2 : w.heap.size + 1 < w11.heap.size := Nat.lt_of_lt_of_le hld10 hbu.size))
          | ((go_at_call 53; (with_reducible refine (eqRec_same k' t' tm' ld' y' nr' nw' rs' ws' _ _ _ _ _ _ _ _ _ w11 HNR'.out ((HS710.out.below (below_undrew hbu)).mono (below_undrew hbu).size) (hu1.strs.mono hm2) HNW'.out ((HS810.out.below (below_undrew hbu)).mono (below_undrew hbu).size) hu2.writes (Nat.le_refl _) hl1' hl2').mono ?_); rintro e w12 ⟨rfl, hbv⟩; have held2 := (show _ ∧ _ ∧ _ ∧ _ ∧ _ ∧ _ ∧ _ ∧ _ ∧ _ ∧ _ ∧ _ ∧ _ ∧ _ ∧ _ from ⟨kept2 hbv held1.1 hv1, kept2 hbv held1.2.1 hv1, kept2 hbv held1.2.2.1 hv1, kept2 hbv held1.2.2.2.1 hv1, kept2 hbv held1.2.2.2.2.1 hv1, kept2 hbv held1.2.2.2.2.2.1 hv1, kept2 hbv held1.2.2.2.2.2.2.1 hv1, kept2 hbv held1.2.2.2.2.2.2.2.1 hv2, kept2 hbv held1.2.2.2.2.2.2.2.2.1 hv2, kept2 hbv held1.2.2.2.2.2.2.2.2.2.1 hv2, kept2 hbv held1.2.2.2.2.2.2.2.2.2.2.1 hv2, kept2 hbv held1.2.2.2.2.2.2.2.2.2.2.2.1 hv2, kept2 hbv held1.2.2.2.2.2.2.2.2.2.2.2.2.1 hv2, kept2 hbv held1.2.2.2.2.2.2.2.2.2.2.2.2.2 hv2⟩))))
      have hbf : Below w10.heap.size w10 w12 := (below_undrew hbu).trans (hbv.mono (below_undrew hbu).size)
      have HF := Lib.hid (HB0.out.trans ((HB10.out.trans (hbf.mono HB10.out.size)).mono HB0.out.size))
      clear hbf
      go_wp2
      go_ret
      exact ⟨rfl, HF.out⟩
    · rw [remI_no (by omega)] at HY
      clear hnr hr hs hnw hw hmr hmw hW0 hb0 kn hnr' hr' hs' hnw' hw' hmr' hmw' hq
      go_enter Try.func7, Try.ntmps7
      go_wp2_with fail
      rw [← HW0.out]
      refine HZ'.out.mono ?_
      rintro e w1 ⟨rfl, hb1⟩
      have HB1 := Lib.hid hb1
      obtain ⟨d0, d1, d2, d3, d4, d5, d6⟩ := cells7 ((hb1.block (w.heap.size + 1) hlt0').trans KN'.out)
      clear hb1 kn'
      go_wp2_with fail
      refine (HY.out _ HB1.out).mono ?_
      rintro e w2 ⟨rfl, hb2⟩
      have HF := Lib.hid (HB0.out.trans ((HB1.out.trans (hb2.mono HB1.out.size)).mono HB0.out.size))
      clear hb2
      go_wp2
      go_ret
      exact ⟨rfl, HF.out⟩
  · rw [remI_no (by omega)] at HZ
    have HZ' : Hid (Calls Try.prog 49 #[.agg #[.int .i64 k, .int .i64 t, .int .i64 tm, .int .i64 ld, .slice Ar nr cr, .slice Aw nw cw, .bool y], .int .i64 1048576] W0 fun e w' => e = .returned (.int .i64 (-1)) ∧ Below W0.heap.size W0 w') := HZ
    clear hnr hr HZ hs hnw hw hmr hmw hW0 hb0 kn hnr' hr' hnw' hw' hmr' hmw' kn' hq
    go_enter Try.func7, Try.ntmps7
    go_wp2_with fail
    rw [← HW0.out]
    refine HZ'.out.mono ?_
    rintro e w1 ⟨rfl, hb1⟩
    have HF := Lib.hid (HB0.out.trans (hb1.mono HB0.out.size))
    clear hb1
    go_wp2
    go_ret
    exact ⟨rfl, HF.out⟩
end Go.Proofs.Ytndmjeaafnbgaaa
