/-
  The walk of the law FnExactReadRec.
-/
import Derived.Test.YtndmjeaafnbgaaaReadM
import Derived.Test.YtndmjeaafnbgaaaRecE
namespace Go.Proofs.Ytndmjeaafnbgaaa
open Go.RowKit CM
set_option linter.unusedVariables false

/-- What ReadRec answers is settled by the bytes, its blocks aside. -/
def ReadIs (w : World) (e : Ending) (w' : World) (k t tm ld : Int) (y : Bool) (rs : List ByteArray) (ws : List (ByteArray × ByteArray × Bool)) (ok : Bool) : Prop :=
  ∃ A c A' c' m, e = .returned (.tuple #[.agg #[.int .i64 k, .int .i64 t, .int .i64 tm, .int .i64 ld, .slice A rs.length c, .slice A' ws.length c', .bool y], .bool ok]) ∧ OwnS w' w.heap.size m A c rs ∧ OwnW w' m w'.heap.size A' c' ws ∧ w.heap.size ≤ m ∧ m ≤ w'.heap.size ∧ Below w.heap.size w w'
theorem read_fixed (b : ByteArray) : ∃ k t tm ld y rs ws ok, rs.length ≤ 8 ∧ ws.length ≤ 8 ∧ ∀ w e w', ReadEnd b w e w' → ReadIs w e w' k t tm ld y rs ws ok := by
  by_cases hE : ∃ k t tm ld y rs ws, Enc k t tm ld y rs ws b
  · obtain ⟨k, t, tm, ld, y, rs, ws, he⟩ := hE
    have hok := rec_ok he.1
    refine ⟨k, t, tm, ld, y, rs, ws, true, hok.2.1, hok.2.2.1, ?_⟩
    rintro w e w' ⟨hB, ⟨k', t', tm', ld', y', rs', ws', A, c, A', c', m, he', rfl, hO, hW, h1, h2⟩ | ⟨hn, _⟩⟩
    · obtain ⟨a1, a2, a3, a4, a5, a6, a7⟩ := enc_reads he
      obtain ⟨b1, b2, b3, b4, b5, b6, b7⟩ := enc_reads he'
      rw [← a1] at b1; rw [← a2] at b2; rw [← a3] at b3; rw [← a4] at b4; rw [← a5] at b5; rw [← a6] at b6; rw [← a7] at b7
      subst b1 b2 b3 b4 b5 b6 b7
      exact ⟨A, c, A', c', m, rfl, hO, hW, h1, h2, hB⟩
    · exact absurd he (hn _ _ _ _ _ _ _)
  · refine ⟨0, 0, 0, 0, false, [], [], false, by simp, by simp, ?_⟩
    rintro w e w' ⟨hB, ⟨k', t', tm', ld', y', rs', ws', A, c, A', c', m, he', rfl, hO, hW, h1, h2⟩ | ⟨hn, rfl⟩⟩
    · exact absurd ⟨_, _, _, _, _, _, _, he'⟩ hE
    · exact ⟨none, 0, none, 0, w.heap.size, rfl, .inl ⟨rfl, rfl, rfl⟩, .inl ⟨rfl, rfl, rfl⟩, Nat.le_refl _, hB.size, hB⟩

set_option maxRecDepth 100000 in
set_option maxHeartbeats 4000000 in
theorem readRec_walk (w : World) (b : ByteArray) (hm : b.size ≤ maxLen) :
    Calls Try.prog 9 #[.string b] w fun e w' => e = .returned (.bool true) ∧ Below w.heap.size w w' := by
  by_cases hs : b.size ≤ 1048576
  · obtain ⟨k, t, tm, ld, y, rs, ws, ok, hl1, hl2, hfix⟩ := read_fixed b
    have HS := Lib.hid (fun W => (specReadRec_any b W hm).mono (fun e w' h => hfix W e w' h))
    have HI := Lib.hid (fun W => (implReadRec_any b W hm).mono (fun e w' h => hfix W e w' h))
    obtain ⟨nr, hnr⟩ : ∃ n, n = rs.length := ⟨_, rfl⟩
    obtain ⟨nw, hnw⟩ : ∃ n, n = ws.length := ⟨_, rfl⟩
    have HNR := Lib.hid hnr.symm
    have HNW := Lib.hid hnw.symm
    rw [← hnr] at hl1
    rw [← hnw] at hl2
    clear hfix hnr hnw
    go_enter Try.func9, Try.ntmps9
    go_wp2_with fail
    refine (HS.out w).mono ?_
    rintro e w1 ⟨A1, c1, A1', c1', m1, rfl, hO1, hW1, hm1, hm1', hB1⟩
    rw [HNR.out, HNW.out]
    have HB1 := Lib.hid hB1
    have HR1 := Lib.hid (hO1.strs.mono hm1')
    have HW1 := Lib.hid hW1.writes
    clear hB1 hO1 hW1 hm1 hm1'
    obtain ⟨W1, hW1⟩ : ∃ W1, W1 = w1.alloc (.cells #[.int .i64 k, .int .i64 t, .int .i64 tm, .int .i64 ld, .slice A1 nr c1, .slice A1' nw c1', .bool y] 68) := ⟨_, rfl⟩
    have hb1 : Below w1.heap.size w1 W1 := by rw [hW1]; exact below1 _ _
    have kx1 : W1.heap[w1.heap.size]? = some (.cells #[.int .i64 k, .int .i64 t, .int .i64 tm, .int .i64 ld, .slice A1 nr c1, .slice A1' nw c1', .bool y] 68 (0, 0)) := by rw [hW1]; exact heap_alloc_new _ _
    have hs1 : W1.heap.size = w1.heap.size + 1 := by rw [hW1]; simp
    have HX1 := Lib.hid hb1
    have KX1 := Lib.hid kx1
    have HV1 := Lib.hid hW1
    have hw01 : w.heap.size ≤ w1.heap.size := HB1.out.size
    clear hb1 kx1 hW1
    go_wp2_with fail
    rw [← HV1.out]
    refine (HI.out W1).mono ?_
    rintro e w2 ⟨A2, c2, A2', c2', m2, rfl, hO2, hW2, hm2, hm2', hB2⟩
    rw [HNR.out, HNW.out]
    have HB2 := Lib.hid hB2
    have HO2 := Lib.hid hO2
    have HW2 := Lib.hid hW2
    have hs2 : W1.heap.size ≤ w2.heap.size := hB2.size
    obtain ⟨W2, hW2'⟩ : ∃ W2, W2 = w2.alloc (.cells #[.int .i64 k, .int .i64 t, .int .i64 tm, .int .i64 ld, .slice A2 nr c2, .slice A2' nw c2', .bool y] 68) := ⟨_, rfl⟩
    have hb2 : Below w2.heap.size w2 W2 := by rw [hW2']; exact below1 _ _
    have kx2 : W2.heap[w2.heap.size]? = some (.cells #[.int .i64 k, .int .i64 t, .int .i64 tm, .int .i64 ld, .slice A2 nr c2, .slice A2' nw c2', .bool y] 68 (0, 0)) := by rw [hW2']; exact heap_alloc_new _ _
    have hs2' : W2.heap.size = w2.heap.size + 1 := by rw [hW2']; simp
    have hb12 : Below W1.heap.size W1 W2 := hB2.trans (hb2.mono hB2.size)
    have kx12 := (hb12.block w1.heap.size (by omega)).trans KX1.out
    have x10 := cell_blk (i := 0) kx12 rfl
    have x11 := cell_blk (i := 1) kx12 rfl
    have x12 := cell_blk (i := 2) kx12 rfl
    have x13 := cell_blk (i := 3) kx12 rfl
    have x14 := cell_blk (i := 4) kx12 rfl
    have x15 := cell_blk (i := 5) kx12 rfl
    have x16 := cell_blk (i := 6) kx12 rfl
    rw [hW2'] at x10 x11 x12 x13 x14 x15 x16
    have HX2 := Lib.hid hb2
    have HB12 := Lib.hid hb12
    have KX2 := Lib.hid kx2
    have KX12 := Lib.hid kx12
    have HV2 := Lib.hid hW2'
    clear hb2 kx2 hW2' hb12 kx12 hB2 hO2 hW2
    go_wp2_with fail
    rw [← HV2.out]
    refine (eqRec_same k t tm ld y nr nw rs ws A2 A1 A2' A1' c2 c1 c2' c1' W2.heap.size W2 HNR.out ((HO2.out.below (HX2.out.mono hm2')).strs.mono (by omega)) (((HR1.out.below HX1.out).mono (by omega)).below (HB12.out) |>.mono (by omega)) HNW.out (((HW2.out.below HX2.out).writes).mono (by omega)) (((HW1.out.below HX1.out).mono (by omega)).below (HB12.out) |>.mono (by omega)) (Nat.le_refl _) (by omega) (by omega)).mono ?_
    rintro e w3 ⟨rfl, hb3⟩
    have hs3 : W2.heap.size ≤ w3.heap.size := hb3.size
    have kx23 := (hb3.block w2.heap.size (by omega)).trans KX2.out
    have z0 := cell_blk (i := 0) kx23 rfl
    have z1 := cell_blk (i := 1) kx23 rfl
    have z2 := cell_blk (i := 2) kx23 rfl
    have z3 := cell_blk (i := 3) kx23 rfl
    have z4 := cell_blk (i := 4) kx23 rfl
    have z5 := cell_blk (i := 5) kx23 rfl
    have z6 := cell_blk (i := 6) kx23 rfl
    have HB13 := Lib.hid (HB12.out.trans (hb3.mono (by omega)))
    have hb23 : Below w2.heap.size w2 w3 := HX2.out.trans (hb3.mono (by omega))
    have HO3 := Lib.hid (HO2.out.below (hb23.mono hm2'))
    have HW3 := Lib.hid (HW2.out.below hb23)
    have KX23 := Lib.hid kx23
    have KX13 := Lib.hid ((hb3.block w1.heap.size (by omega)).trans KX12.out)
    clear hb3 hb23 kx23 x10 x11 x12 x13 x14 x15 x16
    have HM := Lib.hid (markRec_any k t tm ld y 1 nr nw rs ws A2 A2' c2 c2' W1.heap.size m2 w2.heap.size w3 HNR.out HO3.out HNW.out HW3.out hm2 hm2' (by omega) (by omega) (by omega) (by omega))
    obtain ⟨q, hq⟩ : ∃ q : Nat, q = 1 + nr + 3 * nw := ⟨_, rfl⟩
    unfold MarkRPost at HM
    rw [← hq] at HM
    have HQ := Lib.hid hq
    clear hq
    go_wp2_with fail
    refine HM.out.mono ?_
    rintro e w4 ⟨rfl, ho4, hw4, hb4, hmid4⟩
    have hs4 : w3.heap.size ≤ w4.heap.size := hb4.size
    have kx24 := (hmid4.2.2.2.2 w2.heap.size (by omega) (.inr (Nat.le_refl _))).trans KX23.out
    have a0 := cell_blk (i := 0) kx24 rfl
    have a1 := cell_blk (i := 1) kx24 rfl
    have a2 := cell_blk (i := 2) kx24 rfl
    have a3 := cell_blk (i := 3) kx24 rfl
    have a4 := cell_blk (i := 4) kx24 rfl
    have a5 := cell_blk (i := 5) kx24 rfl
    have a6 := cell_blk (i := 6) kx24 rfl
    have HB14 := Lib.hid (HB13.out.trans hb4)
    have HO4 := Lib.hid (ho4.strs.mono (show m2 ≤ w4.heap.size by omega))
    have HW4 := Lib.hid (hw4.writes.mono (show w2.heap.size ≤ w4.heap.size by omega))
    have KX24 := Lib.hid kx24
    have KX14 := Lib.hid ((hb4.block w1.heap.size (by omega)).trans KX13.out)
    have HH := Lib.hid (fun W (hW : Below w4.heap.size w4 W) => heldRec_any k t tm ld y 1 nr nw A2 A2' c2 c2' w4.heap.size W (HO4.out.below hW) (HW4.out.below hW) hW.size (by omega) (by omega))
    rw [← HQ.out] at HH
    clear ho4 hw4 hb4 hmid4 kx24 z0 z1 z2 z3 z4 z5 z6
    go_wp2_with fail
    refine (HH.out w4 (Below.refl _ _)).mono ?_
    rintro e w5 ⟨rfl, hb5⟩
    have hs5 : w4.heap.size ≤ w5.heap.size := hb5.size
    have HB45 := Lib.hid hb5
    clear hb5 a0 a1 a2 a3 a4 a5 a6
    go_wp2_with fail
    refine (HI.out w5).mono ?_
    rintro e w6 ⟨A3, c3, A3', c3', m3, rfl, hO3, hW3, hm3, hm3', hB6⟩
    rw [HNR.out, HNW.out]
    have hs6 : w5.heap.size ≤ w6.heap.size := hB6.size
    obtain ⟨W6, hW6⟩ : ∃ W6, W6 = w6.alloc (.cells #[.int .i64 k, .int .i64 t, .int .i64 tm, .int .i64 ld, .slice A3 nr c3, .slice A3' nw c3', .bool y] 68) := ⟨_, rfl⟩
    have hb6 : Below w6.heap.size w6 W6 := by rw [hW6]; exact below1 _ _
    have hs6' : W6.heap.size = w6.heap.size + 1 := by rw [hW6]; simp
    have h46 : Below w4.heap.size w4 W6 := HB45.out.trans ((hB6.trans (hb6.mono hs6)).mono hs5)
    have kx16 := (h46.block w1.heap.size (by omega)).trans KX14.out
    have kx26 := (h46.block w2.heap.size (by omega)).trans KX24.out
    have b0 := cell_blk (i := 0) kx16 rfl
    have b1 := cell_blk (i := 1) kx16 rfl
    have b2 := cell_blk (i := 2) kx16 rfl
    have b3 := cell_blk (i := 3) kx16 rfl
    have b4 := cell_blk (i := 4) kx16 rfl
    have b5 := cell_blk (i := 5) kx16 rfl
    have b6 := cell_blk (i := 6) kx16 rfl
    rw [hW6] at b0 b1 b2 b3 b4 b5 b6
    have HB46 := Lib.hid h46
    have HO6 := Lib.hid ((hO3.below (hb6.mono hm3')).strs.mono (show m3 ≤ W6.heap.size by omega))
    have HW6 := Lib.hid ((hW3.below hb6).writes.mono (show w6.heap.size ≤ W6.heap.size by omega))
    have KX26 := Lib.hid kx26
    have HV6 := Lib.hid hW6
    have HB16 := Lib.hid (HB14.out.trans (h46.mono (by omega)))
    clear hO3 hW3 hm3 hm3' hB6 hb6 hW6 h46 kx16 kx26
    go_wp2_with fail
    rw [← HV6.out]
    refine (eqRec_same k t tm ld y nr nw rs ws A3 A1 A3' A1' c3 c1 c3' c1' W6.heap.size W6 HNR.out HO6.out (((HR1.out.below HX1.out).mono (by omega)).below (HB16.out) |>.mono (by omega)) HNW.out HW6.out (((HW1.out.below HX1.out).mono (by omega)).below (HB16.out) |>.mono (by omega)) (Nat.le_refl _) (by omega) (by omega)).mono ?_
    rintro e w7 ⟨rfl, hb7⟩
    have hs7 : W6.heap.size ≤ w7.heap.size := hb7.size
    have kx27 := (hb7.block w2.heap.size (by omega)).trans KX26.out
    have d0 := cell_blk (i := 0) kx27 rfl
    have d1 := cell_blk (i := 1) kx27 rfl
    have d2 := cell_blk (i := 2) kx27 rfl
    have d3 := cell_blk (i := 3) kx27 rfl
    have d4 := cell_blk (i := 4) kx27 rfl
    have d5 := cell_blk (i := 5) kx27 rfl
    have d6 := cell_blk (i := 6) kx27 rfl
    have HB47 := Lib.hid (HB46.out.trans (hb7.mono (by omega)))
    clear hb7 kx27 b0 b1 b2 b3 b4 b5 b6
    go_wp2_with fail
    refine (HH.out w7 HB47.out).mono ?_
    rintro e w8 ⟨rfl, hb8⟩
    have HF := Lib.hid (show Below w.heap.size w w8 from HB1.out.trans ((HX1.out.trans (((HB14.out.trans ((HB47.out.trans (hb8.mono (by omega))).mono (by omega)))).mono (by omega))).mono hw01))
    clear hb8
    go_wp2
    go_ret
    exact ⟨rfl, HF.out⟩
  · unfold maxLen at hm
    go_enter Try.func9, Try.ntmps9
    go_wp2
    go_ret
    exact ⟨rfl, Below.refl _ _⟩
end Go.Proofs.Ytndmjeaafnbgaaa
