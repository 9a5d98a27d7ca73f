/-
  The walk of the exact law ReadEntry; marks over an entry.
-/
import Derived.Test.YtkhndofplebcaaaHsA
import Derived.Test.YtkhndofplebcaaaGrCt
import Derived.Test.YtkhndofplebcaaaRecE
namespace Go.Proofs.Ytkhndofplebcaaa.Hs
open Go.RowKit CM Gr
set_option linter.unusedVariables false
set_option linter.unusedSimpArgs false

set_option maxRecDepth 100000 in
set_option maxHeartbeats 1000000 in
theorem markEntry_any (tm kk tt xx ll : Int) (yy : Bool) (k : Nat) (nr nw : Nat) (rs : List ByteArray) (ws : List (ByteArray × ByteArray × Bool)) (Ar Aw : Option Addr) (cr cw lo m hi : Nat) (w : World) (hnr : rs.length = nr) (hr : OwnS w lo m Ar cr rs) (hnw : ws.length = nw) (hw : OwnW w m hi Aw cw ws) (h1 : lo ≤ m) (hmh : m ≤ hi) (h2 : m ≤ w.heap.size) (h3 : hi ≤ w.heap.size) (hk1 : 1 ≤ k) (hk : k + nr + 3 * nw ≤ 1000000000) :
    Calls Try.prog 16 #[.agg #[.int .i64 tm, .int .i64 kk, .int .i64 tt, .int .i64 xx, .int .i64 ll, .slice Ar nr cr, .slice Aw nw cw, .bool yy], .int .i64 (k : Int)] w (MarkRPost k lo m hi nr nw Ar Aw cr cw w) := by
  have hb1 := below1 w (.cells #[.int .i64 tm, .int .i64 kk, .int .i64 tt, .int .i64 xx, .int .i64 ll, .slice Ar nr cr, .slice Aw nw cw, .bool yy] 35)
  have HM := Lib.hid (markRec_any kk tt xx ll yy k nr nw rs ws Ar Aw cr cw lo m hi (w.alloc (.cells #[.int .i64 tm, .int .i64 kk, .int .i64 tt, .int .i64 xx, .int .i64 ll, .slice Ar nr cr, .slice Aw nw cw, .bool yy] 35)) hnr (hr.below (hb1.mono h2)) hnw (hw.below (hb1.mono h3)) h1 hmh (Nat.le_trans h2 hb1.size) (Nat.le_trans h3 hb1.size) hk1 hk)
  have HB := Lib.hid hb1
  have HMI := Lib.hid (Below.mid (lo := lo) (hi := hi) hb1)
  unfold MarkRPost at HM ⊢
  clear hb1 hr hw hnr hnw
  go_enter Try.func16, Try.ntmps16
  go_wp2_with fail
  refine HM.out.mono ?_
  rintro e w1 ⟨rfl, ho1, hw1, hb2, hm2⟩
  have HF := Lib.hid (show OwnS w1 lo m Ar cr (mStrs k nr) ∧ OwnW w1 m hi Aw cw (mWrs (k + nr) nw) ∧ Below lo w w1 ∧ Mid lo hi w w1 from ⟨ho1, hw1, (HB.out.mono (Nat.le_trans h1 h2)).trans hb2, HMI.out.trans hm2⟩)
  clear ho1 hw1 hb2 hm2
  go_wp2
  go_ret
  exact ⟨rfl, HF.out⟩
set_option maxRecDepth 100000 in
set_option maxHeartbeats 1000000 in
theorem heldEntry_any (tm kk tt xx ll : Int) (yy : Bool) (k : Nat) (nr nw : Nat) (Ar Aw : Option Addr) (cr cw B : Nat) (w : World) (hr : StrsB w B Ar (mStrs k nr)) (hw : WritesB w B Aw (mWrs (k + nr) nw)) (hB : B ≤ w.heap.size) (hk1 : 1 ≤ k) (hk : k + nr + 3 * nw ≤ 1000000000) :
    Calls Try.prog 17 #[.agg #[.int .i64 tm, .int .i64 kk, .int .i64 tt, .int .i64 xx, .int .i64 ll, .slice Ar nr cr, .slice Aw nw cw, .bool yy], .int .i64 (k : Int)] w fun e w' => e = .returned (.int .i64 ((k + nr + 3 * nw : Nat) : Int)) ∧ Below w.heap.size w w' := by
  have hb1 := below1 w (.cells #[.int .i64 tm, .int .i64 kk, .int .i64 tt, .int .i64 xx, .int .i64 ll, .slice Ar nr cr, .slice Aw nw cw, .bool yy] 35)
  have HM := Lib.hid (heldRec_any kk tt xx ll yy k nr nw Ar Aw cr cw B (w.alloc (.cells #[.int .i64 tm, .int .i64 kk, .int .i64 tt, .int .i64 xx, .int .i64 ll, .slice Ar nr cr, .slice Aw nw cw, .bool yy] 35)) (hr.below (hb1.mono hB)) (hw.below (hb1.mono hB)) (Nat.le_trans hB hb1.size) hk1 hk)
  have hz : (0 : Int) ≤ ((k + nr + 3 * nw : Nat) : Int) := by omega
  obtain ⟨z, hz'⟩ : ∃ z, z = ((k + nr + 3 * nw : Nat) : Int) := ⟨_, rfl⟩
  rw [← hz'] at HM hz ⊢
  have HB := Lib.hid hb1
  clear hb1 hr hw hz'
  go_enter Try.func17, Try.ntmps17
  go_wp2_with fail
  refine HM.out.mono ?_
  rintro e w1 ⟨rfl, hb2⟩
  have HF := Lib.hid (HB.out.trans (hb2.mono HB.out.size))
  clear hb2
  go_wp2
  go_ret
  exact ⟨rfl, HF.out⟩
theorem ent_small (b : ByteArray) : (entAt b).1.rs.length ≤ 8 ∧ (entAt b).1.ws.length ≤ 8 := by
  cases h : entOk b with
  | true =>
    have h1 := entAt_good h
    unfold entB at h1
    rw [Bool.and_eq_true] at h1
    have h2 := rec_ok (show recB _ _ _ _ _ _ _ = true from h1.2)
    exact ⟨h2.2.1, h2.2.2.1⟩
  | false =>
    have e1 : entAt b = (zeD, false) := by unfold entAt; rw [h]; rfl
    rw [e1]
    simp [zeD]

set_option maxRecDepth 100000 in
set_option maxHeartbeats 4000000 in
theorem readEntry_walk (w : World) (b : ByteArray) (hm : b.size ≤ maxLen) :
    Calls Try.prog 4 #[.string b] w fun e w' => e = .returned (.bool true) ∧ Below w.heap.size w w' := by
  by_cases hs : b.size ≤ 1048576
  · obtain ⟨⟨⟨tm, kk, tt, xx, ll, yy, rs, ws⟩, ok⟩, hent⟩ : ∃ a, a = entAt b := ⟨_, rfl⟩
    have hsm := ent_small b
    rw [← hent] at hsm
    have HS := Lib.hid (fun W => (specReadEntry_any b W hm))
    have HI := Lib.hid (fun W => (implReadEntry_any b W hm))
    unfold REPost at HS HI
    rw [← hent] at HS HI
    simp only at HS HI hsm
    obtain ⟨nr, hnr⟩ : ∃ n, n = rs.length := ⟨_, rfl⟩
    obtain ⟨nw, hnw⟩ : ∃ n, n = ws.length := ⟨_, rfl⟩
    rw [← hnr, ← hnw] at HS HI hsm
    have HNR := Lib.hid hnr.symm
    have HNW := Lib.hid hnw.symm
    obtain ⟨hl1, hl2⟩ := hsm
    clear hnr hnw hent
    go_enter Try.func4, Try.ntmps4
    go_wp2_with fail
    refine (HS.out w).mono ?_
    rintro e w1 ⟨A1, c1, A1', c1', lo1, m1, hi1, rfl, ⟨(hm1 : lo1 ≤ m1), (hm1' : m1 ≤ hi1), (hO1 : OwnS w1 lo1 m1 A1 c1 rs), (hW1 : OwnW w1 m1 hi1 A1' c1' ws)⟩, hlo1, hhi1, hB1⟩
    have HB1 := Lib.hid hB1
    have HR1 := Lib.hid (hO1.strs.mono (show m1 ≤ w1.heap.size by omega))
    have HW1 := Lib.hid (hW1.writes.mono (show hi1 ≤ w1.heap.size by omega))
    clear hB1 hO1 hW1 hm1 hm1' hlo1 hhi1
    obtain ⟨W1, hW1'⟩ : ∃ W1, W1 = w1.alloc (.cells #[.int .i64 tm, .int .i64 kk, .int .i64 tt, .int .i64 xx, .int .i64 ll, .slice A1 nr c1, .slice A1' nw c1', .bool yy] 35) := ⟨_, rfl⟩
    have hb1 : Below w1.heap.size w1 W1 := by rw [hW1']; exact below1 _ _
    have kx1 : W1.heap[w1.heap.size]? = some (.cells #[.int .i64 tm, .int .i64 kk, .int .i64 tt, .int .i64 xx, .int .i64 ll, .slice A1 nr c1, .slice A1' nw c1', .bool yy] 35 (0, 0)) := by rw [hW1']; exact heap_alloc_new _ _
    have hs1' : W1.heap.size = w1.heap.size + 1 := by rw [hW1']; simp
    have HX1 := Lib.hid hb1
    have KX1 := Lib.hid kx1
    have HV1 := Lib.hid hW1'
    have hw01 : w.heap.size ≤ w1.heap.size := HB1.out.size
    clear hb1 kx1 hW1'
    go_wp2_with fail
    rw [← HV1.out]
    refine (HI.out W1).mono ?_
    rintro e w2 ⟨A2, c2, A2', c2', lo2, m2, hi2, rfl, ⟨(hm2 : lo2 ≤ m2), (hm2' : m2 ≤ hi2), (hO2 : OwnS w2 lo2 m2 A2 c2 rs), (hW2 : OwnW w2 m2 hi2 A2' c2' ws)⟩, hlo2, hhi2, hB2⟩
    have HB2 := Lib.hid hB2
    have HO2 := Lib.hid hO2
    have HW2 := Lib.hid hW2
    have hs2 : W1.heap.size ≤ w2.heap.size := hB2.size
    obtain ⟨W2, hW2'⟩ : ∃ W2, W2 = w2.alloc (.cells #[.int .i64 tm, .int .i64 kk, .int .i64 tt, .int .i64 xx, .int .i64 ll, .slice A2 nr c2, .slice A2' nw c2', .bool yy] 35) := ⟨_, rfl⟩
    have hb2 : Below w2.heap.size w2 W2 := by rw [hW2']; exact below1 _ _
    have kx2 : W2.heap[w2.heap.size]? = some (.cells #[.int .i64 tm, .int .i64 kk, .int .i64 tt, .int .i64 xx, .int .i64 ll, .slice A2 nr c2, .slice A2' nw c2', .bool yy] 35 (0, 0)) := by rw [hW2']; exact heap_alloc_new _ _
    have hs2' : W2.heap.size = w2.heap.size + 1 := by rw [hW2']; simp
    have hb12 : Below W1.heap.size W1 W2 := hB2.trans (hb2.mono hB2.size)
    have kx12 := (hb12.block w1.heap.size (by omega)).trans KX1.out
    obtain ⟨x10, x11, x12, x13, x14, x15, x16, x17⟩ := cells8 (kx12)
    rw [hW2'] at x10 x11 x12 x13 x14 x15 x16 x17
    have HX2 := Lib.hid hb2
    have HB12 := Lib.hid hb12
    have KX2 := Lib.hid kx2
    have KX12 := Lib.hid kx12
    have HV2 := Lib.hid hW2'
    clear hb2 kx2 hW2' hb12 kx12 hB2 hO2 hW2
    go_wp2_with fail
    rw [← HV2.out]
    refine (eqEntry_same tm kk tt xx ll yy A2 A1 nr c2 c1 rs A2' A1' nw c2' c1' ws W2.heap.size W2 HNR.out ((HO2.out.below (HX2.out.mono (by omega))).strs.mono (by omega)) (((HR1.out.below HX1.out).mono (by omega)).below (HB12.out) |>.mono (by omega)) HNW.out (((HW2.out.below (HX2.out.mono (by omega))).writes).mono (by omega)) (((HW1.out.below HX1.out).mono (by omega)).below (HB12.out) |>.mono (by omega)) (by omega) (by omega) (Nat.le_refl _)).mono ?_
    rintro e w3 ⟨rfl, hb3⟩
    have hs3 : W2.heap.size ≤ w3.heap.size := hb3.size
    have kx23 := (hb3.block w2.heap.size (by omega)).trans KX2.out
    obtain ⟨z0, z1, z2, z3, z4, z5, z6, z7⟩ := cells8 (kx23)
    have HB13 := Lib.hid (HB12.out.trans (hb3.mono (by omega)))
    have hb23 : Below w2.heap.size w2 w3 := HX2.out.trans (hb3.mono (by omega))
    have HO3 := Lib.hid (HO2.out.below (hb23.mono (by omega)))
    have HW3 := Lib.hid (HW2.out.below (hb23.mono (by omega)))
    have KX23 := Lib.hid kx23
    have KX13 := Lib.hid ((hb3.block w1.heap.size (by omega)).trans KX12.out)
    clear hb3 hb23 kx23 x10 x11 x12 x13 x14 x15 x16 x17
    have HM := Lib.hid (markEntry_any tm kk tt xx ll yy 1 nr nw rs ws A2 A2' c2 c2' lo2 m2 hi2 w3 HNR.out HO3.out HNW.out HW3.out hm2 hm2' (by omega) (by omega) (by omega) (by omega))
    obtain ⟨q, hq⟩ : ∃ q : Nat, q = 1 + nr + 3 * nw := ⟨_, rfl⟩
    unfold MarkRPost at HM
    rw [← hq] at HM
    have HQ := Lib.hid hq
    clear hq
    go_wp2_with fail
    refine HM.out.mono ?_
    rintro e w4 ⟨rfl, ho4, hw4, hb4, hmid4⟩
    have hs4 : w3.heap.size ≤ w4.heap.size := hb4.size
    have kx24 := (hmid4.2.2.2.2 w2.heap.size (by omega) (.inr (by omega))).trans KX23.out
    obtain ⟨a0, a1, a2, a3, a4, a5, a6, a7⟩ := cells8 (kx24)
    have HB14 := Lib.hid (HB13.out.trans (hb4.mono hlo2))
    have HO4 := Lib.hid (ho4.strs.mono (show m2 ≤ w4.heap.size by omega))
    have HW4 := Lib.hid (hw4.writes.mono (show hi2 ≤ w4.heap.size by omega))
    have KX24 := Lib.hid kx24
    have KX14 := Lib.hid ((hb4.block w1.heap.size (by omega)).trans KX13.out)
    have HH := Lib.hid (fun W (hW : Below w4.heap.size w4 W) => heldEntry_any tm kk tt xx ll yy 1 nr nw A2 A2' c2 c2' w4.heap.size W (HO4.out.below hW) (HW4.out.below hW) hW.size (by omega) (by omega))
    rw [← HQ.out] at HH
    clear ho4 hw4 hb4 hmid4 kx24 z0 z1 z2 z3 z4 z5 z6 z7
    go_wp2_with fail
    refine (HH.out w4 (Below.refl _ _)).mono ?_
    rintro e w5 ⟨rfl, hb5⟩
    have hs5 : w4.heap.size ≤ w5.heap.size := hb5.size
    have HB45 := Lib.hid hb5
    clear hb5 a0 a1 a2 a3 a4 a5 a6 a7
    go_wp2_with fail
    refine (HI.out w5).mono ?_
    rintro e w6 ⟨A3, c3, A3', c3', lo3, m3, hi3, rfl, ⟨(hm3 : lo3 ≤ m3), (hm3' : m3 ≤ hi3), (hO3 : OwnS w6 lo3 m3 A3 c3 rs), (hW3 : OwnW w6 m3 hi3 A3' c3' ws)⟩, hlo3, hhi3, hB6⟩
    have hs6 : w5.heap.size ≤ w6.heap.size := hB6.size
    obtain ⟨W6, hW6'⟩ : ∃ W6, W6 = w6.alloc (.cells #[.int .i64 tm, .int .i64 kk, .int .i64 tt, .int .i64 xx, .int .i64 ll, .slice A3 nr c3, .slice A3' nw c3', .bool yy] 35) := ⟨_, rfl⟩
    have hb6 : Below w6.heap.size w6 W6 := by rw [hW6']; exact below1 _ _
    have kx6 : W6.heap[w6.heap.size]? = some (.cells #[.int .i64 tm, .int .i64 kk, .int .i64 tt, .int .i64 xx, .int .i64 ll, .slice A3 nr c3, .slice A3' nw c3', .bool yy] 35 (0, 0)) := by rw [hW6']; exact heap_alloc_new _ _
    have hs6' : W6.heap.size = w6.heap.size + 1 := by rw [hW6']; simp
    have h46 : Below w4.heap.size w4 W6 := HB45.out.trans ((hB6.trans (hb6.mono hs6)).mono hs5)
    have kx16 := (h46.block w1.heap.size (by omega)).trans KX14.out
    have kx26 := (h46.block w2.heap.size (by omega)).trans KX24.out
    obtain ⟨b0, b1, b2, b3, b4, b5, b6, b7⟩ := cells8 (kx16)
    rw [hW6'] at b0 b1 b2 b3 b4 b5 b6 b7
    have HB46 := Lib.hid h46
    have HO6 := Lib.hid ((hO3.below (hb6.mono (by omega))).strs.mono (show m3 ≤ W6.heap.size by omega))
    have HW6 := Lib.hid ((hW3.below (hb6.mono (by omega))).writes.mono (show hi3 ≤ W6.heap.size by omega))
    have KX26 := Lib.hid kx26
    have HV6 := Lib.hid hW6'
    have HB16 := Lib.hid (HB14.out.trans (h46.mono (by omega)))
    clear hO3 hW3 hm3 hm3' hlo3 hhi3 hB6 hb6 hW6' h46 kx16 kx26 kx6
    go_wp2_with fail
    rw [← HV6.out]
    refine (eqEntry_same tm kk tt xx ll yy A3 A1 nr c3 c1 rs A3' A1' nw c3' c1' ws W6.heap.size W6 HNR.out HO6.out (((HR1.out.below HX1.out).mono (by omega)).below (HB16.out) |>.mono (by omega)) HNW.out HW6.out (((HW1.out.below HX1.out).mono (by omega)).below (HB16.out) |>.mono (by omega)) (by omega) (by omega) (Nat.le_refl _)).mono ?_
    rintro e w7 ⟨rfl, hb7⟩
    have hs7 : W6.heap.size ≤ w7.heap.size := hb7.size
    have kx27 := (hb7.block w2.heap.size (by omega)).trans KX26.out
    obtain ⟨d0, d1, d2, d3, d4, d5, d6, d7⟩ := cells8 (kx27)
    have HB47 := Lib.hid (HB46.out.trans (hb7.mono (by omega)))
    clear hb7 kx27 b0 b1 b2 b3 b4 b5 b6 b7
    go_wp2_with fail
    refine (HH.out w7 HB47.out).mono ?_
    rintro e w8 ⟨rfl, hb8⟩
    have HF := Lib.hid (show Below w.heap.size w w8 from HB1.out.trans ((HX1.out.trans (((HB14.out.trans ((HB47.out.trans (hb8.mono (by omega))).mono (by omega)))).mono (by omega))).mono hw01))
    clear hb8
    go_wp2
    go_ret
    exact ⟨rfl, HF.out⟩
  · unfold maxLen at hm
    go_enter Try.func4, Try.ntmps4
    go_wp2
    go_ret
    exact ⟨rfl, Below.refl _ _⟩
end Go.Proofs.Ytkhndofplebcaaa.Hs
