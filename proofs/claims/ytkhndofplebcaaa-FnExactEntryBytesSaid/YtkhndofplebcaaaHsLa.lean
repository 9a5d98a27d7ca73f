/-
  The walk of the exact law EntryBytes.
-/
import Derived.Test.YtkhndofplebcaaaHsE
import Derived.Test.YtkhndofplebcaaaGrCt
import Derived.Test.YtkhndofplebcaaaLawGR
namespace Go.Proofs.Ytkhndofplebcaaa.Hs
open Go.RowKit CM Gr
set_option linter.unusedVariables false

set_option maxRecDepth 100000 in
set_option maxHeartbeats 4000000 in
theorem entryBytes_walk (w : World) (tm kk tt xx ll : Int) (yy : Bool) (Ar : Option Addr) (nr cr : Nat) (rs : List ByteArray) (Aw : Option Addr) (nw cw : Nat) (ws : List (ByteArray × ByteArray × Bool)) (hnr : rs.length = nr) (hr : StrsB w w.heap.size Ar rs) (hmr : SMax rs) (hnw : ws.length = nw) (hw : WritesB w w.heap.size Aw ws) (hmw : WMax ws) :
    Calls Try.prog 3 #[.agg #[.int .i64 tm, .int .i64 kk, .int .i64 tt, .int .i64 xx, .int .i64 ll, .slice Ar nr cr, .slice Aw nw cw, .bool yy]] w fun e w' => e = .returned (.bool true) ∧ Below w.heap.size w w' := by
  obtain ⟨W0, hW0⟩ : ∃ W0, W0 = w.alloc (.cells #[.int .i64 tm, .int .i64 kk, .int .i64 tt, .int .i64 xx, .int .i64 ll, .slice Ar nr cr, .slice Aw nw cw, .bool yy] 27) := ⟨_, rfl⟩
  have hb0 : Below w.heap.size w W0 := by rw [hW0]; exact below1 _ _
  have kn : W0.heap[w.heap.size]? = some (.cells #[.int .i64 tm, .int .i64 kk, .int .i64 tt, .int .i64 xx, .int .i64 ll, .slice Ar nr cr, .slice Aw nw cw, .bool yy] 27) := by rw [hW0]; exact heap_alloc_new _ _
  have HZ := Lib.hid (szEntry_any tm kk tt xx ll yy Ar nr cr rs Aw nw cw ws 1048576 w.heap.size W0 hnr (hr.below hb0) hnw (hw.below hb0) hb0.size hmr hmw (Nat.le_refl _))
  have HW0 := Lib.hid hW0
  have HB0 := Lib.hid hb0
  have KN := Lib.hid kn
  have hlt0 : w.heap.size < W0.heap.size := lt_blk kn
  by_cases hs : szSs rs + szWs ws ≤ 1048576
  · have hsr := ssmall_of (show szSs rs ≤ 1048576 by omega)
    have hsw := wsmall_of (show szWs ws ≤ 1048576 by omega)
    have hl1 : nr ≤ 1048576 := by rw [← hnr]; exact hsr.1
    have hl2 : nw ≤ 1048576 := by rw [← hnw]; exact hsw.1
    have HSR := Lib.hid hsr
    have HSW := Lib.hid hsw
    have HNR := Lib.hid hnr
    have HNW := Lib.hid hnw
    have ht := fun W (hW : Below W0.heap.size W0 W) => toEntry_any tm kk tt xx ll yy Ar nr cr rs Aw nw cw ws w.heap.size W hnr (hr.below (hb0.trans (hW.mono hb0.size))) hnw (hw.below (hb0.trans (hW.mono hb0.size))) (Nat.le_trans hb0.size hW.size) hl1 hl2
    unfold ToEPost at ht
    simp only [hnr, hnw] at ht
    have HT := Lib.hid ht
    obtain ⟨⟨vs, vb⟩, hv⟩ : ∃ v, v = entBytes ⟨tm, kk, tt, xx, ll, yy, rs, ws⟩ := ⟨_, rfl⟩
    have HV := Lib.hid hv
    rw [remI_yes hs] at HZ
    have hz0 : (0 : Int) ≤ (1048576 : Int) - ((szSs rs + szWs ws : Nat) : Int) := by omega
    have HZ' : Hid (Calls Try.prog 9 #[.agg #[.int .i64 tm, .int .i64 kk, .int .i64 tt, .int .i64 xx, .int .i64 ll, .slice Ar nr cr, .slice Aw nw cw, .bool yy], .int .i64 1048576] W0 fun e w' => e = .returned (.int .i64 ((1048576 : Int) - ((szSs rs + szWs ws : Nat) : Int))) ∧ Below W0.heap.size W0 w') := HZ
    obtain ⟨z, hz⟩ : ∃ z, z = (1048576 : Int) - ((szSs rs + szWs ws : Nat) : Int) := ⟨_, rfl⟩
    rw [← hz] at HZ' hz0
    clear hnr hr hsr hsw hv HZ hs hnw hw hmr hmw hW0 hb0 kn hz ht
    go_enter Try.func3, Try.ntmps3
    go_wp2_with fail
    rw [← HW0.out]
    refine HZ'.out.mono ?_
    rintro e w1 ⟨rfl, hb1⟩
    have HB1 := Lib.hid hb1
    have ka := (hb1.block w.heap.size hlt0).trans KN.out
    obtain ⟨a0, a1, a2, a3, a4, a5, a6, a7⟩ := cells8 (ka)
    clear hb1 ka
    go_wp2_with fail
    refine (HT.out _ HB1.out).mono ?_
    rintro e w2 ⟨Ar2, cr2, Aw2, cw2, lo2, m2, hi2, rfl, ⟨(hm1 : lo2 ≤ m2), (hm2 : m2 ≤ hi2), (ho1 : OwnS w2 lo2 m2 Ar2 cr2 rs), (ho2 : OwnW w2 m2 hi2 Aw2 cw2 ws)⟩, hlo2, hhi2, hb2⟩
    have HB2 := Lib.hid (HB1.out.trans (hb2.mono HB1.out.size))
    have HC2 := Lib.hid (specEntryBytes_any tm kk tt xx ll yy Ar2 Aw2 nr nw cr2 cw2 rs ws w2.heap.size w2 HNR.out HNW.out (ho1.strs.mono (by omega)) (ho2.writes.mono (by omega)) (Nat.le_refl _) HSR.out HSW.out)
    unfold EBEnd at HC2
    rw [← HV.out] at HC2
    clear ho1 ho2 hm1 hm2 hb2 hlo2 hhi2 a0 a1 a2 a3 a4 a5 a6 a7
    go_wp2_with fail
    refine HC2.out.mono ?_
    rintro e w3 ⟨rfl, hb3⟩
    have HB3 := Lib.hid (HB2.out.trans (hb3.mono HB2.out.size))
    have ka := (HB3.out.block w.heap.size hlt0).trans KN.out
    obtain ⟨a0, a1, a2, a3, a4, a5, a6, a7⟩ := cells8 (ka)
    clear hb3 ka
    go_wp2_with fail
    refine (HT.out _ HB3.out).mono ?_
    rintro e w4 ⟨Ar4, cr4, Aw4, cw4, lo4, m4, hi4, rfl, ⟨(hm3 : lo4 ≤ m4), (hm4 : m4 ≤ hi4), (ho3 : OwnS w4 lo4 m4 Ar4 cr4 rs), (ho4 : OwnW w4 m4 hi4 Aw4 cw4 ws)⟩, hlo4, hhi4, hb4⟩
    have HB4 := Lib.hid (HB3.out.trans (hb4.mono HB3.out.size))
    obtain ⟨W4, hW4⟩ : ∃ W4, W4 = w4.alloc (.cells #[.int .i64 tm, .int .i64 kk, .int .i64 tt, .int .i64 xx, .int .i64 ll, .slice Ar4 nr cr4, .slice Aw4 nw cw4, .bool yy] 35) := ⟨_, rfl⟩
    have hb44 : Below w4.heap.size w4 W4 := by rw [hW4]; exact below1 _ _
    have kx : W4.heap[w4.heap.size]? = some (.cells #[.int .i64 tm, .int .i64 kk, .int .i64 tt, .int .i64 xx, .int .i64 ll, .slice Ar4 nr cr4, .slice Aw4 nw cw4, .bool yy] 35) := by rw [hW4]; exact heap_alloc_new _ _
    have HS3 := Lib.hid ((ho3.strs.mono (show m4 ≤ w4.heap.size by omega)).below hb44)
    have HS4 := Lib.hid ((ho4.writes.mono (show hi4 ≤ w4.heap.size by omega)).below hb44)
    have HBB := Lib.hid (HB4.out.trans (hb44.mono HB4.out.size))
    have HC4 := Lib.hid (implEntryBytes_any tm kk tt xx ll yy Ar4 Aw4 nr nw cr4 cw4 rs ws w4.heap.size W4 HNR.out HNW.out HS3.out HS4.out hb44.size HSR.out HSW.out)
    unfold EBEnd at HC4
    rw [← HV.out] at HC4
    have HW4 := Lib.hid hW4
    have KX := Lib.hid kx
    have hltx : w4.heap.size < W4.heap.size := lt_blk kx
    have hlex := hb44.size
    clear ho3 ho4 hm3 hm4 hb4 hb44 kx hW4 hlo4 hhi4 a0 a1 a2 a3 a4 a5 a6 a7
    go_wp2_with fail
    rw [← HW4.out]
    refine HC4.out.mono ?_
    rintro e w5 ⟨rfl, hb5⟩
    have HB5 := Lib.hid (HBB.out.trans (hb5.mono HBB.out.size))
    have HX5 := Lib.hid (HS3.out.below (hb5.mono hlex))
    have HY5 := Lib.hid (HS4.out.below (hb5.mono hlex))
    have hlx5 : w4.heap.size < w5.heap.size := Nat.lt_of_lt_of_le hltx hb5.size
    have hlb5 : w.heap.size < w5.heap.size := Nat.lt_of_lt_of_le hlt0 HB5.out.size
    have hle5 : w4.heap.size ≤ w5.heap.size := Nat.le_of_lt hlx5
    obtain ⟨a0, a1, a2, a3, a4, a5, a6, a7⟩ := cells8 ((HB5.out.block w.heap.size hlt0).trans KN.out)
    obtain ⟨c0, c1, c2, c3, c4, c5, c6, c7⟩ := cells8 ((hb5.block w4.heap.size hltx).trans KX.out)
    clear hb5
    go_wp2_with fail
    go_region_held3 (fun w' => w'.cell? ⟨w4.heap.size, 0, none⟩ = some (.int .i64 tm) ∧ w'.cell? ⟨w4.heap.size, 1, none⟩ = some (.int .i64 kk) ∧ w'.cell? ⟨w4.heap.size, 2, none⟩ = some (.int .i64 tt) ∧ w'.cell? ⟨w4.heap.size, 3, none⟩ = some (.int .i64 xx) ∧ w'.cell? ⟨w4.heap.size, 4, none⟩ = some (.int .i64 ll) ∧ w'.cell? ⟨w4.heap.size, 5, none⟩ = some (.slice Ar4 nr cr4) ∧ w'.cell? ⟨w4.heap.size, 6, none⟩ = some (.slice Aw4 nw cw4) ∧ w'.cell? ⟨w4.heap.size, 7, none⟩ = some (.bool yy) ∧ w'.cell? ⟨w.heap.size, 0, none⟩ = some (.int .i64 tm) ∧ w'.cell? ⟨w.heap.size, 1, none⟩ = some (.int .i64 kk) ∧ w'.cell? ⟨w.heap.size, 2, none⟩ = some (.int .i64 tt) ∧ w'.cell? ⟨w.heap.size, 3, none⟩ = some (.int .i64 xx) ∧ w'.cell? ⟨w.heap.size, 4, none⟩ = some (.int .i64 ll) ∧ w'.cell? ⟨w.heap.size, 5, none⟩ = some (.slice Ar nr cr) ∧ w'.cell? ⟨w.heap.size, 6, none⟩ = some (.slice Aw nw cw) ∧ w'.cell? ⟨w.heap.size, 7, none⟩ = some (.bool yy))
      (first | exact ⟨c0, c1, c2, c3, c4, c5, c6, c7, a0, a1, a2, a3, a4, a5, a6, a7⟩ | exact held6 | exact held7 | skip)
      (first
        | ((go_at_call 11; (with_reducible refine (HT.out _ HB5.out.drew).mono ?_); rintro e w6 ⟨Ar6, cr6, Aw6, cw6, lo6, m6, hi6, rfl, ho6, hlo6, hhi6, hb6⟩; have held6 := (show _ ∧ _ ∧ _ ∧ _ ∧ _ ∧ _ ∧ _ ∧ _ ∧ _ ∧ _ ∧ _ ∧ _ ∧ _ ∧ _ ∧ _ ∧ _ from ⟨kept2 hb6 c0 hlx5, kept2 hb6 c1 hlx5, kept2 hb6 c2 hlx5, kept2 hb6 c3 hlx5, kept2 hb6 c4 hlx5, kept2 hb6 c5 hlx5, kept2 hb6 c6 hlx5, kept2 hb6 c7 hlx5, kept2 hb6 a0 hlb5, kept2 hb6 a1 hlb5, kept2 hb6 a2 hlb5, kept2 hb6 a3 hlb5, kept2 hb6 a4 hlb5, kept2 hb6 a5 hlb5, kept2 hb6 a6 hlb5, kept2 hb6 a7 hlb5⟩); have hlb6 : w.heap.size < w6.heap.size := Nat.lt_of_lt_of_le hlb5 hb6.size; have hlx6 : w4.heap.size < w6.heap.size := Nat.lt_of_lt_of_le hlx5 hb6.size; have hr6 := ((show OwnS w6 lo6 m6 Ar6 cr6 rs from ho6.2.2.1).strs.mono (Nat.le_trans (show m6 ≤ hi6 from ho6.2.1) hhi6)); have hw6 := ((show OwnW w6 m6 hi6 Aw6 cw6 ws from ho6.2.2.2).writes.mono hhi6)))
        | ((go_at_call 13; (with_reducible refine (eqEntry_same tm kk tt xx ll yy _ _ nr _ _ rs _ _ nw _ _ ws _ w6 HNR.out ((HX5.out.below (Below.mono (below_undrew hb6) hle5)).mono (Nat.le_of_lt hlx6)) hr6 HNW.out ((HY5.out.below (Below.mono (below_undrew hb6) hle5)).mono (Nat.le_of_lt hlx6)) hw6 hl1 hl2 (Nat.le_refl _)).mono ?_); rintro e w7 ⟨rfl, hb7⟩; have held7 := (show _ ∧ _ ∧ _ ∧ _ ∧ _ ∧ _ ∧ _ ∧ _ ∧ _ ∧ _ ∧ _ ∧ _ ∧ _ ∧ _ ∧ _ ∧ _ from ⟨kept2 hb7 held6.1 hlx6, kept2 hb7 held6.2.1 hlx6, kept2 hb7 held6.2.2.1 hlx6, kept2 hb7 held6.2.2.2.1 hlx6, kept2 hb7 held6.2.2.2.2.1 hlx6, kept2 hb7 held6.2.2.2.2.2.1 hlx6, kept2 hb7 held6.2.2.2.2.2.2.1 hlx6, kept2 hb7 held6.2.2.2.2.2.2.2.1 hlx6, kept2 hb7 held6.2.2.2.2.2.2.2.2.1 hlb6, kept2 hb7 held6.2.2.2.2.2.2.2.2.2.1 hlb6, kept2 hb7 held6.2.2.2.2.2.2.2.2.2.2.1 hlb6, kept2 hb7 held6.2.2.2.2.2.2.2.2.2.2.2.1 hlb6, kept2 hb7 held6.2.2.2.2.2.2.2.2.2.2.2.2.1 hlb6, kept2 hb7 held6.2.2.2.2.2.2.2.2.2.2.2.2.2.1 hlb6, kept2 hb7 held6.2.2.2.2.2.2.2.2.2.2.2.2.2.2.1 hlb6, kept2 hb7 held6.2.2.2.2.2.2.2.2.2.2.2.2.2.2.2 hlb6⟩))))
    have hbf : Below w5.heap.size w5 w7 := (below_undrew hb6).trans (hb7.mono (show w5.heap.size ≤ w6.heap.size from hb6.size))
    have HF := Lib.hid (HB0.out.trans ((HB5.out.trans (hbf.mono HB5.out.size)).mono HB0.out.size))
    clear hbf
    go_wp2
    go_ret
    exact ⟨rfl, HF.out⟩
  · rw [remI_no (by omega)] at HZ
    have HZ' : Hid (Calls Try.prog 9 #[.agg #[.int .i64 tm, .int .i64 kk, .int .i64 tt, .int .i64 xx, .int .i64 ll, .slice Ar nr cr, .slice Aw nw cw, .bool yy], .int .i64 1048576] W0 fun e w' => e = .returned (.int .i64 (-1)) ∧ Below W0.heap.size W0 w') := HZ
    clear hnr hr HZ hs hnw hw hmr hmw hW0 hb0 kn
    go_enter Try.func3, Try.ntmps3
    go_wp2_with fail
    rw [← HW0.out]
    refine HZ'.out.mono ?_
    rintro e w1 ⟨rfl, hb1⟩
    have HF := Lib.hid (HB0.out.trans (hb1.mono HB0.out.size))
    clear hb1
    go_wp2
    go_ret
    exact ⟨rfl, HF.out⟩
end Go.Proofs.Ytkhndofplebcaaa.Hs
