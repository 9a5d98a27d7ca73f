/-
  The walk of the law FnExactPutRows.
-/
import Derived.Test.YtohkpcgekoipbaaPutRS
import Derived.Test.YtohkpcgekoipbaaHeld
import Derived.Test.YtohkpcgekoipbaaSeen
import Derived.Test.YtohkpcgekoipbaaEq
import Derived.Test.YtohkpcgekoipbaaSz
import Derived.Test.YtohkpcgekoipbaaExact
namespace Go.Proofs.Ytohkpcgekoipbaa
open Go.RowKit CM
set_option linter.unusedVariables false

set_option maxRecDepth 100000 in
set_option maxHeartbeats 8000000 in
theorem putRows_walk (w : World) (A0 : Option Addr) (n0 c0 : Nat) (ws0 : List (ByteArray × ByteArray × Bool)) (hn0 : ws0.length = n0) (h0 : WritesAt w A0 ws0) (hl0 : n0 ≤ maxLen) (A1 : Option Addr) (n1 c1 : Nat) (ws1 : List (ByteArray × ByteArray × Bool)) (hn1 : ws1.length = n1) (h1 : WritesAt w A1 ws1) (hl1 : n1 ≤ maxLen) :
    Calls Try.prog 6 #[.slice A0 n0 c0, .slice A1 n1 c1] w fun e w' => e = .returned (.bool true) ∧ Below w.heap.size w w' := by
  obtain ⟨hr0, hmx0⟩ := h0
  have HN0 := Lib.hid hn0
  have HS0 := Lib.hid (fun W (hW : Below w.heap.size w W) => hr0.below hW)
  obtain ⟨hr1, hmx1⟩ := h1
  have HN1 := Lib.hid hn1
  have HS1 := Lib.hid (fun W (hW : Below w.heap.size w W) => hr1.below hW)
  by_cases hs : szWs ws0 + szWs ws1 ≤ 1048576
  · skip
    have hsm0 := wsmall_of (show szWs ws0 ≤ 1048576 by omega)
    have hn01 : n0 ≤ 1048576 := by rw [← hn0]; exact hsm0.1
    have HSM0 := Lib.hid hsm0
    have HT0 := Lib.hid (fun W (hW : Below w.heap.size w W) => toWriteS_any A0 n0 c0 ws0 w.heap.size W hn0 (hr0.below hW) hW.size hn01)
    have hsm1 := wsmall_of (show szWs ws1 ≤ 1048576 by omega)
    have hn11 : n1 ≤ 1048576 := by rw [← hn1]; exact hsm1.1
    have HSM1 := Lib.hid hsm1
    have HT1 := Lib.hid (fun W (hW : Below w.heap.size w W) => toWriteS_any A1 n1 c1 ws1 w.heap.size W hn1 (hr1.below hW) hW.size hn11)
    have HZ0 := Lib.hid (fun W (hW : Below w.heap.size w W) => szWriteS_any A0 n0 c0 ws0 (1048576) w.heap.size W hn0 (hr0.below hW) hW.size hmx0 (by omega))
    rw [remI_nat (show szWs ws0 ≤ 1048576 by omega)] at HZ0
    have HZ1 := Lib.hid (fun W (hW : Below w.heap.size w W) => szWriteS_any A1 n1 c1 ws1 (1048576 - szWs ws0) w.heap.size W hn1 (hr1.below hW) hW.size hmx1 (by omega))
    rw [remI_nat (show szWs ws1 ≤ 1048576 - szWs ws0 by omega)] at HZ1
    obtain ⟨q0, hq0⟩ : ∃ q0, q0 = 1048576 - szWs ws0 := ⟨_, rfl⟩
    rw [← hq0] at HZ0 HZ1
    obtain ⟨q1, hq1⟩ : ∃ q1, q1 = q0 - szWs ws1 := ⟨_, rfl⟩
    rw [← hq1] at HZ1
    have hq00 : (0 : Int) ≤ (q0 : Int) := by omega
    have hq10 : (0 : Int) ≤ (q1 : Int) := by omega
    obtain ⟨v, hv⟩ : ∃ v, v = prB ws0 ws1 := ⟨_, rfl⟩
    have HVv := Lib.hid hv
    obtain ⟨ks, hks⟩ : ∃ ks, ks = prL ws0 ws1 := ⟨_, rfl⟩
    have HVks := Lib.hid hks
    clear hn0 hr0 hsm0 hmx0 hl0 hq0 hn1 hr1 hsm1 hmx1 hl1 hq1 hs hv hks
    go_enter Try.func6, Try.ntmps6
    have hz0 := Nat.le_refl w.heap.size
    go_wp2_with fail
    refine (HZ0.out _ (Below.refl w.heap.size w)).mono ?_
    rintro e w1 ⟨rfl, hb1⟩
    have HB1 := Lib.hid ((Below.refl w.heap.size w).trans (hb1.mono (Below.refl w.heap.size w).size))
    have hz1 := hb1.size
    clear hb1
    go_wp2_with fail
    refine (HZ1.out _ HB1.out).mono ?_
    rintro e w2 ⟨rfl, hb2⟩
    have HB2 := Lib.hid (HB1.out.trans (hb2.mono HB1.out.size))
    have hz2 := hb2.size
    clear hb2
    go_wp2_with fail
    refine (HT0.out _ HB2.out).mono ?_
    rintro e w3 ⟨g3, rfl, hg3, ho3, hb3⟩
    have HB3 := Lib.hid (HB2.out.trans (hb3.mono HB2.out.size))
    have hz3 := hb3.size
    have HOs0_3 := Lib.hid ho3
    clear hg3 ho3
    clear hb3
    go_wp2_with fail
    refine (HT1.out _ HB3.out).mono ?_
    rintro e w4 ⟨g4, rfl, hg4, ho4, hb4⟩
    have HB4 := Lib.hid (HB3.out.trans (hb4.mono HB3.out.size))
    have hz4 := hb4.size
    have HOs0_4 := Lib.hid (HOs0_3.out.below (hb4.mono (by omega)))
    have HOs1_4 := Lib.hid ho4
    clear hg4 ho4
    clear hb4
    have HC5 := Lib.hid (specPutRows_any _ n0 n0 ws0 _ n1 n1 ws1 w4.heap.size w4 HN0.out HN1.out ((HOs0_4.out.writes).mono (by omega)) ((HOs1_4.out.writes).mono (by omega)) (Nat.le_refl _) HSM0.out HSM1.out)
    rw [← HVv.out, ← HVks.out] at HC5
    clear HOs0_4 HOs1_4
    go_wp2_with fail
    refine HC5.out.mono ?_
    rintro e w5 ⟨Aw0, cw0, Rw0, rfl, hw0, pw0, hb5⟩
    have HB5 := Lib.hid (HB4.out.trans (hb5.mono HB4.out.size))
    have hz5 := hb5.size
    have HW0_5 := Lib.hid hw0
    have PW0 := Lib.hid pw0
    clear hw0 pw0 hb5
    go_wp2_with fail
    refine (HT0.out _ HB5.out).mono ?_
    rintro e w6 ⟨g6, rfl, hg6, ho6, hb6⟩
    have HB6 := Lib.hid (HB5.out.trans (hb6.mono HB5.out.size))
    have hz6 := hb6.size
    have HW0_6 := Lib.hid (HW0_5.out.below (hb6.mono (by omega)))
    have HOx0_6 := Lib.hid ho6
    clear hg6 ho6
    clear hb6
    go_wp2_with fail
    refine (HT1.out _ HB6.out).mono ?_
    rintro e w7 ⟨g7, rfl, hg7, ho7, hb7⟩
    have HB7 := Lib.hid (HB6.out.trans (hb7.mono HB6.out.size))
    have hz7 := hb7.size
    have HW0_7 := Lib.hid (HW0_6.out.below (hb7.mono (by omega)))
    have HOx0_7 := Lib.hid (HOx0_6.out.below (hb7.mono (by omega)))
    have HOx1_7 := Lib.hid ho7
    clear hg7 ho7
    clear hb7
    have HC8 := Lib.hid (implPutRows_any _ n0 n0 ws0 _ n1 n1 ws1 w7.heap.size w7 HN0.out HN1.out ((HOx0_7.out.writes).mono (by omega)) ((HOx1_7.out.writes).mono (by omega)) (Nat.le_refl _) HSM0.out HSM1.out)
    rw [← HVv.out, ← HVks.out] at HC8
    go_wp2_with fail
    refine HC8.out.mono ?_
    rintro e w8 ⟨Ag0, cg0, Rg0, rfl, hg0, pg0, lg0, hb8⟩
    obtain rfl : Rg0 = Rw0 := IsL.unique pg0 PW0.out
    have HB8 := Lib.hid (HB7.out.trans (hb8.mono HB7.out.size))
    have hz8 := hb8.size
    have HW0_8 := Lib.hid (HW0_7.out.below (hb8.mono (by omega)))
    have HOx0_8 := Lib.hid (HOx0_7.out.below (hb8.mono (by omega)))
    have HOx1_8 := Lib.hid (HOx1_7.out.below (hb8.mono (by omega)))
    have HOg0_8 := Lib.hid hg0
    clear hg0 pg0 hb8
    have HE9 := Lib.hid (eqWriteS_same Ag0 Aw0 Rg0.length cg0 cw0 Rg0 w8.heap.size w8 rfl (HOg0_8.out.writes.mono (by omega)) (HW0_8.out.mono (by omega)) (Nat.le_refl _) (by omega))
    go_wp2_with fail
    refine HE9.out.mono ?_
    rintro e w9 ⟨rfl, hb9⟩
    have HB9 := Lib.hid (HB8.out.trans (hb9.mono HB8.out.size))
    have hz9 := hb9.size
    have HW0_9 := Lib.hid (HW0_8.out.below (hb9.mono (by omega)))
    have HOx0_9 := Lib.hid (HOx0_8.out.below (hb9.mono (by omega)))
    have HOx1_9 := Lib.hid (HOx1_8.out.below (hb9.mono (by omega)))
    have HOg0_9 := Lib.hid (HOg0_8.out.below (hb9.mono (by omega)))
    clear hb9
    go_wp2_with fail
    refine (HT0.out _ HB9.out).mono ?_
    rintro e w10 ⟨g10, rfl, hg10, ho10, hb10⟩
    have HB10 := Lib.hid (HB9.out.trans (hb10.mono HB9.out.size))
    have hz10 := hb10.size
    have HW0_10 := Lib.hid (HW0_9.out.below (hb10.mono (by omega)))
    have HOx0_10 := Lib.hid (HOx0_9.out.below (hb10.mono (by omega)))
    have HOx1_10 := Lib.hid (HOx1_9.out.below (hb10.mono (by omega)))
    have HOg0_10 := Lib.hid (HOg0_9.out.below (hb10.mono (by omega)))
    have HOy10 := Lib.hid ho10
    clear hg10 ho10
    clear hb10
    have HE11 := Lib.hid (eqWriteS_same _ _ n0 n0 n0 ws0 w10.heap.size w10 HN0.out (HOx0_10.out.writes.mono (by omega)) HOy10.out.writes (Nat.le_refl _) (by omega))
    go_wp2_with fail
    refine HE11.out.mono ?_
    rintro e w11 ⟨rfl, hb11⟩
    have HB11 := Lib.hid (HB10.out.trans (hb11.mono HB10.out.size))
    have hz11 := hb11.size
    have HW0_11 := Lib.hid (HW0_10.out.below (hb11.mono (by omega)))
    have HOx0_11 := Lib.hid (HOx0_10.out.below (hb11.mono (by omega)))
    have HOx1_11 := Lib.hid (HOx1_10.out.below (hb11.mono (by omega)))
    have HOg0_11 := Lib.hid (HOg0_10.out.below (hb11.mono (by omega)))
    clear hb11
    go_wp2_with fail
    refine (HT1.out _ HB11.out).mono ?_
    rintro e w12 ⟨g12, rfl, hg12, ho12, hb12⟩
    have HB12 := Lib.hid (HB11.out.trans (hb12.mono HB11.out.size))
    have hz12 := hb12.size
    have HW0_12 := Lib.hid (HW0_11.out.below (hb12.mono (by omega)))
    have HOx0_12 := Lib.hid (HOx0_11.out.below (hb12.mono (by omega)))
    have HOx1_12 := Lib.hid (HOx1_11.out.below (hb12.mono (by omega)))
    have HOg0_12 := Lib.hid (HOg0_11.out.below (hb12.mono (by omega)))
    have HOy12 := Lib.hid ho12
    clear hg12 ho12
    clear hb12
    have HE13 := Lib.hid (eqWriteS_same _ _ n1 n1 n1 ws1 w12.heap.size w12 HN1.out (HOx1_12.out.writes.mono (by omega)) HOy12.out.writes (Nat.le_refl _) (by omega))
    go_wp2_with fail
    refine HE13.out.mono ?_
    rintro e w13 ⟨rfl, hb13⟩
    have HB13 := Lib.hid (HB12.out.trans (hb13.mono HB12.out.size))
    have hz13 := hb13.size
    have HW0_13 := Lib.hid (HW0_12.out.below (hb13.mono (by omega)))
    have HOx0_13 := Lib.hid (HOx0_12.out.below (hb13.mono (by omega)))
    have HOx1_13 := Lib.hid (HOx1_12.out.below (hb13.mono (by omega)))
    have HOg0_13 := Lib.hid (HOg0_12.out.below (hb13.mono (by omega)))
    clear hb13
    have HM14 := Lib.hid (markWriteS_any _ n0 n0 (1) _ _ ws0 w13 HN0.out HOx0_13.out (by omega) (by omega))
    go_wp2_with fail
    refine HM14.out.mono ?_
    rintro e w14 ⟨rfl, _, hma14⟩
    have hbk14 := MidA.since hma14 (B := w5.heap.size) (fun y hy => by have := Own.block HOx0_13.out y hy; exact this.1) (by omega)
    have hmi14 := hma14.mid (lo := w5.heap.size) (hi := w6.heap.size) (fun y hy => by have := Own.block HOx0_13.out y hy; exact ⟨this.1, this.2.1⟩)
    have HB14 := Lib.hid (HB13.out.trans (hbk14.mono (by omega)))
    have hz14 := hbk14.size
    have HW0_14 := Lib.hid (HW0_13.out.below (hbk14.mono (by omega)))
    have HOx1_14 := Lib.hid (OwnW.mid HOx1_13.out hmi14 (.inl (by omega)))
    have HOg0_14 := Lib.hid (OwnW.mid HOg0_13.out hmi14 (.inl (by omega)))
    clear hma14 hbk14 hmi14
    have hk14 : (0 : Int) ≤ ((1 + 3 * n0 : Nat) : Int) := by omega
    have HM15 := Lib.hid (markWriteS_any _ n1 n1 (1 + 3 * n0) _ _ ws1 w14 HN1.out HOx1_14.out (by omega) (by omega))
    go_wp2_with fail
    refine HM15.out.mono ?_
    rintro e w15 ⟨rfl, _, hma15⟩
    have hbk15 := MidA.since hma15 (B := w6.heap.size) (fun y hy => by have := Own.block HOx1_14.out y hy; exact this.1) (by omega)
    have hmi15 := hma15.mid (lo := w6.heap.size) (hi := w7.heap.size) (fun y hy => by have := Own.block HOx1_14.out y hy; exact ⟨this.1, this.2.1⟩)
    have HB15 := Lib.hid (HB14.out.trans (hbk15.mono (by omega)))
    have hz15 := hbk15.size
    have HW0_15 := Lib.hid (HW0_14.out.below (hbk15.mono (by omega)))
    have HOg0_15 := Lib.hid (OwnW.mid HOg0_14.out hmi15 (.inl (by omega)))
    clear hma15 hbk15 hmi15
    have hk15 : (0 : Int) ≤ ((1 + 3 * n0 + 3 * n1 : Nat) : Int) := by omega
    have HE16 := Lib.hid (eqWriteS_same Ag0 Aw0 Rg0.length cg0 cw0 Rg0 w15.heap.size w15 rfl (HOg0_15.out.writes.mono (by omega)) (HW0_15.out.mono (by omega)) (Nat.le_refl _) (by omega))
    go_wp2_with fail
    refine HE16.out.mono ?_
    rintro e w16 ⟨rfl, hb16⟩
    have HB16 := Lib.hid (HB15.out.trans (hb16.mono HB15.out.size))
    have hz16 := hb16.size
    have HW0_16 := Lib.hid (HW0_15.out.below (hb16.mono (by omega)))
    have HOg0_16 := Lib.hid (HOg0_15.out.below (hb16.mono (by omega)))
    clear hb16
    have HM17 := Lib.hid (markWriteS_any Ag0 Rg0.length cg0 (1) _ _ Rg0 w16 rfl HOg0_16.out (by omega) (by omega))
    go_wp2_with fail
    refine HM17.out.mono ?_
    rintro e w17 ⟨rfl, hmk17, hma17⟩
    have hbk17 := MidA.since hma17 (B := w7.heap.size) (fun y hy => by have := Own.block HOg0_16.out y hy; exact this.1) (by omega)
    have HB17 := Lib.hid (HB16.out.trans (hbk17.mono (by omega)))
    have hz17 := hbk17.size
    have HW0_17 := Lib.hid (HW0_16.out.below (hbk17.mono (by omega)))
    have HOg0_17 := Lib.hid hmk17
    clear hma17 hbk17 hmk17
    have hmp : (0 : Int) ≤ ((1 + 3 * Rg0.length : Nat) : Int) := by omega
    have HH18 := Lib.hid (heldWriteS_any Ag0 Rg0.length cg0 (1) w17.heap.size w17 ((show OwnW w17 _ _ Ag0 cg0 (mWrs (1) Rg0.length) from HOg0_17.out).writes.mono (by omega)) (Nat.le_refl _) (by omega) (by omega))
    go_wp2_with fail
    refine HH18.out.mono ?_
    rintro e w18 ⟨rfl, hb18⟩
    have HB18 := Lib.hid (HB17.out.trans (hb18.mono HB17.out.size))
    have hz18 := hb18.size
    have HW0_18 := Lib.hid (HW0_17.out.below (hb18.mono (by omega)))
    have HOg0_18 := Lib.hid (HOg0_17.out.below (hb18.mono (by omega)))
    clear hb18
    go_wp2_with fail
    refine (HT0.out _ HB18.out).mono ?_
    rintro e w19 ⟨g19, rfl, hg19, ho19, hb19⟩
    have HB19 := Lib.hid (HB18.out.trans (hb19.mono HB18.out.size))
    have hz19 := hb19.size
    have HW0_19 := Lib.hid (HW0_18.out.below (hb19.mono (by omega)))
    have HOg0_19 := Lib.hid (HOg0_18.out.below (hb19.mono (by omega)))
    have HOz0_19 := Lib.hid ho19
    clear hg19 ho19
    clear hb19
    go_wp2_with fail
    refine (HT1.out _ HB19.out).mono ?_
    rintro e w20 ⟨g20, rfl, hg20, ho20, hb20⟩
    have HB20 := Lib.hid (HB19.out.trans (hb20.mono HB19.out.size))
    have hz20 := hb20.size
    have HW0_20 := Lib.hid (HW0_19.out.below (hb20.mono (by omega)))
    have HOg0_20 := Lib.hid (HOg0_19.out.below (hb20.mono (by omega)))
    have HOz0_20 := Lib.hid (HOz0_19.out.below (hb20.mono (by omega)))
    have HOz1_20 := Lib.hid ho20
    clear hg20 ho20
    clear hb20
    have HC21 := Lib.hid (implPutRows_any _ n0 n0 ws0 _ n1 n1 ws1 w20.heap.size w20 HN0.out HN1.out ((HOz0_20.out.writes).mono (by omega)) ((HOz1_20.out.writes).mono (by omega)) (Nat.le_refl _) HSM0.out HSM1.out)
    rw [← HVv.out, ← HVks.out] at HC21
    clear HOz0_20 HOz1_20
    go_wp2_with fail
    refine HC21.out.mono ?_
    rintro e w21 ⟨Ah0, ch0, Rh0, rfl, hg0, pg0, lh0, hb21⟩
    obtain rfl : Rh0 = Rg0 := IsL.unique pg0 PW0.out
    have HB21 := Lib.hid (HB20.out.trans (hb21.mono HB20.out.size))
    have hz21 := hb21.size
    have HW0_21 := Lib.hid (HW0_20.out.below (hb21.mono (by omega)))
    have HOg0_21 := Lib.hid (HOg0_20.out.below (hb21.mono (by omega)))
    have HOh0_21 := Lib.hid hg0
    clear hg0 pg0 hb21
    have HE22 := Lib.hid (eqWriteS_same Ah0 Aw0 Rh0.length ch0 cw0 Rh0 w21.heap.size w21 rfl (HOh0_21.out.writes.mono (by omega)) (HW0_21.out.mono (by omega)) (Nat.le_refl _) (by omega))
    go_wp2_with fail
    refine HE22.out.mono ?_
    rintro e w22 ⟨rfl, hb22⟩
    have HB22 := Lib.hid (HB21.out.trans (hb22.mono HB21.out.size))
    have hz22 := hb22.size
    have HW0_22 := Lib.hid (HW0_21.out.below (hb22.mono (by omega)))
    have HOg0_22 := Lib.hid (HOg0_21.out.below (hb22.mono (by omega)))
    have HOh0_22 := Lib.hid (HOh0_21.out.below (hb22.mono (by omega)))
    clear hb22
    have HH23 := Lib.hid (heldWriteS_any Ag0 Rh0.length cg0 (1) w22.heap.size w22 ((show OwnW w22 _ _ Ag0 cg0 (mWrs (1) Rh0.length) from HOg0_22.out).writes.mono (by omega)) (Nat.le_refl _) (by omega) (by omega))
    go_wp2_with fail
    refine HH23.out.mono ?_
    rintro e w23 ⟨rfl, hb23⟩
    have HB23 := Lib.hid (HB22.out.trans (hb23.mono HB22.out.size))
    have hz23 := hb23.size
    have HW0_23 := Lib.hid (HW0_22.out.below (hb23.mono (by omega)))
    have HOg0_23 := Lib.hid (HOg0_22.out.below (hb23.mono (by omega)))
    have HOh0_23 := Lib.hid (HOh0_22.out.below (hb23.mono (by omega)))
    clear hb23
    go_wp2
    go_ret
    exact ⟨rfl, HB23.out⟩
  · skip
    by_cases hf0 : szWs ws0 ≤ 1048576
    · skip
      have HZ0 := Lib.hid (fun W (hW : Below w.heap.size w W) => szWriteS_any A0 n0 c0 ws0 (1048576) w.heap.size W hn0 (hr0.below hW) hW.size hmx0 (by omega))
      rw [remI_nat (show szWs ws0 ≤ 1048576 by omega)] at HZ0
      have HZ1 := Lib.hid (fun W (hW : Below w.heap.size w W) => szWriteS_any A1 n1 c1 ws1 (1048576 - szWs ws0) w.heap.size W hn1 (hr1.below hW) hW.size hmx1 (by omega))
      rw [remI_no (show 1048576 - szWs ws0 < szWs ws1 by omega)] at HZ1
      obtain ⟨q0, hq0⟩ : ∃ q0, q0 = 1048576 - szWs ws0 := ⟨_, rfl⟩
      rw [← hq0] at HZ0 HZ1
      have hq00 : (0 : Int) ≤ (q0 : Int) := by omega
      clear hn0 hr0 hmx0 hl0 hn1 hr1 hmx1 hl1 hs hf0 hq0
      go_enter Try.func6, Try.ntmps6
      go_wp2_with fail
      refine (HZ0.out _ (Below.refl w.heap.size w)).mono ?_
      rintro e v0 ⟨rfl, hb0⟩
      have HX0 := Lib.hid ((Below.refl w.heap.size w).trans (hb0.mono (Below.refl w.heap.size w).size))
      clear hb0
      go_wp2_with fail
      refine (HZ1.out _ HX0.out).mono ?_
      rintro e v1 ⟨rfl, hb1⟩
      have HX1 := Lib.hid (HX0.out.trans (hb1.mono HX0.out.size))
      clear hb1
      go_wp2
      go_ret
      exact ⟨rfl, HX1.out⟩
    · skip
      have HZ0 := Lib.hid (fun W (hW : Below w.heap.size w W) => szWriteS_any A0 n0 c0 ws0 (1048576) w.heap.size W hn0 (hr0.below hW) hW.size hmx0 (by omega))
      rw [remI_no (show 1048576 < szWs ws0 by omega)] at HZ0
      clear hn0 hr0 hmx0 hl0 hn1 hr1 hmx1 hl1 hs hf0
      go_enter Try.func6, Try.ntmps6
      go_wp2_with fail
      refine (HZ0.out _ (Below.refl w.heap.size w)).mono ?_
      rintro e v0 ⟨rfl, hb0⟩
      have HX0 := Lib.hid ((Below.refl w.heap.size w).trans (hb0.mono (Below.refl w.heap.size w).size))
      clear hb0
      go_wp2
      go_ret
      exact ⟨rfl, HX0.out⟩
end Go.Proofs.Ytohkpcgekoipbaa
