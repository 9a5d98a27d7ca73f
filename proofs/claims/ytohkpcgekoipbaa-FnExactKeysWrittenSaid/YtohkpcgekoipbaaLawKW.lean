/-
  The walk of the law FnExactKeysWritten.
-/
import Derived.Test.YtohkpcgekoipbaaKeysW
import Derived.Test.YtohkpcgekoipbaaMarkS
import Derived.Test.YtohkpcgekoipbaaExact
namespace Go.Proofs.Ytohkpcgekoipbaa
open Go.RowKit CM
set_option linter.unusedVariables false

set_option maxRecDepth 100000 in
set_option maxHeartbeats 8000000 in
theorem keysWritten_walk (w : World) (A0 : Option Addr) (n0 c0 : Nat) (ws0 : List (Int × ByteArray × ByteArray × Int)) (hn0 : ws0.length = n0) (h0 : OpsAt w A0 ws0) (hl0 : n0 ≤ maxLen) :
    Calls Try.prog 5 #[.slice A0 n0 c0] w fun e w' => e = .returned (.bool true) ∧ Below w.heap.size w w' := by
  obtain ⟨hr0, hmx0⟩ := h0
  have HN0 := Lib.hid hn0
  have HS0 := Lib.hid (fun W (hW : Below w.heap.size w W) => hr0.below hW)
  by_cases hs : szOs ws0 ≤ 1048576
  · skip
    have hsm0 := osmall_of (show szOs ws0 ≤ 1048576 by omega)
    have hn01 : n0 ≤ 1048576 := by rw [← hn0]; exact hsm0.1
    have HSM0 := Lib.hid hsm0
    have HT0 := Lib.hid (fun W (hW : Below w.heap.size w W) => toOpS_any A0 n0 c0 ws0 w.heap.size W hn0 (hr0.below hW) hW.size hn01)
    have HZ0 := Lib.hid (fun W (hW : Below w.heap.size w W) => szOpS_any A0 n0 c0 ws0 (1048576) w.heap.size W hn0 (hr0.below hW) hW.size hmx0 (by omega))
    rw [remI_nat (show szOs ws0 ≤ 1048576 by omega)] at HZ0
    obtain ⟨q0, hq0⟩ : ∃ q0, q0 = 1048576 - szOs ws0 := ⟨_, rfl⟩
    rw [← hq0] at HZ0
    have hq00 : (0 : Int) ≤ (q0 : Int) := by omega
    obtain ⟨v, hv⟩ : ∃ v, v = osB ws0 := ⟨_, rfl⟩
    have HVv := Lib.hid hv
    obtain ⟨ks, hks⟩ : ∃ ks, ks = kwL ws0 := ⟨_, rfl⟩
    have HVks := Lib.hid hks
    clear hn0 hr0 hsm0 hmx0 hl0 hq0 hs hv hks
    go_enter Try.func5, Try.ntmps5
    have hz0 := Nat.le_refl w.heap.size
    go_wp2_with fail
    refine (HZ0.out _ (Below.refl w.heap.size w)).mono ?_
    rintro e w1 ⟨rfl, hb1⟩
    have HB1 := Lib.hid ((Below.refl w.heap.size w).trans (hb1.mono (Below.refl w.heap.size w).size))
    have hz1 := hb1.size
    clear hb1
    go_wp2_with fail
    refine (HT0.out _ HB1.out).mono ?_
    rintro e w2 ⟨g2, rfl, hg2, ho2, hb2⟩
    have HB2 := Lib.hid (HB1.out.trans (hb2.mono HB1.out.size))
    have hz2 := hb2.size
    have HOs0_2 := Lib.hid ho2
    clear hg2 ho2
    clear hb2
    have HC3 := Lib.hid (specKeysWritten_any _ n0 n0 ws0 w2.heap.size w2 HN0.out ((HOs0_2.out.ops).mono (by omega)) (Nat.le_refl _) HSM0.out)
    rw [← HVv.out, ← HVks.out] at HC3
    clear HOs0_2
    go_wp2_with fail
    refine HC3.out.mono ?_
    rintro e w3 ⟨Aw0, cw0, Rw0, rfl, hw0, pw0, hb3⟩
    have HB3 := Lib.hid (HB2.out.trans (hb3.mono HB2.out.size))
    have hz3 := hb3.size
    have HW0_3 := Lib.hid hw0
    have PW0 := Lib.hid pw0
    clear hw0 pw0 hb3
    go_wp2_with fail
    refine (HT0.out _ HB3.out).mono ?_
    rintro e w4 ⟨g4, rfl, hg4, ho4, hb4⟩
    have HB4 := Lib.hid (HB3.out.trans (hb4.mono HB3.out.size))
    have hz4 := hb4.size
    have HW0_4 := Lib.hid (HW0_3.out.below (hb4.mono (by omega)))
    have HOx0_4 := Lib.hid ho4
    clear hg4 ho4
    clear hb4
    have HC5 := Lib.hid (implKeysWritten_any _ n0 n0 ws0 w4.heap.size w4 HN0.out ((HOx0_4.out.ops).mono (by omega)) (Nat.le_refl _) HSM0.out)
    rw [← HVv.out, ← HVks.out] at HC5
    go_wp2_with fail
    refine HC5.out.mono ?_
    rintro e w5 ⟨Ag0, cg0, Rg0, rfl, hg0, pg0, lg0, hb5⟩
    obtain rfl : Rg0 = Rw0 := KRes.unique pg0 PW0.out
    have HB5 := Lib.hid (HB4.out.trans (hb5.mono HB4.out.size))
    have hz5 := hb5.size
    have HW0_5 := Lib.hid (HW0_4.out.below (hb5.mono (by omega)))
    have HOx0_5 := Lib.hid (HOx0_4.out.below (hb5.mono (by omega)))
    have HOg0_5 := Lib.hid hg0
    clear hg0 pg0 hb5
    have HE6 := Lib.hid (eqStringS_same Ag0 Aw0 Rg0.length cg0 cw0 Rg0 w5.heap.size w5 rfl (HOg0_5.out.strs.mono (by omega)) (HW0_5.out.mono (by omega)) (Nat.le_refl _) (by omega))
    go_wp2_with fail
    refine HE6.out.mono ?_
    rintro e w6 ⟨rfl, hb6⟩
    have HB6 := Lib.hid (HB5.out.trans (hb6.mono HB5.out.size))
    have hz6 := hb6.size
    have HW0_6 := Lib.hid (HW0_5.out.below (hb6.mono (by omega)))
    have HOx0_6 := Lib.hid (HOx0_5.out.below (hb6.mono (by omega)))
    have HOg0_6 := Lib.hid (HOg0_5.out.below (hb6.mono (by omega)))
    clear hb6
    go_wp2_with fail
    refine (HT0.out _ HB6.out).mono ?_
    rintro e w7 ⟨g7, rfl, hg7, ho7, hb7⟩
    have HB7 := Lib.hid (HB6.out.trans (hb7.mono HB6.out.size))
    have hz7 := hb7.size
    have HW0_7 := Lib.hid (HW0_6.out.below (hb7.mono (by omega)))
    have HOx0_7 := Lib.hid (HOx0_6.out.below (hb7.mono (by omega)))
    have HOg0_7 := Lib.hid (HOg0_6.out.below (hb7.mono (by omega)))
    have HOy7 := Lib.hid ho7
    clear hg7 ho7
    clear hb7
    have HE8 := Lib.hid (eqOpS_same _ _ n0 n0 n0 ws0 w7.heap.size w7 HN0.out (HOx0_7.out.ops.mono (by omega)) HOy7.out.ops (Nat.le_refl _) (by omega))
    go_wp2_with fail
    refine HE8.out.mono ?_
    rintro e w8 ⟨rfl, hb8⟩
    have HB8 := Lib.hid (HB7.out.trans (hb8.mono HB7.out.size))
    have hz8 := hb8.size
    have HW0_8 := Lib.hid (HW0_7.out.below (hb8.mono (by omega)))
    have HOx0_8 := Lib.hid (HOx0_7.out.below (hb8.mono (by omega)))
    have HOg0_8 := Lib.hid (HOg0_7.out.below (hb8.mono (by omega)))
    clear hb8
    have HM9 := Lib.hid (markOpS_any _ n0 n0 (1) _ _ ws0 w8 HN0.out HOx0_8.out (by omega) (by omega))
    go_wp2_with fail
    refine HM9.out.mono ?_
    rintro e w9 ⟨rfl, _, hma9⟩
    have hbk9 := MidA.since hma9 (B := w3.heap.size) (fun y hy => by have := Own.block HOx0_8.out y hy; exact this.1) (by omega)
    have hmi9 := hma9.mid (lo := w3.heap.size) (hi := w4.heap.size) (fun y hy => by have := Own.block HOx0_8.out y hy; exact ⟨this.1, this.2.1⟩)
    have HB9 := Lib.hid (HB8.out.trans (hbk9.mono (by omega)))
    have hz9 := hbk9.size
    have HW0_9 := Lib.hid (HW0_8.out.below (hbk9.mono (by omega)))
    have HOg0_9 := Lib.hid (OwnS.mid HOg0_8.out hmi9 (.inl (by omega)))
    clear hma9 hbk9 hmi9
    have hk9 : (0 : Int) ≤ ((1 + 4 * n0 : Nat) : Int) := by omega
    have HE10 := Lib.hid (eqStringS_same Ag0 Aw0 Rg0.length cg0 cw0 Rg0 w9.heap.size w9 rfl (HOg0_9.out.strs.mono (by omega)) (HW0_9.out.mono (by omega)) (Nat.le_refl _) (by omega))
    go_wp2_with fail
    refine HE10.out.mono ?_
    rintro e w10 ⟨rfl, hb10⟩
    have HB10 := Lib.hid (HB9.out.trans (hb10.mono HB9.out.size))
    have hz10 := hb10.size
    have HW0_10 := Lib.hid (HW0_9.out.below (hb10.mono (by omega)))
    have HOg0_10 := Lib.hid (HOg0_9.out.below (hb10.mono (by omega)))
    clear hb10
    have HM11 := Lib.hid (markStringS_any Ag0 Rg0.length cg0 (1) _ _ Rg0 w10 rfl HOg0_10.out (by omega) (by omega))
    go_wp2_with fail
    refine HM11.out.mono ?_
    rintro e w11 ⟨rfl, hmk11, hma11⟩
    have hbk11 := MidA.since hma11 (B := w4.heap.size) (fun y hy => by have := Own.block HOg0_10.out y hy; exact this.1) (by omega)
    have HB11 := Lib.hid (HB10.out.trans (hbk11.mono (by omega)))
    have hz11 := hbk11.size
    have HW0_11 := Lib.hid (HW0_10.out.below (hbk11.mono (by omega)))
    have HOg0_11 := Lib.hid hmk11
    clear hma11 hbk11 hmk11
    have hmp : (0 : Int) ≤ ((1 + Rg0.length : Nat) : Int) := by omega
    have HH12 := Lib.hid (heldStringS_any Ag0 Rg0.length cg0 (1) w11.heap.size w11 ((show OwnS w11 _ _ Ag0 cg0 (mStrs (1) Rg0.length) from HOg0_11.out).strs.mono (by omega)) (Nat.le_refl _) (by omega) (by omega))
    go_wp2_with fail
    refine HH12.out.mono ?_
    rintro e w12 ⟨rfl, hb12⟩
    have HB12 := Lib.hid (HB11.out.trans (hb12.mono HB11.out.size))
    have hz12 := hb12.size
    have HW0_12 := Lib.hid (HW0_11.out.below (hb12.mono (by omega)))
    have HOg0_12 := Lib.hid (HOg0_11.out.below (hb12.mono (by omega)))
    clear hb12
    go_wp2_with fail
    refine (HT0.out _ HB12.out).mono ?_
    rintro e w13 ⟨g13, rfl, hg13, ho13, hb13⟩
    have HB13 := Lib.hid (HB12.out.trans (hb13.mono HB12.out.size))
    have hz13 := hb13.size
    have HW0_13 := Lib.hid (HW0_12.out.below (hb13.mono (by omega)))
    have HOg0_13 := Lib.hid (HOg0_12.out.below (hb13.mono (by omega)))
    have HOz0_13 := Lib.hid ho13
    clear hg13 ho13
    clear hb13
    have HC14 := Lib.hid (implKeysWritten_any _ n0 n0 ws0 w13.heap.size w13 HN0.out ((HOz0_13.out.ops).mono (by omega)) (Nat.le_refl _) HSM0.out)
    rw [← HVv.out, ← HVks.out] at HC14
    clear HOz0_13
    go_wp2_with fail
    refine HC14.out.mono ?_
    rintro e w14 ⟨Ah0, ch0, Rh0, rfl, hg0, pg0, lh0, hb14⟩
    obtain rfl : Rh0 = Rg0 := KRes.unique pg0 PW0.out
    have HB14 := Lib.hid (HB13.out.trans (hb14.mono HB13.out.size))
    have hz14 := hb14.size
    have HW0_14 := Lib.hid (HW0_13.out.below (hb14.mono (by omega)))
    have HOg0_14 := Lib.hid (HOg0_13.out.below (hb14.mono (by omega)))
    have HOh0_14 := Lib.hid hg0
    clear hg0 pg0 hb14
    have HE15 := Lib.hid (eqStringS_same Ah0 Aw0 Rh0.length ch0 cw0 Rh0 w14.heap.size w14 rfl (HOh0_14.out.strs.mono (by omega)) (HW0_14.out.mono (by omega)) (Nat.le_refl _) (by omega))
    go_wp2_with fail
    refine HE15.out.mono ?_
    rintro e w15 ⟨rfl, hb15⟩
    have HB15 := Lib.hid (HB14.out.trans (hb15.mono HB14.out.size))
    have hz15 := hb15.size
    have HW0_15 := Lib.hid (HW0_14.out.below (hb15.mono (by omega)))
    have HOg0_15 := Lib.hid (HOg0_14.out.below (hb15.mono (by omega)))
    have HOh0_15 := Lib.hid (HOh0_14.out.below (hb15.mono (by omega)))
    clear hb15
    have HH16 := Lib.hid (heldStringS_any Ag0 Rh0.length cg0 (1) w15.heap.size w15 ((show OwnS w15 _ _ Ag0 cg0 (mStrs (1) Rh0.length) from HOg0_15.out).strs.mono (by omega)) (Nat.le_refl _) (by omega) (by omega))
    go_wp2_with fail
    refine HH16.out.mono ?_
    rintro e w16 ⟨rfl, hb16⟩
    have HB16 := Lib.hid (HB15.out.trans (hb16.mono HB15.out.size))
    have hz16 := hb16.size
    have HW0_16 := Lib.hid (HW0_15.out.below (hb16.mono (by omega)))
    have HOg0_16 := Lib.hid (HOg0_15.out.below (hb16.mono (by omega)))
    have HOh0_16 := Lib.hid (HOh0_15.out.below (hb16.mono (by omega)))
    clear hb16
    go_wp2
    go_ret
    exact ⟨rfl, HB16.out⟩
  · skip
    have HZ0 := Lib.hid (fun W (hW : Below w.heap.size w W) => szOpS_any A0 n0 c0 ws0 (1048576) w.heap.size W hn0 (hr0.below hW) hW.size hmx0 (by omega))
    rw [remI_no (show 1048576 < szOs ws0 by omega)] at HZ0
    clear hn0 hr0 hmx0 hl0 hs
    go_enter Try.func5, Try.ntmps5
    go_wp2_with fail
    refine (HZ0.out _ (Below.refl w.heap.size w)).mono ?_
    rintro e v0 ⟨rfl, hb0⟩
    have HX0 := Lib.hid ((Below.refl w.heap.size w).trans (hb0.mono (Below.refl w.heap.size w).size))
    clear hb0
    go_wp2
    go_ret
    exact ⟨rfl, HX0.out⟩
end Go.Proofs.Ytohkpcgekoipbaa
