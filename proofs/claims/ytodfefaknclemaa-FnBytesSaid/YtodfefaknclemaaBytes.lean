/-
  The walk of the law FnBytes.
-/
import Derived.Test.YtodfefaknclemaaBoth
import Derived.Test.YtodfefaknclemaaSealsParts
import Derived.Deep.RegionWith
namespace Go.Proofs.Ytodfefaknclemaa
open Go.RowKit
set_option linter.unusedVariables false

theorem below_drewN {B : Nat} {a w : World} (h : Below B a w) (n : Nat) : Below B a (w.drewN n) := ⟨h.os, h.tape, h.output, h.size, h.block⟩

set_option maxRecDepth 100000 in
set_option maxHeartbeats 8000000 in
theorem bytesWalk (A B : Option Addr) (n1 c1 n2 c2 : Nat) (l1 l2 : List UInt8) (w : World) (hn1 : l1.length = n1) (hn2 : l2.length = n2) (hm1 : n1 ≤ maxLen) (hm2 : n2 ≤ maxLen) (h1 : BytesAt w A l1) (h2 : BytesAt w B l2) :
    Calls Try.prog 3 #[.slice A n1 c1, .slice B n2 c2] w fun e w' => e = .returned (.bool true) ∧ Below w.heap.size w w' := by
  by_cases hbig : 1048576 < n1 + n2
  · clear h1 h2 hn1 hn2
    go_enter Try.func3, Try.ntmps3
    go_wp2_with fail
    refine (big_yes A B n1 c1 n2 c2 _ hm1 hm2 hbig).mono ?_
    rintro e w' ⟨rfl, rfl⟩
    go_wp2
    go_ret
    exact ⟨rfl, Below.refl _ _⟩
  · have hl1 : n1 ≤ 1048576 := by omega
    have hl2 : n2 ≤ 1048576 := by omega
    have hsum : n1 + n2 ≤ 1048576 := by omega
    have H1 := Lib.hid h1
    have H2 := Lib.hid h2
    have HN1 := Lib.hid hn1
    have HN2 := Lib.hid hn2
    clear hm1 hm2 hbig h1 h2 hn1 hn2
    go_enter Try.func3, Try.ntmps3
    go_wp2_with fail
    refine (big_no A B n1 c1 n2 c2 _ hsum).mono ?_
    rintro e w' ⟨rfl, rfl⟩
    go_wp2_with fail
    refine (drawNumBytes_any A n1 c1 l1 _ HN1.out H1.out hl1).mono ?_
    rintro e w1 ⟨n, _, _, rfl, hb1⟩
    have hM1 := H2.out.below hb1
    have hA1 := H1.out.below hb1
    obtain ⟨b, ok1, hI, hS, hY⟩ := numBoth n
    unfold StrTuple at hI hS
    have HI1 := Lib.hid hI
    have HS1 := Lib.hid hS
    have HY1 := Lib.hid hY
    clear hI hS hY
    go_wp2_with fail
    refine (HI1.out _).mono ?_
    rintro e w2 ⟨rfl, hb2⟩
    have hM2 := hM1.below hb2
    have hA2 := hA1.below hb2
    have hB2 := hb1.trans (hb2.mono hb1.size)
    clear hM1 hA1 hb2
    go_wp2_with fail
    refine (HS1.out _).mono ?_
    rintro e w3 ⟨rfl, hb3⟩
    have hM3 := hM2.below hb3
    have hA3 := hA2.below hb3
    have hB3 := hB2.trans (hb3.mono hB2.size)
    clear hM2 hA2 hb3 hB2
    go_wp2_with fail
    refine (drawTextBytes_any A n1 c1 l1 _ HN1.out hA3 hl1).mono ?_
    rintro e w4 ⟨s, rfl, hs62, hb4⟩
    have hM4 := hM3.below hb4
    have hA4 := hA3.below hb4
    have hB4 := hB3.trans (hb4.mono hB3.size)
    clear hM3 hA3 hb4 hB3
    obtain ⟨c, ok2, hI, hS, hY⟩ := textBoth s (by unfold maxLen; omega)
    unfold StrTuple at hI hS
    have HI2 := Lib.hid hI
    have HS2 := Lib.hid hS
    have HY2 := Lib.hid hY
    clear hI hS hY hs62
    go_wp2_with fail
    refine (HI2.out _).mono ?_
    rintro e w5 ⟨rfl, hb5⟩
    have hM5 := hM4.below hb5
    have hA5 := hA4.below hb5
    have hB5 := hB4.trans (hb5.mono hB4.size)
    clear hM4 hA4 hb5 hB4
    go_wp2_with fail
    refine (HS2.out _).mono ?_
    rintro e w6 ⟨rfl, hb6⟩
    have hM6 := hM5.below hb6
    have hA6 := hA5.below hb6
    have hB6 := hB5.trans (hb6.mono hB5.size)
    clear hM5 hA5 hb6 hB5
    go_wp2_with fail
    refine (drawTextsBytes_any A n1 c1 l1 _ HN1.out hA6 hl1).mono ?_
    rintro e w7 ⟨xs, Ax, cx, rfl, hx7, hx41, hx61, hb7⟩
    have hM7 := hM6.below hb7
    have hB7 := hB6.trans (hb7.mono hB6.size)
    clear hM6 hA6 hb7 hB6
    obtain ⟨d, ok3, hI, hS, hY⟩ := textsBoth xs xs.length rfl (by omega) (fun x h => by have := hx61 x h; omega)
    unfold StrTuple at hI hS
    have HI3 := Lib.hid hI
    have HS3 := Lib.hid hS
    have HY3 := Lib.hid hY
    have HX41 := Lib.hid hx41
    clear hI hS hY hx61 hx41
    go_wp2_with fail
    refine (HI3.out _ Ax cx hx7).mono ?_
    rintro e w8 ⟨rfl, hb8⟩
    have hM8 := hM7.below hb8
    have hx8 := hx7.below hb8
    have hB8 := hB7.trans (hb8.mono hB7.size)
    clear hM7 hx7 hb8 hB7
    go_wp2_with fail
    refine (HS3.out _ Ax cx hx8).mono ?_
    rintro e w9 ⟨rfl, hb9⟩
    have hM9 := hM8.below hb9
    have hx9 := hx8.below hb9
    have hB9 := hB8.trans (hb9.mono hB8.size)
    clear hM8 hx8 hb9 hB8
    by_cases hall : ok1 = true ∧ ok2 = true ∧ ok3 = true
    · obtain ⟨rfl, rfl, rfl⟩ := hall
      obtain ⟨m, rfl, hm9, hbe⟩ := HY1.out rfl
      obtain ⟨hs60, hce⟩ := HY2.out rfl
      obtain ⟨hg, hde⟩ := HY3.out rfl
      obtain ⟨S, hS⟩ : ∃ S, S = b ++ c ++ d := ⟨_, rfl⟩
      obtain ⟨z1, z2, z3, z4, hR1, hR2, hR3⟩ := all_back m s xs S b c d hm9 hs60 hg hbe hce hde hS
      have hadd1 := fun (W : World) => run_string_add_sum (P := Try.prog) (w := W) b c (by omega)
      have hadd2 := fun (W : World) => run_string_add_sum (P := Try.prog) (w := W) (b ++ c) d (by rw [ByteArray.size_append]; omega)
      rw [← hS] at hadd2
      have hlen : ((b.size : Int) + (c.size : Int)) = ((b.size + c.size : Nat) : Int) := by omega
      unfold NumTuple at hR1
      unfold TextTuple at hR2
      simp only at hR1 hR2
      rw [← hlen] at hR2
      clear hlen
      have HR1 := Lib.hid hR1
      have HR2 := Lib.hid hR2
      have HR3 := Lib.hid hR3
      have HZ4 := Lib.hid z4
      clear hR1 hR2 hR3 hbe hce hde hs60 hg hm9 hS HY1 HY2 HY3 z4
      go_wp2_with fail
      refine (HR1.out _).mono ?_
      rintro e wa ⟨rfl, hba⟩
      have hMa := hM9.below hba
      have hxa := hx9.below hba
      have hBa := hB9.trans (hba.mono hB9.size)
      clear hM9 hx9 hba hB9 HR1
      go_wp2_with fail
      refine (HR2.out _).mono ?_
      rintro e wb ⟨rfl, hbb⟩
      have hMb := hMa.below hbb
      have hxb := hxa.below hbb
      have hBb := hBa.trans (hbb.mono hBa.size)
      clear hMa hxa hbb hBa HR2
      go_wp2_with fail
      refine (HR3.out _).mono ?_
      rintro e wc ⟨Ay, cy, rfl, hyc, hy40, hbc⟩
      have hMc := hMb.below hbc
      have hxc := hxb.below hbc
      have hBc := hBb.trans (hbc.mono hBb.size)
      clear hMb hxb hbc hBb HR3 hy40
      go_wp2_with fail
      refine (same_any Ay Ax xs.length cy cx xs _ rfl hyc hxc (by have := HX41.out; omega)).mono ?_
      rintro e wd ⟨rfl, k, rfl⟩
      have hMr : BytesAt (wc.drewN k) B l2 := hMc
      have hBr : Below w.heap.size w (wc.drewN k) := below_drewN hBc k
      clear hMc hxc hyc hBc hadd1 hadd2 z1 z2 z3 HX41 HZ4
      generalize wc.drewN k = wd at *
      go_wp2_with fail
      refine (drawReadNum_any B n2 c2 l2 _ HN2.out hMr hl2).mono ?_
      rintro e u1 ⟨t1, p1, rfl, ht1, _, _, hb⟩
      have hMu1 := hMr.below hb
      have hBu1 := hBr.trans (hb.mono hBr.size)
      obtain ⟨r1, hI, hS⟩ := numRead t1 p1 (by unfold maxLen; omega)
      unfold NumTuple at hI hS
      have HJ1 := Lib.hid hI
      have HT1 := Lib.hid hS
      clear hI hS hb hMr hBr ht1
      go_wp2_with fail
      refine (HJ1.out _).mono ?_
      rintro e u2 ⟨rfl, hb⟩
      have hMu2 := hMu1.below hb
      have hBu2 := hBu1.trans (hb.mono hBu1.size)
      clear hMu1 hBu1 hb HJ1
      go_wp2_with fail
      refine (HT1.out _).mono ?_
      rintro e u3 ⟨rfl, hb⟩
      have hMu3 := hMu2.below hb
      have hBu3 := hBu2.trans (hb.mono hBu2.size)
      clear hMu2 hBu2 hb HT1
      go_wp2_with fail
      refine (drawReadText_any B n2 c2 l2 _ HN2.out hMu3 hl2).mono ?_
      rintro e u4 ⟨t2, p2, rfl, ht2, _, _, hb⟩
      have hMu4 := hMu3.below hb
      have hBu4 := hBu3.trans (hb.mono hBu3.size)
      obtain ⟨r2, hI, hS⟩ := textRead t2 p2 (by unfold maxLen; omega)
      unfold TextTuple at hI hS
      have HJ2 := Lib.hid hI
      have HT2 := Lib.hid hS
      clear hI hS hb hMu3 hBu3 ht2
      go_wp2_with fail
      refine (HJ2.out _).mono ?_
      rintro e u5 ⟨rfl, hb⟩
      have hMu5 := hMu4.below hb
      have hBu5 := hBu4.trans (hb.mono hBu4.size)
      clear hMu4 hBu4 hb HJ2
      go_wp2_with fail
      refine (HT2.out _).mono ?_
      rintro e u6 ⟨rfl, hb⟩
      have hMu6 := hMu5.below hb
      have hBu6 := hBu5.trans (hb.mono hBu5.size)
      clear hMu5 hBu5 hb HT2
      go_wp2_with fail
      refine (drawReadTexts_any B n2 c2 l2 _ HN2.out hMu6 hl2).mono ?_
      rintro e u7 ⟨t3, p3, rfl, ht3, _, _, hb⟩
      have hBu7 := hBu6.trans (hb.mono hBu6.size)
      obtain ⟨ys, y1, y2, hI, hS⟩ := textsRead t3 p3 (by unfold maxLen; omega)
      have HJ3 := Lib.hid hI
      have HT3 := Lib.hid hS
      clear hI hS hb hMu6 hBu6 ht3
      go_wp2_with fail
      refine (HJ3.out _).mono ?_
      rintro e u8 ⟨Am, cm, rfl, hym, hy40, hb⟩
      have hBu8 := hBu7.trans (hb.mono hBu7.size)
      clear hBu7 hb HJ3
      go_wp2_with fail
      refine (HT3.out _).mono ?_
      rintro e u9 ⟨An, cn, rfl, hyn, _, hb⟩
      have hym9 := hym.below hb
      have hBu9 := hBu8.trans (hb.mono hBu8.size)
      clear hBu8 hb HT3 hym
      go_wp2_with fail
      refine (same_any Am An ys.length cm cn ys _ rfl hym9 hyn (by omega)).mono ?_
      rintro e ux ⟨rfl, kx, rfl⟩
      go_wp2
      go_ret
      exact ⟨by simp, below_drewN hBu9 kx⟩
    · clear HY1 HY2 HY3 HX41 hx9
      cases ok1
      · go_wp2_with fail
        refine (drawReadNum_any B n2 c2 l2 _ HN2.out hM9 hl2).mono ?_
        rintro e u1 ⟨t1, p1, rfl, ht1, _, _, hb⟩
        have hMu1 := hM9.below hb
        have hBu1 := hB9.trans (hb.mono hB9.size)
        obtain ⟨r1, hI, hS⟩ := numRead t1 p1 (by unfold maxLen; omega)
        unfold NumTuple at hI hS
        have HJ1 := Lib.hid hI
        have HT1 := Lib.hid hS
        clear hI hS hb hM9 hB9 ht1
        go_wp2_with fail
        refine (HJ1.out _).mono ?_
        rintro e u2 ⟨rfl, hb⟩
        have hMu2 := hMu1.below hb
        have hBu2 := hBu1.trans (hb.mono hBu1.size)
        clear hMu1 hBu1 hb HJ1
        go_wp2_with fail
        refine (HT1.out _).mono ?_
        rintro e u3 ⟨rfl, hb⟩
        have hMu3 := hMu2.below hb
        have hBu3 := hBu2.trans (hb.mono hBu2.size)
        clear hMu2 hBu2 hb HT1
        go_wp2_with fail
        refine (drawReadText_any B n2 c2 l2 _ HN2.out hMu3 hl2).mono ?_
        rintro e u4 ⟨t2, p2, rfl, ht2, _, _, hb⟩
        have hMu4 := hMu3.below hb
        have hBu4 := hBu3.trans (hb.mono hBu3.size)
        obtain ⟨r2, hI, hS⟩ := textRead t2 p2 (by unfold maxLen; omega)
        unfold TextTuple at hI hS
        have HJ2 := Lib.hid hI
        have HT2 := Lib.hid hS
        clear hI hS hb hMu3 hBu3 ht2
        go_wp2_with fail
        refine (HJ2.out _).mono ?_
        rintro e u5 ⟨rfl, hb⟩
        have hMu5 := hMu4.below hb
        have hBu5 := hBu4.trans (hb.mono hBu4.size)
        clear hMu4 hBu4 hb HJ2
        go_wp2_with fail
        refine (HT2.out _).mono ?_
        rintro e u6 ⟨rfl, hb⟩
        have hMu6 := hMu5.below hb
        have hBu6 := hBu5.trans (hb.mono hBu5.size)
        clear hMu5 hBu5 hb HT2
        go_wp2_with fail
        refine (drawReadTexts_any B n2 c2 l2 _ HN2.out hMu6 hl2).mono ?_
        rintro e u7 ⟨t3, p3, rfl, ht3, _, _, hb⟩
        have hBu7 := hBu6.trans (hb.mono hBu6.size)
        obtain ⟨ys, y1, y2, hI, hS⟩ := textsRead t3 p3 (by unfold maxLen; omega)
        have HJ3 := Lib.hid hI
        have HT3 := Lib.hid hS
        clear hI hS hb hMu6 hBu6 ht3
        go_wp2_with fail
        refine (HJ3.out _).mono ?_
        rintro e u8 ⟨Am, cm, rfl, hym, hy40, hb⟩
        have hBu8 := hBu7.trans (hb.mono hBu7.size)
        clear hBu7 hb HJ3
        go_wp2_with fail
        refine (HT3.out _).mono ?_
        rintro e u9 ⟨An, cn, rfl, hyn, _, hb⟩
        have hym9 := hym.below hb
        have hBu9 := hBu8.trans (hb.mono hBu8.size)
        clear hBu8 hb HT3 hym
        go_wp2_with fail
        refine (same_any Am An ys.length cm cn ys _ rfl hym9 hyn (by omega)).mono ?_
        rintro e ux ⟨rfl, kx, rfl⟩
        go_wp2
        go_ret
        exact ⟨by simp, below_drewN hBu9 kx⟩
      · cases ok2
        · go_wp2_with fail
          refine (drawReadNum_any B n2 c2 l2 _ HN2.out hM9 hl2).mono ?_
          rintro e u1 ⟨t1, p1, rfl, ht1, _, _, hb⟩
          have hMu1 := hM9.below hb
          have hBu1 := hB9.trans (hb.mono hB9.size)
          obtain ⟨r1, hI, hS⟩ := numRead t1 p1 (by unfold maxLen; omega)
          unfold NumTuple at hI hS
          have HJ1 := Lib.hid hI
          have HT1 := Lib.hid hS
          clear hI hS hb hM9 hB9 ht1
          go_wp2_with fail
          refine (HJ1.out _).mono ?_
          rintro e u2 ⟨rfl, hb⟩
          have hMu2 := hMu1.below hb
          have hBu2 := hBu1.trans (hb.mono hBu1.size)
          clear hMu1 hBu1 hb HJ1
          go_wp2_with fail
          refine (HT1.out _).mono ?_
          rintro e u3 ⟨rfl, hb⟩
          have hMu3 := hMu2.below hb
          have hBu3 := hBu2.trans (hb.mono hBu2.size)
          clear hMu2 hBu2 hb HT1
          go_wp2_with fail
          refine (drawReadText_any B n2 c2 l2 _ HN2.out hMu3 hl2).mono ?_
          rintro e u4 ⟨t2, p2, rfl, ht2, _, _, hb⟩
          have hMu4 := hMu3.below hb
          have hBu4 := hBu3.trans (hb.mono hBu3.size)
          obtain ⟨r2, hI, hS⟩ := textRead t2 p2 (by unfold maxLen; omega)
          unfold TextTuple at hI hS
          have HJ2 := Lib.hid hI
          have HT2 := Lib.hid hS
          clear hI hS hb hMu3 hBu3 ht2
          go_wp2_with fail
          refine (HJ2.out _).mono ?_
          rintro e u5 ⟨rfl, hb⟩
          have hMu5 := hMu4.below hb
          have hBu5 := hBu4.trans (hb.mono hBu4.size)
          clear hMu4 hBu4 hb HJ2
          go_wp2_with fail
          refine (HT2.out _).mono ?_
          rintro e u6 ⟨rfl, hb⟩
          have hMu6 := hMu5.below hb
          have hBu6 := hBu5.trans (hb.mono hBu5.size)
          clear hMu5 hBu5 hb HT2
          go_wp2_with fail
          refine (drawReadTexts_any B n2 c2 l2 _ HN2.out hMu6 hl2).mono ?_
          rintro e u7 ⟨t3, p3, rfl, ht3, _, _, hb⟩
          have hBu7 := hBu6.trans (hb.mono hBu6.size)
          obtain ⟨ys, y1, y2, hI, hS⟩ := textsRead t3 p3 (by unfold maxLen; omega)
          have HJ3 := Lib.hid hI
          have HT3 := Lib.hid hS
          clear hI hS hb hMu6 hBu6 ht3
          go_wp2_with fail
          refine (HJ3.out _).mono ?_
          rintro e u8 ⟨Am, cm, rfl, hym, hy40, hb⟩
          have hBu8 := hBu7.trans (hb.mono hBu7.size)
          clear hBu7 hb HJ3
          go_wp2_with fail
          refine (HT3.out _).mono ?_
          rintro e u9 ⟨An, cn, rfl, hyn, _, hb⟩
          have hym9 := hym.below hb
          have hBu9 := hBu8.trans (hb.mono hBu8.size)
          clear hBu8 hb HT3 hym
          go_wp2_with fail
          refine (same_any Am An ys.length cm cn ys _ rfl hym9 hyn (by omega)).mono ?_
          rintro e ux ⟨rfl, kx, rfl⟩
          go_wp2
          go_ret
          exact ⟨by simp, below_drewN hBu9 kx⟩
        · cases ok3
          · go_wp2_with fail
            refine (drawReadNum_any B n2 c2 l2 _ HN2.out hM9 hl2).mono ?_
            rintro e u1 ⟨t1, p1, rfl, ht1, _, _, hb⟩
            have hMu1 := hM9.below hb
            have hBu1 := hB9.trans (hb.mono hB9.size)
            obtain ⟨r1, hI, hS⟩ := numRead t1 p1 (by unfold maxLen; omega)
            unfold NumTuple at hI hS
            have HJ1 := Lib.hid hI
            have HT1 := Lib.hid hS
            clear hI hS hb hM9 hB9 ht1
            go_wp2_with fail
            refine (HJ1.out _).mono ?_
            rintro e u2 ⟨rfl, hb⟩
            have hMu2 := hMu1.below hb
            have hBu2 := hBu1.trans (hb.mono hBu1.size)
            clear hMu1 hBu1 hb HJ1
            go_wp2_with fail
            refine (HT1.out _).mono ?_
            rintro e u3 ⟨rfl, hb⟩
            have hMu3 := hMu2.below hb
            have hBu3 := hBu2.trans (hb.mono hBu2.size)
            clear hMu2 hBu2 hb HT1
            go_wp2_with fail
            refine (drawReadText_any B n2 c2 l2 _ HN2.out hMu3 hl2).mono ?_
            rintro e u4 ⟨t2, p2, rfl, ht2, _, _, hb⟩
            have hMu4 := hMu3.below hb
            have hBu4 := hBu3.trans (hb.mono hBu3.size)
            obtain ⟨r2, hI, hS⟩ := textRead t2 p2 (by unfold maxLen; omega)
            unfold TextTuple at hI hS
            have HJ2 := Lib.hid hI
            have HT2 := Lib.hid hS
            clear hI hS hb hMu3 hBu3 ht2
            go_wp2_with fail
            refine (HJ2.out _).mono ?_
            rintro e u5 ⟨rfl, hb⟩
            have hMu5 := hMu4.below hb
            have hBu5 := hBu4.trans (hb.mono hBu4.size)
            clear hMu4 hBu4 hb HJ2
            go_wp2_with fail
            refine (HT2.out _).mono ?_
            rintro e u6 ⟨rfl, hb⟩
            have hMu6 := hMu5.below hb
            have hBu6 := hBu5.trans (hb.mono hBu5.size)
            clear hMu5 hBu5 hb HT2
            go_wp2_with fail
            refine (drawReadTexts_any B n2 c2 l2 _ HN2.out hMu6 hl2).mono ?_
            rintro e u7 ⟨t3, p3, rfl, ht3, _, _, hb⟩
            have hBu7 := hBu6.trans (hb.mono hBu6.size)
            obtain ⟨ys, y1, y2, hI, hS⟩ := textsRead t3 p3 (by unfold maxLen; omega)
            have HJ3 := Lib.hid hI
            have HT3 := Lib.hid hS
            clear hI hS hb hMu6 hBu6 ht3
            go_wp2_with fail
            refine (HJ3.out _).mono ?_
            rintro e u8 ⟨Am, cm, rfl, hym, hy40, hb⟩
            have hBu8 := hBu7.trans (hb.mono hBu7.size)
            clear hBu7 hb HJ3
            go_wp2_with fail
            refine (HT3.out _).mono ?_
            rintro e u9 ⟨An, cn, rfl, hyn, _, hb⟩
            have hym9 := hym.below hb
            have hBu9 := hBu8.trans (hb.mono hBu8.size)
            clear hBu8 hb HT3 hym
            go_wp2_with fail
            refine (same_any Am An ys.length cm cn ys _ rfl hym9 hyn (by omega)).mono ?_
            rintro e ux ⟨rfl, kx, rfl⟩
            go_wp2
            go_ret
            exact ⟨by simp, below_drewN hBu9 kx⟩
          · exact absurd ⟨rfl, rfl, rfl⟩ hall
end Go.Proofs.Ytodfefaknclemaa
