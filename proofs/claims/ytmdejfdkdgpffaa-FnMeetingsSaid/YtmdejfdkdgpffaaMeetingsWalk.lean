/-
  The walk of the law FnMeetings.
-/
import Derived.Test.YtmdejfdkdgpffaaMeetingsMath
namespace Go.Proofs.Ytmdejfdkdgpffaa
open Go.RowKit
set_option linter.unusedVariables false

set_option maxRecDepth 100000 in
set_option maxHeartbeats 16000000 in
theorem meetingsWalk (A B : Option Addr) (n1 c1 n2 c2 : Nat) (l1 l2 : List UInt8) (w : World) (hn1 : l1.length = n1) (hn2 : l2.length = n2) (hm1 : n1 ≤ maxLen) (hm2 : n2 ≤ maxLen) (h1 : BytesAt w A l1) (h2 : BytesAt w B l2) :
    Calls Try.prog 4 #[.slice A n1 c1, .slice B n2 c2] w fun e w' => e = .returned (.bool true) ∧ Below w.heap.size w w' := by
  by_cases hbig : 1048576 < n1 + n2
  · clear h1 h2 hn1 hn2
    go_enter Try.func4, Try.ntmps4
    go_wp2_with fail
    refine (big_yes A B n1 c1 n2 c2 _ hm1 hm2 hbig).mono ?_
    rintro e w' ⟨rfl, rfl⟩
    go_wp2
    go_ret
    exact ⟨rfl, Below.refl _ _⟩
  · have hl1 : n1 ≤ 1048576 := by omega
    have hl2 : n2 ≤ 1048576 := by omega
    have hsum : n1 + n2 ≤ 1048576 := by omega
    have H1 := Lib.hid h1
    have H2 := Lib.hid h2
    have HN1 := Lib.hid hn1
    have HN2 := Lib.hid hn2
    have HB := Lib.hid (Below.refl w.heap.size w)
    clear hm1 hm2 hbig h1 h2 hn1 hn2
    go_enter Try.func4, Try.ntmps4
    go_wp2_with fail
    refine (big_no A B n1 c1 n2 c2 _ hsum).mono ?_
    rintro e w' ⟨rfl, rfl⟩
    go_wp2_with fail
    refine (drawSpanAt_any A n1 c1 l1 _ HN1.out H1.out hl1).mono ?_
    rintro e w1 ⟨o, now, ho0, ho1, hn0, hn1, rfl, hb1⟩
    have HB1 := Lib.hid (HB.out.trans (hb1.mono HB.out.size))
    have HA_1 := Lib.hid (H1.out.below hb1)
    have HM_1 := Lib.hid (H2.out.below hb1)
    clear hb1
    have HB2 := Lib.hid (HB1.out.alloc HB1.out.size (.cells #[.int .i64 o] 25))
    have HM_2 := Lib.hid (HM_1.out.below (below1 w1 (.cells #[.int .i64 o] 25)))
    have Hc_2 := Lib.hid (heap_alloc_new w1 (.cells #[.int .i64 o] 25))
    go_wp2_with fail
    refine (drawSpanAt_any B n2 c2 l2 _ HN2.out HM_2.out hl2).mono ?_
    rintro e w3 ⟨p, now2, hp0, hp1, hq0, hq1, rfl, hb3⟩
    have HB3 := Lib.hid (HB2.out.trans (hb3.mono HB2.out.size))
    have kc_3 := (hb3.block _ (lt_blk Hc_2.out)).trans Hc_2.out
    have Hc_3 := Lib.hid kc_3
    have cc0_3 := cell_blk (i := 0) kc_3 rfl
    have lc_3 := lt_blk kc_3
    clear kc_3
    have HM_3 := Lib.hid (HM_2.out.below hb3)
    clear hb3
    obtain ⟨xlo, hxlo⟩ : ∃ x, x = saLo o now := ⟨_, rfl⟩
    obtain ⟨xhi, hxhi⟩ : ∃ x, x = saHi o now := ⟨_, rfl⟩
    obtain ⟨ok, hok⟩ : ∃ x, x = saOk o now := ⟨_, rfl⟩
    obtain ⟨ylo, hylo⟩ : ∃ x, x = saLo p now := ⟨_, rfl⟩
    obtain ⟨yhi, hyhi⟩ : ∃ x, x = saHi p now := ⟨_, rfl⟩
    obtain ⟨one, hone⟩ : ∃ x, x = saOk p now := ⟨_, rfl⟩
    have HX := fun W => spanAt_any o now W
    have HY := fun W => spanAt_any p now W
    rw [← hxlo, ← hxhi, ← hok] at HX
    rw [← hylo, ← hyhi, ← hone] at HY
    have HXF := Lib.hid (show ok = true → xlo = now + o - 5 ∧ xhi = now + o + 5 ∧ -5 ≤ o ∧ o ≤ 5 ∧ 0 ≤ now ∧ now ≤ 100000 by rw [hxlo, hxhi, hok]; exact sa_of)
    have HYF := Lib.hid (show one = true → ylo = now + p - 5 ∧ yhi = now + p + 5 ∧ -5 ≤ p ∧ p ≤ 5 ∧ 0 ≤ now ∧ now ≤ 100000 by rw [hylo, hyhi, hone]; exact sa_of)
    replace HX := Lib.hid HX
    replace HY := Lib.hid HY
    clear hxlo hxhi hok hylo hyhi hone
    have HB4 := Lib.hid (HB3.out.alloc HB3.out.size (.cells #[.int .i64 p] 25))
    have Hc_4 := Lib.hid ((Below.heap_alloc w3 (.cells #[.int .i64 p] 25) _ (lt_blk Hc_3.out)).trans Hc_3.out)
    have HM_4 := Lib.hid (HM_3.out.below (below1 w3 (.cells #[.int .i64 p] 25)))
    have Hd_4 := Lib.hid (heap_alloc_new w3 (.cells #[.int .i64 p] 25))
    go_wp2_with fail
    refine (HX.out _).mono ?_
    rintro e w5 ⟨rfl, hb5⟩
    have HB5 := Lib.hid (HB4.out.trans (hb5.mono HB4.out.size))
    have kc_5 := (hb5.block _ (lt_blk Hc_4.out)).trans Hc_4.out
    have Hc_5 := Lib.hid kc_5
    have cc0_5 := cell_blk (i := 0) kc_5 rfl
    have lc_5 := lt_blk kc_5
    clear kc_5 cc0_3 lc_3
    have kd_5 := (hb5.block _ (lt_blk Hd_4.out)).trans Hd_4.out
    have Hd_5 := Lib.hid kd_5
    have cd0_5 := cell_blk (i := 0) kd_5 rfl
    have ld_5 := lt_blk kd_5
    clear kd_5
    have HM_5 := Lib.hid (HM_4.out.below hb5)
    clear hb5
    clear cc0_5 lc_5
    have HB6 := Lib.hid (HB5.out.alloc HB5.out.size (.cells #[.int .i64 xlo, .int .i64 xhi] 29))
    have Hd_6 := Lib.hid ((Below.heap_alloc w5 (.cells #[.int .i64 xlo, .int .i64 xhi] 29) _ (lt_blk Hd_5.out)).trans Hd_5.out)
    have HM_6 := Lib.hid (HM_5.out.below (below1 w5 (.cells #[.int .i64 xlo, .int .i64 xhi] 29)))
    have Hx_6 := Lib.hid (heap_alloc_new w5 (.cells #[.int .i64 xlo, .int .i64 xhi] 29))
    go_wp2_with fail
    refine (HY.out _).mono ?_
    rintro e w7 ⟨rfl, hb7⟩
    have HB7 := Lib.hid (HB6.out.trans (hb7.mono HB6.out.size))
    have kd_7 := (hb7.block _ (lt_blk Hd_6.out)).trans Hd_6.out
    have Hd_7 := Lib.hid kd_7
    have cd0_7 := cell_blk (i := 0) kd_7 rfl
    have ld_7 := lt_blk kd_7
    clear kd_7 cd0_5 ld_5
    have kx_7 := (hb7.block _ (lt_blk Hx_6.out)).trans Hx_6.out
    have Hx_7 := Lib.hid kx_7
    have cx0_7 := cell_blk (i := 0) kx_7 rfl
    have cx1_7 := cell_blk (i := 1) kx_7 rfl
    have lx_7 := lt_blk kx_7
    clear kx_7
    have HM_7 := Lib.hid (HM_6.out.below hb7)
    clear hb7
    clear cd0_7 ld_7
    have HB8 := Lib.hid (HB7.out.alloc HB7.out.size (.cells #[.int .i64 ylo, .int .i64 yhi] 29))
    have Hx_8 := Lib.hid ((Below.heap_alloc w7 (.cells #[.int .i64 ylo, .int .i64 yhi] 29) _ (lt_blk Hx_7.out)).trans Hx_7.out)
    have HM_8 := Lib.hid (HM_7.out.below (below1 w7 (.cells #[.int .i64 ylo, .int .i64 yhi] 29)))
    have Hy_8 := Lib.hid (heap_alloc_new w7 (.cells #[.int .i64 ylo, .int .i64 yhi] 29))
    cases ok with
    | false =>
      clear cx0_7 cx1_7 lx_7
      go_wp2_with fail
      refine (drawMeetSpans_any B n2 c2 l2 _ HN2.out HM_8.out hl2).mono ?_
      rintro e w9 ⟨xs, A', c', rfl, hsx, hx4, hb9⟩
      have HB9 := Lib.hid (HB8.out.trans (hb9.mono HB8.out.size))
      have HM_9 := Lib.hid (HM_8.out.below hb9)
      clear hb9
      have HSX := Lib.hid hsx
      have HMI := fun A c W h => meetSpans_lit A xs.length c xs W rfl h (by omega)
      have HMS := fun A c W h => specMeetSpans_lit A xs.length c xs W rfl h (by omega)
      obtain ⟨mlo2, hmlo2⟩ : ∃ x, x = mtLo xs := ⟨_, rfl⟩
      obtain ⟨mhi2, hmhi2⟩ : ∃ x, x = mtHi xs := ⟨_, rfl⟩
      obtain ⟨mok2, hmok2⟩ : ∃ x, x = mtOk xs := ⟨_, rfl⟩
      rw [← hmlo2, ← hmhi2, ← hmok2] at HMI HMS
      replace HMI := Lib.hid HMI
      replace HMS := Lib.hid HMS
      have heq1 : ∀ W, (Op.equalIn 10000 29 (.agg #[.int .i64 mlo2, .int .i64 mhi2]) (.agg #[.int .i64 mlo2, .int .i64 mhi2])).run Try.prog W = .ok true W := fun W => by rw [eq_span]; simp
      clear hsx hmlo2 hmhi2 hmok2
      go_wp2_with fail
      refine (HMI.out _ _ _ HSX.out).mono ?_
      rintro e w10 ⟨rfl, hb10⟩
      have HB10 := Lib.hid (HB9.out.trans (hb10.mono HB9.out.size))
      have HM_10 := Lib.hid (HM_9.out.below hb10)
      have HSX_10 := Lib.hid (HSX.out.below hb10)
      clear hb10
      have HB11 := Lib.hid (HB10.out.alloc HB10.out.size (.cells #[.int .i64 mlo2, .int .i64 mhi2] 29))
      have HM_11 := Lib.hid (HM_10.out.below (below1 w10 (.cells #[.int .i64 mlo2, .int .i64 mhi2] 29)))
      have HSX_11 := Lib.hid (HSX_10.out.below (below1 w10 (.cells #[.int .i64 mlo2, .int .i64 mhi2] 29)))
      have Hm_11 := Lib.hid (heap_alloc_new w10 (.cells #[.int .i64 mlo2, .int .i64 mhi2] 29))
      go_wp2_with fail
      refine (HMS.out _ _ _ HSX_11.out).mono ?_
      rintro e w12 ⟨rfl, hb12⟩
      have HB12 := Lib.hid (HB11.out.trans (hb12.mono HB11.out.size))
      have km_12 := (hb12.block _ (lt_blk Hm_11.out)).trans Hm_11.out
      have Hm_12 := Lib.hid km_12
      have cm0_12 := cell_blk (i := 0) km_12 rfl
      have cm1_12 := cell_blk (i := 1) km_12 rfl
      have lm_12 := lt_blk km_12
      clear km_12
      have HM_12 := Lib.hid (HM_11.out.below hb12)
      have HSX_12 := Lib.hid (HSX_11.out.below hb12)
      clear hb12
      have HB13 := Lib.hid (HB12.out.alloc HB12.out.size (.cells #[.int .i64 mlo2, .int .i64 mhi2] 29))
      have Hm_13 := Lib.hid ((Below.heap_alloc w12 (.cells #[.int .i64 mlo2, .int .i64 mhi2] 29) _ (lt_blk Hm_12.out)).trans Hm_12.out)
      have HM_13 := Lib.hid (HM_12.out.below (below1 w12 (.cells #[.int .i64 mlo2, .int .i64 mhi2] 29)))
      have Hmeet_13 := Lib.hid (heap_alloc_new w12 (.cells #[.int .i64 mlo2, .int .i64 mhi2] 29))
      go_wp2_with fail
      refine (drawSurelyAfter_any B n2 c2 l2 _ HN2.out HM_13.out hl2).mono ?_
      rintro e w14 ⟨a0, a1, b0, b1, rfl, hb14⟩
      have HB14 := Lib.hid (HB13.out.trans (hb14.mono HB13.out.size))
      have km_14 := (hb14.block _ (lt_blk Hm_13.out)).trans Hm_13.out
      have Hm_14 := Lib.hid km_14
      have cm0_14 := cell_blk (i := 0) km_14 rfl
      have cm1_14 := cell_blk (i := 1) km_14 rfl
      have lm_14 := lt_blk km_14
      clear km_14 cm0_12 cm1_12 lm_12
      have kmeet_14 := (hb14.block _ (lt_blk Hmeet_13.out)).trans Hmeet_13.out
      have Hmeet_14 := Lib.hid kmeet_14
      have cmeet0_14 := cell_blk (i := 0) kmeet_14 rfl
      have cmeet1_14 := cell_blk (i := 1) kmeet_14 rfl
      have lmeet_14 := lt_blk kmeet_14
      clear kmeet_14
      have HM_14 := Lib.hid (HM_13.out.below hb14)
      clear hb14
      obtain ⟨fo, hfo⟩ : ∃ x, x = bothOk a0 a1 b0 b1 := ⟨_, rfl⟩
      obtain ⟨af, haf⟩ : ∃ x, x = afterB a0 a1 b0 b1 := ⟨_, rfl⟩
      obtain ⟨ba, hba⟩ : ∃ x, x = afterB b0 b1 a0 a1 := ⟨_, rfl⟩
      have HAI := fun W => surelyAfter_any a0 a1 b0 b1 W
      have HAS := fun W => specSurelyAfter_any a0 a1 b0 b1 W
      have HBI := fun W => surelyAfter_any b0 b1 a0 a1 W
      rw [both_comm a0 a1 b0 b1] at HBI
      rw [← hfo, ← haf] at HAI HAS
      rw [← hfo, ← hba] at HBI
      have HNB := Lib.hid (show af = true → ba = false by rw [haf, hba]; exact not_both)
      replace HAI := Lib.hid HAI
      replace HAS := Lib.hid HAS
      replace HBI := Lib.hid HBI
      clear hfo haf hba
      have HB15a := Lib.hid (HB14.out.alloc HB14.out.size (.cells #[.int .i64 a0, .int .i64 a1] 29))
      have HB15 := Lib.hid (HB15a.out.alloc HB15a.out.size (.cells #[.int .i64 b0, .int .i64 b1] 29))
      have Hm_15a := Lib.hid ((Below.heap_alloc w14 (.cells #[.int .i64 a0, .int .i64 a1] 29) _ (lt_blk Hm_14.out)).trans Hm_14.out)
      have Hm_15 := Lib.hid ((Below.heap_alloc (w14.alloc (.cells #[.int .i64 a0, .int .i64 a1] 29)) (.cells #[.int .i64 b0, .int .i64 b1] 29) _ (lt_blk Hm_15a.out)).trans Hm_15a.out)
      have Hmeet_15a := Lib.hid ((Below.heap_alloc w14 (.cells #[.int .i64 a0, .int .i64 a1] 29) _ (lt_blk Hmeet_14.out)).trans Hmeet_14.out)
      have Hmeet_15 := Lib.hid ((Below.heap_alloc (w14.alloc (.cells #[.int .i64 a0, .int .i64 a1] 29)) (.cells #[.int .i64 b0, .int .i64 b1] 29) _ (lt_blk Hmeet_15a.out)).trans Hmeet_15a.out)
      have HM_15 := Lib.hid (HM_14.out.below (below2 w14 (.cells #[.int .i64 a0, .int .i64 a1] 29) (.cells #[.int .i64 b0, .int .i64 b1] 29)))
      have Ha_15a := Lib.hid (heap_alloc_new w14 (.cells #[.int .i64 a0, .int .i64 a1] 29))
      have Ha_15 := Lib.hid ((Below.heap_alloc (w14.alloc (.cells #[.int .i64 a0, .int .i64 a1] 29)) (.cells #[.int .i64 b0, .int .i64 b1] 29) _ (lt_blk Ha_15a.out)).trans Ha_15a.out)
      have Hb_15 := Lib.hid (show ((w14.alloc (.cells #[.int .i64 a0, .int .i64 a1] 29)).alloc (.cells #[.int .i64 b0, .int .i64 b1] 29)).heap[w14.heap.size + 1]? = some (.cells #[.int .i64 b0, .int .i64 b1] 29) by have h := heap_alloc_new (w14.alloc (.cells #[.int .i64 a0, .int .i64 a1] 29)) (.cells #[.int .i64 b0, .int .i64 b1] 29); simpa using h)
      go_wp2_with fail
      refine (HAI.out _).mono ?_
      rintro e w16 ⟨rfl, hb16⟩
      have HB16 := Lib.hid (HB15.out.trans (hb16.mono HB15.out.size))
      have km_16 := (hb16.block _ (lt_blk Hm_15.out)).trans Hm_15.out
      have Hm_16 := Lib.hid km_16
      have cm0_16 := cell_blk (i := 0) km_16 rfl
      have cm1_16 := cell_blk (i := 1) km_16 rfl
      have lm_16 := lt_blk km_16
      clear km_16 cm0_14 cm1_14 lm_14
      have kmeet_16 := (hb16.block _ (lt_blk Hmeet_15.out)).trans Hmeet_15.out
      have Hmeet_16 := Lib.hid kmeet_16
      have cmeet0_16 := cell_blk (i := 0) kmeet_16 rfl
      have cmeet1_16 := cell_blk (i := 1) kmeet_16 rfl
      have lmeet_16 := lt_blk kmeet_16
      clear kmeet_16 cmeet0_14 cmeet1_14 lmeet_14
      have ka_16 := (hb16.block _ (lt_blk Ha_15.out)).trans Ha_15.out
      have Ha_16 := Lib.hid ka_16
      have ca0_16 := cell_blk (i := 0) ka_16 rfl
      have ca1_16 := cell_blk (i := 1) ka_16 rfl
      have la_16 := lt_blk ka_16
      clear ka_16
      have kb_16 := (hb16.block _ (lt_blk Hb_15.out)).trans Hb_15.out
      have Hb_16 := Lib.hid kb_16
      have cb0_16 := cell_blk (i := 0) kb_16 rfl
      have cb1_16 := cell_blk (i := 1) kb_16 rfl
      have lb_16 := lt_blk kb_16
      clear kb_16
      have HM_16 := Lib.hid (HM_15.out.below hb16)
      clear hb16
      go_wp2_with fail
      refine (HAS.out _).mono ?_
      rintro e w17 ⟨rfl, hb17⟩
      have HB17 := Lib.hid (HB16.out.trans (hb17.mono HB16.out.size))
      have km_17 := (hb17.block _ (lt_blk Hm_16.out)).trans Hm_16.out
      have Hm_17 := Lib.hid km_17
      have cm0_17 := cell_blk (i := 0) km_17 rfl
      have cm1_17 := cell_blk (i := 1) km_17 rfl
      have lm_17 := lt_blk km_17
      clear km_17 cm0_16 cm1_16 lm_16
      have kmeet_17 := (hb17.block _ (lt_blk Hmeet_16.out)).trans Hmeet_16.out
      have Hmeet_17 := Lib.hid kmeet_17
      have cmeet0_17 := cell_blk (i := 0) kmeet_17 rfl
      have cmeet1_17 := cell_blk (i := 1) kmeet_17 rfl
      have lmeet_17 := lt_blk kmeet_17
      clear kmeet_17 cmeet0_16 cmeet1_16 lmeet_16
      have ka_17 := (hb17.block _ (lt_blk Ha_16.out)).trans Ha_16.out
      have Ha_17 := Lib.hid ka_17
      have ca0_17 := cell_blk (i := 0) ka_17 rfl
      have ca1_17 := cell_blk (i := 1) ka_17 rfl
      have la_17 := lt_blk ka_17
      clear ka_17 ca0_16 ca1_16 la_16
      have kb_17 := (hb17.block _ (lt_blk Hb_16.out)).trans Hb_16.out
      have Hb_17 := Lib.hid kb_17
      have cb0_17 := cell_blk (i := 0) kb_17 rfl
      have cb1_17 := cell_blk (i := 1) kb_17 rfl
      have lb_17 := lt_blk kb_17
      clear kb_17 cb0_16 cb1_16 lb_16
      have HM_17 := Lib.hid (HM_16.out.below hb17)
      clear hb17
      go_wp2_with fail
      refine (HBI.out _).mono ?_
      rintro e w18 ⟨rfl, hb18⟩
      have HB18 := Lib.hid (HB17.out.trans (hb18.mono HB17.out.size))
      have km_18 := (hb18.block _ (lt_blk Hm_17.out)).trans Hm_17.out
      have Hm_18 := Lib.hid km_18
      have cm0_18 := cell_blk (i := 0) km_18 rfl
      have cm1_18 := cell_blk (i := 1) km_18 rfl
      have lm_18 := lt_blk km_18
      clear km_18 cm0_17 cm1_17 lm_17
      have kmeet_18 := (hb18.block _ (lt_blk Hmeet_17.out)).trans Hmeet_17.out
      have Hmeet_18 := Lib.hid kmeet_18
      have cmeet0_18 := cell_blk (i := 0) kmeet_18 rfl
      have cmeet1_18 := cell_blk (i := 1) kmeet_18 rfl
      have lmeet_18 := lt_blk kmeet_18
      clear kmeet_18 cmeet0_17 cmeet1_17 lmeet_17
      have ka_18 := (hb18.block _ (lt_blk Ha_17.out)).trans Ha_17.out
      have Ha_18 := Lib.hid ka_18
      have ca0_18 := cell_blk (i := 0) ka_18 rfl
      have ca1_18 := cell_blk (i := 1) ka_18 rfl
      have la_18 := lt_blk ka_18
      clear ka_18 ca0_17 ca1_17 la_17
      have kb_18 := (hb18.block _ (lt_blk Hb_17.out)).trans Hb_17.out
      have Hb_18 := Lib.hid kb_18
      have cb0_18 := cell_blk (i := 0) kb_18 rfl
      have cb1_18 := cell_blk (i := 1) kb_18 rfl
      have lb_18 := lt_blk kb_18
      clear kb_18 cb0_17 cb1_17 lb_17
      have HM_18 := Lib.hid (HM_17.out.below hb18)
      clear hb18
      clear ca0_18 ca1_18 la_18
      clear cb0_18 cb1_18 lb_18
      go_wp2_with fail
      refine (drawMoveSpan_any B n2 c2 l2 _ HN2.out HM_18.out hl2).mono ?_
      rintro e w19 ⟨e0, e1, by', he0, he1, he2, he3, hby0, hby1, rfl, hb19⟩
      have HB19 := Lib.hid (HB18.out.trans (hb19.mono HB18.out.size))
      have km_19 := (hb19.block _ (lt_blk Hm_18.out)).trans Hm_18.out
      have Hm_19 := Lib.hid km_19
      have cm0_19 := cell_blk (i := 0) km_19 rfl
      have cm1_19 := cell_blk (i := 1) km_19 rfl
      have lm_19 := lt_blk km_19
      clear km_19 cm0_18 cm1_18 lm_18
      have kmeet_19 := (hb19.block _ (lt_blk Hmeet_18.out)).trans Hmeet_18.out
      have Hmeet_19 := Lib.hid kmeet_19
      have cmeet0_19 := cell_blk (i := 0) kmeet_19 rfl
      have cmeet1_19 := cell_blk (i := 1) kmeet_19 rfl
      have lmeet_19 := lt_blk kmeet_19
      clear kmeet_19 cmeet0_18 cmeet1_18 lmeet_18
      have HM_19 := Lib.hid (HM_18.out.below hb19)
      clear hb19
      obtain ⟨zl, hzl⟩ : ∃ x, x = mvLo e0 e1 by' := ⟨_, rfl⟩
      obtain ⟨zh, hzh⟩ : ∃ x, x = mvHi e0 e1 by' := ⟨_, rfl⟩
      obtain ⟨zk, hzk⟩ : ∃ x, x = mvOk e0 e1 by' := ⟨_, rfl⟩
      have HZI := fun W => moveSpan_any e0 e1 by' W
      have HZS := fun W => specMoveSpan_any e0 e1 by' W
      rw [← hzl, ← hzh, ← hzk] at HZI HZS
      replace HZI := Lib.hid HZI
      replace HZS := Lib.hid HZS
      have heq2 : ∀ W, (Op.equalIn 10000 29 (.agg #[.int .i64 zl, .int .i64 zh]) (.agg #[.int .i64 zl, .int .i64 zh])).run Try.prog W = .ok true W := fun W => by rw [eq_span]; simp
      clear hzl hzh hzk
      have HB20 := Lib.hid (HB19.out.alloc HB19.out.size (.cells #[.int .i64 e0, .int .i64 e1] 29))
      have Hm_20 := Lib.hid ((Below.heap_alloc w19 (.cells #[.int .i64 e0, .int .i64 e1] 29) _ (lt_blk Hm_19.out)).trans Hm_19.out)
      have Hmeet_20 := Lib.hid ((Below.heap_alloc w19 (.cells #[.int .i64 e0, .int .i64 e1] 29) _ (lt_blk Hmeet_19.out)).trans Hmeet_19.out)
      have He_20 := Lib.hid (heap_alloc_new w19 (.cells #[.int .i64 e0, .int .i64 e1] 29))
      go_wp2_with fail
      refine (HZI.out _).mono ?_
      rintro e w21 ⟨rfl, hb21⟩
      have HB21 := Lib.hid (HB20.out.trans (hb21.mono HB20.out.size))
      have km_21 := (hb21.block _ (lt_blk Hm_20.out)).trans Hm_20.out
      have Hm_21 := Lib.hid km_21
      have cm0_21 := cell_blk (i := 0) km_21 rfl
      have cm1_21 := cell_blk (i := 1) km_21 rfl
      have lm_21 := lt_blk km_21
      clear km_21 cm0_19 cm1_19 lm_19
      have kmeet_21 := (hb21.block _ (lt_blk Hmeet_20.out)).trans Hmeet_20.out
      have Hmeet_21 := Lib.hid kmeet_21
      have cmeet0_21 := cell_blk (i := 0) kmeet_21 rfl
      have cmeet1_21 := cell_blk (i := 1) kmeet_21 rfl
      have lmeet_21 := lt_blk kmeet_21
      clear kmeet_21 cmeet0_19 cmeet1_19 lmeet_19
      have ke_21 := (hb21.block _ (lt_blk He_20.out)).trans He_20.out
      have He_21 := Lib.hid ke_21
      have ce0_21 := cell_blk (i := 0) ke_21 rfl
      have ce1_21 := cell_blk (i := 1) ke_21 rfl
      have le_21 := lt_blk ke_21
      clear ke_21
      clear hb21
      have HB22 := Lib.hid (HB21.out.alloc HB21.out.size (.cells #[.int .i64 zl, .int .i64 zh] 29))
      have Hm_22 := Lib.hid ((Below.heap_alloc w21 (.cells #[.int .i64 zl, .int .i64 zh] 29) _ (lt_blk Hm_21.out)).trans Hm_21.out)
      have Hmeet_22 := Lib.hid ((Below.heap_alloc w21 (.cells #[.int .i64 zl, .int .i64 zh] 29) _ (lt_blk Hmeet_21.out)).trans Hmeet_21.out)
      have He_22 := Lib.hid ((Below.heap_alloc w21 (.cells #[.int .i64 zl, .int .i64 zh] 29) _ (lt_blk He_21.out)).trans He_21.out)
      have Hz_22 := Lib.hid (heap_alloc_new w21 (.cells #[.int .i64 zl, .int .i64 zh] 29))
      go_wp2_with fail
      refine (HZS.out _).mono ?_
      rintro e w23 ⟨rfl, hb23⟩
      have HB23 := Lib.hid (HB22.out.trans (hb23.mono HB22.out.size))
      have km_23 := (hb23.block _ (lt_blk Hm_22.out)).trans Hm_22.out
      have Hm_23 := Lib.hid km_23
      have cm0_23 := cell_blk (i := 0) km_23 rfl
      have cm1_23 := cell_blk (i := 1) km_23 rfl
      have lm_23 := lt_blk km_23
      clear km_23 cm0_21 cm1_21 lm_21
      have kmeet_23 := (hb23.block _ (lt_blk Hmeet_22.out)).trans Hmeet_22.out
      have Hmeet_23 := Lib.hid kmeet_23
      have cmeet0_23 := cell_blk (i := 0) kmeet_23 rfl
      have cmeet1_23 := cell_blk (i := 1) kmeet_23 rfl
      have lmeet_23 := lt_blk kmeet_23
      clear kmeet_23 cmeet0_21 cmeet1_21 lmeet_21
      have ke_23 := (hb23.block _ (lt_blk He_22.out)).trans He_22.out
      have He_23 := Lib.hid ke_23
      have ce0_23 := cell_blk (i := 0) ke_23 rfl
      have ce1_23 := cell_blk (i := 1) ke_23 rfl
      have le_23 := lt_blk ke_23
      clear ke_23 ce0_21 ce1_21 le_21
      have kz_23 := (hb23.block _ (lt_blk Hz_22.out)).trans Hz_22.out
      have Hz_23 := Lib.hid kz_23
      have cz0_23 := cell_blk (i := 0) kz_23 rfl
      have cz1_23 := cell_blk (i := 1) kz_23 rfl
      have lz_23 := lt_blk kz_23
      clear kz_23
      clear hb23
      clear ce0_23 ce1_23 le_23
      have HEND := Lib.hid (HB23.out.alloc HB23.out.size (.cells #[.int .i64 zl, .int .i64 zh] 29))
      cases af with
      | true =>
        have hnb := HNB.out rfl
        cases ba with
        | true => simp at hnb
        | false =>
          clear hnb
          go_wp2
          go_ret
          exact ⟨rfl, HEND.out⟩
      | false =>
        go_wp2
        go_ret
        exact ⟨rfl, HEND.out⟩
    | true =>
      cases one with
      | false =>
        clear cx0_7 cx1_7 lx_7
        go_wp2_with fail
        refine (drawMeetSpans_any B n2 c2 l2 _ HN2.out HM_8.out hl2).mono ?_
        rintro e w9 ⟨xs, A', c', rfl, hsx, hx4, hb9⟩
        have HB9 := Lib.hid (HB8.out.trans (hb9.mono HB8.out.size))
        have HM_9 := Lib.hid (HM_8.out.below hb9)
        clear hb9
        have HSX := Lib.hid hsx
        have HMI := fun A c W h => meetSpans_lit A xs.length c xs W rfl h (by omega)
        have HMS := fun A c W h => specMeetSpans_lit A xs.length c xs W rfl h (by omega)
        obtain ⟨mlo2, hmlo2⟩ : ∃ x, x = mtLo xs := ⟨_, rfl⟩
        obtain ⟨mhi2, hmhi2⟩ : ∃ x, x = mtHi xs := ⟨_, rfl⟩
        obtain ⟨mok2, hmok2⟩ : ∃ x, x = mtOk xs := ⟨_, rfl⟩
        rw [← hmlo2, ← hmhi2, ← hmok2] at HMI HMS
        replace HMI := Lib.hid HMI
        replace HMS := Lib.hid HMS
        have heq1 : ∀ W, (Op.equalIn 10000 29 (.agg #[.int .i64 mlo2, .int .i64 mhi2]) (.agg #[.int .i64 mlo2, .int .i64 mhi2])).run Try.prog W = .ok true W := fun W => by rw [eq_span]; simp
        clear hsx hmlo2 hmhi2 hmok2
        go_wp2_with fail
        refine (HMI.out _ _ _ HSX.out).mono ?_
        rintro e w10 ⟨rfl, hb10⟩
        have HB10 := Lib.hid (HB9.out.trans (hb10.mono HB9.out.size))
        have HM_10 := Lib.hid (HM_9.out.below hb10)
        have HSX_10 := Lib.hid (HSX.out.below hb10)
        clear hb10
        have HB11 := Lib.hid (HB10.out.alloc HB10.out.size (.cells #[.int .i64 mlo2, .int .i64 mhi2] 29))
        have HM_11 := Lib.hid (HM_10.out.below (below1 w10 (.cells #[.int .i64 mlo2, .int .i64 mhi2] 29)))
        have HSX_11 := Lib.hid (HSX_10.out.below (below1 w10 (.cells #[.int .i64 mlo2, .int .i64 mhi2] 29)))
        have Hm_11 := Lib.hid (heap_alloc_new w10 (.cells #[.int .i64 mlo2, .int .i64 mhi2] 29))
        go_wp2_with fail
        refine (HMS.out _ _ _ HSX_11.out).mono ?_
        rintro e w12 ⟨rfl, hb12⟩
        have HB12 := Lib.hid (HB11.out.trans (hb12.mono HB11.out.size))
        have km_12 := (hb12.block _ (lt_blk Hm_11.out)).trans Hm_11.out
        have Hm_12 := Lib.hid km_12
        have cm0_12 := cell_blk (i := 0) km_12 rfl
        have cm1_12 := cell_blk (i := 1) km_12 rfl
        have lm_12 := lt_blk km_12
        clear km_12
        have HM_12 := Lib.hid (HM_11.out.below hb12)
        have HSX_12 := Lib.hid (HSX_11.out.below hb12)
        clear hb12
        have HB13 := Lib.hid (HB12.out.alloc HB12.out.size (.cells #[.int .i64 mlo2, .int .i64 mhi2] 29))
        have Hm_13 := Lib.hid ((Below.heap_alloc w12 (.cells #[.int .i64 mlo2, .int .i64 mhi2] 29) _ (lt_blk Hm_12.out)).trans Hm_12.out)
        have HM_13 := Lib.hid (HM_12.out.below (below1 w12 (.cells #[.int .i64 mlo2, .int .i64 mhi2] 29)))
        have Hmeet_13 := Lib.hid (heap_alloc_new w12 (.cells #[.int .i64 mlo2, .int .i64 mhi2] 29))
        go_wp2_with fail
        refine (drawSurelyAfter_any B n2 c2 l2 _ HN2.out HM_13.out hl2).mono ?_
        rintro e w14 ⟨a0, a1, b0, b1, rfl, hb14⟩
        have HB14 := Lib.hid (HB13.out.trans (hb14.mono HB13.out.size))
        have km_14 := (hb14.block _ (lt_blk Hm_13.out)).trans Hm_13.out
        have Hm_14 := Lib.hid km_14
        have cm0_14 := cell_blk (i := 0) km_14 rfl
        have cm1_14 := cell_blk (i := 1) km_14 rfl
        have lm_14 := lt_blk km_14
        clear km_14 cm0_12 cm1_12 lm_12
        have kmeet_14 := (hb14.block _ (lt_blk Hmeet_13.out)).trans Hmeet_13.out
        have Hmeet_14 := Lib.hid kmeet_14
        have cmeet0_14 := cell_blk (i := 0) kmeet_14 rfl
        have cmeet1_14 := cell_blk (i := 1) kmeet_14 rfl
        have lmeet_14 := lt_blk kmeet_14
        clear kmeet_14
        have HM_14 := Lib.hid (HM_13.out.below hb14)
        clear hb14
        obtain ⟨fo, hfo⟩ : ∃ x, x = bothOk a0 a1 b0 b1 := ⟨_, rfl⟩
        obtain ⟨af, haf⟩ : ∃ x, x = afterB a0 a1 b0 b1 := ⟨_, rfl⟩
        obtain ⟨ba, hba⟩ : ∃ x, x = afterB b0 b1 a0 a1 := ⟨_, rfl⟩
        have HAI := fun W => surelyAfter_any a0 a1 b0 b1 W
        have HAS := fun W => specSurelyAfter_any a0 a1 b0 b1 W
        have HBI := fun W => surelyAfter_any b0 b1 a0 a1 W
        rw [both_comm a0 a1 b0 b1] at HBI
        rw [← hfo, ← haf] at HAI HAS
        rw [← hfo, ← hba] at HBI
        have HNB := Lib.hid (show af = true → ba = false by rw [haf, hba]; exact not_both)
        replace HAI := Lib.hid HAI
        replace HAS := Lib.hid HAS
        replace HBI := Lib.hid HBI
        clear hfo haf hba
        have HB15a := Lib.hid (HB14.out.alloc HB14.out.size (.cells #[.int .i64 a0, .int .i64 a1] 29))
        have HB15 := Lib.hid (HB15a.out.alloc HB15a.out.size (.cells #[.int .i64 b0, .int .i64 b1] 29))
        have Hm_15a := Lib.hid ((Below.heap_alloc w14 (.cells #[.int .i64 a0, .int .i64 a1] 29) _ (lt_blk Hm_14.out)).trans Hm_14.out)
        have Hm_15 := Lib.hid ((Below.heap_alloc (w14.alloc (.cells #[.int .i64 a0, .int .i64 a1] 29)) (.cells #[.int .i64 b0, .int .i64 b1] 29) _ (lt_blk Hm_15a.out)).trans Hm_15a.out)
        have Hmeet_15a := Lib.hid ((Below.heap_alloc w14 (.cells #[.int .i64 a0, .int .i64 a1] 29) _ (lt_blk Hmeet_14.out)).trans Hmeet_14.out)
        have Hmeet_15 := Lib.hid ((Below.heap_alloc (w14.alloc (.cells #[.int .i64 a0, .int .i64 a1] 29)) (.cells #[.int .i64 b0, .int .i64 b1] 29) _ (lt_blk Hmeet_15a.out)).trans Hmeet_15a.out)
        have HM_15 := Lib.hid (HM_14.out.below (below2 w14 (.cells #[.int .i64 a0, .int .i64 a1] 29) (.cells #[.int .i64 b0, .int .i64 b1] 29)))
        have Ha_15a := Lib.hid (heap_alloc_new w14 (.cells #[.int .i64 a0, .int .i64 a1] 29))
        have Ha_15 := Lib.hid ((Below.heap_alloc (w14.alloc (.cells #[.int .i64 a0, .int .i64 a1] 29)) (.cells #[.int .i64 b0, .int .i64 b1] 29) _ (lt_blk Ha_15a.out)).trans Ha_15a.out)
        have Hb_15 := Lib.hid (show ((w14.alloc (.cells #[.int .i64 a0, .int .i64 a1] 29)).alloc (.cells #[.int .i64 b0, .int .i64 b1] 29)).heap[w14.heap.size + 1]? = some (.cells #[.int .i64 b0, .int .i64 b1] 29) by have h := heap_alloc_new (w14.alloc (.cells #[.int .i64 a0, .int .i64 a1] 29)) (.cells #[.int .i64 b0, .int .i64 b1] 29); simpa using h)
        go_wp2_with fail
        refine (HAI.out _).mono ?_
        rintro e w16 ⟨rfl, hb16⟩
        have HB16 := Lib.hid (HB15.out.trans (hb16.mono HB15.out.size))
        have km_16 := (hb16.block _ (lt_blk Hm_15.out)).trans Hm_15.out
        have Hm_16 := Lib.hid km_16
        have cm0_16 := cell_blk (i := 0) km_16 rfl
        have cm1_16 := cell_blk (i := 1) km_16 rfl
        have lm_16 := lt_blk km_16
        clear km_16 cm0_14 cm1_14 lm_14
        have kmeet_16 := (hb16.block _ (lt_blk Hmeet_15.out)).trans Hmeet_15.out
        have Hmeet_16 := Lib.hid kmeet_16
        have cmeet0_16 := cell_blk (i := 0) kmeet_16 rfl
        have cmeet1_16 := cell_blk (i := 1) kmeet_16 rfl
        have lmeet_16 := lt_blk kmeet_16
        clear kmeet_16 cmeet0_14 cmeet1_14 lmeet_14
        have ka_16 := (hb16.block _ (lt_blk Ha_15.out)).trans Ha_15.out
        have Ha_16 := Lib.hid ka_16
        have ca0_16 := cell_blk (i := 0) ka_16 rfl
        have ca1_16 := cell_blk (i := 1) ka_16 rfl
        have la_16 := lt_blk ka_16
        clear ka_16
        have kb_16 := (hb16.block _ (lt_blk Hb_15.out)).trans Hb_15.out
        have Hb_16 := Lib.hid kb_16
        have cb0_16 := cell_blk (i := 0) kb_16 rfl
        have cb1_16 := cell_blk (i := 1) kb_16 rfl
        have lb_16 := lt_blk kb_16
        clear kb_16
        have HM_16 := Lib.hid (HM_15.out.below hb16)
        clear hb16
        go_wp2_with fail
        refine (HAS.out _).mono ?_
        rintro e w17 ⟨rfl, hb17⟩
        have HB17 := Lib.hid (HB16.out.trans (hb17.mono HB16.out.size))
        have km_17 := (hb17.block _ (lt_blk Hm_16.out)).trans Hm_16.out
        have Hm_17 := Lib.hid km_17
        have cm0_17 := cell_blk (i := 0) km_17 rfl
        have cm1_17 := cell_blk (i := 1) km_17 rfl
        have lm_17 := lt_blk km_17
        clear km_17 cm0_16 cm1_16 lm_16
        have kmeet_17 := (hb17.block _ (lt_blk Hmeet_16.out)).trans Hmeet_16.out
        have Hmeet_17 := Lib.hid kmeet_17
        have cmeet0_17 := cell_blk (i := 0) kmeet_17 rfl
        have cmeet1_17 := cell_blk (i := 1) kmeet_17 rfl
        have lmeet_17 := lt_blk kmeet_17
        clear kmeet_17 cmeet0_16 cmeet1_16 lmeet_16
        have ka_17 := (hb17.block _ (lt_blk Ha_16.out)).trans Ha_16.out
        have Ha_17 := Lib.hid ka_17
        have ca0_17 := cell_blk (i := 0) ka_17 rfl
        have ca1_17 := cell_blk (i := 1) ka_17 rfl
        have la_17 := lt_blk ka_17
        clear ka_17 ca0_16 ca1_16 la_16
        have kb_17 := (hb17.block _ (lt_blk Hb_16.out)).trans Hb_16.out
        have Hb_17 := Lib.hid kb_17
        have cb0_17 := cell_blk (i := 0) kb_17 rfl
        have cb1_17 := cell_blk (i := 1) kb_17 rfl
        have lb_17 := lt_blk kb_17
        clear kb_17 cb0_16 cb1_16 lb_16
        have HM_17 := Lib.hid (HM_16.out.below hb17)
        clear hb17
        go_wp2_with fail
        refine (HBI.out _).mono ?_
        rintro e w18 ⟨rfl, hb18⟩
        have HB18 := Lib.hid (HB17.out.trans (hb18.mono HB17.out.size))
        have km_18 := (hb18.block _ (lt_blk Hm_17.out)).trans Hm_17.out
        have Hm_18 := Lib.hid km_18
        have cm0_18 := cell_blk (i := 0) km_18 rfl
        have cm1_18 := cell_blk (i := 1) km_18 rfl
        have lm_18 := lt_blk km_18
        clear km_18 cm0_17 cm1_17 lm_17
        have kmeet_18 := (hb18.block _ (lt_blk Hmeet_17.out)).trans Hmeet_17.out
        have Hmeet_18 := Lib.hid kmeet_18
        have cmeet0_18 := cell_blk (i := 0) kmeet_18 rfl
        have cmeet1_18 := cell_blk (i := 1) kmeet_18 rfl
        have lmeet_18 := lt_blk kmeet_18
        clear kmeet_18 cmeet0_17 cmeet1_17 lmeet_17
        have ka_18 := (hb18.block _ (lt_blk Ha_17.out)).trans Ha_17.out
        have Ha_18 := Lib.hid ka_18
        have ca0_18 := cell_blk (i := 0) ka_18 rfl
        have ca1_18 := cell_blk (i := 1) ka_18 rfl
        have la_18 := lt_blk ka_18
        clear ka_18 ca0_17 ca1_17 la_17
        have kb_18 := (hb18.block _ (lt_blk Hb_17.out)).trans Hb_17.out
        have Hb_18 := Lib.hid kb_18
        have cb0_18 := cell_blk (i := 0) kb_18 rfl
        have cb1_18 := cell_blk (i := 1) kb_18 rfl
        have lb_18 := lt_blk kb_18
        clear kb_18 cb0_17 cb1_17 lb_17
        have HM_18 := Lib.hid (HM_17.out.below hb18)
        clear hb18
        clear ca0_18 ca1_18 la_18
        clear cb0_18 cb1_18 lb_18
        go_wp2_with fail
        refine (drawMoveSpan_any B n2 c2 l2 _ HN2.out HM_18.out hl2).mono ?_
        rintro e w19 ⟨e0, e1, by', he0, he1, he2, he3, hby0, hby1, rfl, hb19⟩
        have HB19 := Lib.hid (HB18.out.trans (hb19.mono HB18.out.size))
        have km_19 := (hb19.block _ (lt_blk Hm_18.out)).trans Hm_18.out
        have Hm_19 := Lib.hid km_19
        have cm0_19 := cell_blk (i := 0) km_19 rfl
        have cm1_19 := cell_blk (i := 1) km_19 rfl
        have lm_19 := lt_blk km_19
        clear km_19 cm0_18 cm1_18 lm_18
        have kmeet_19 := (hb19.block _ (lt_blk Hmeet_18.out)).trans Hmeet_18.out
        have Hmeet_19 := Lib.hid kmeet_19
        have cmeet0_19 := cell_blk (i := 0) kmeet_19 rfl
        have cmeet1_19 := cell_blk (i := 1) kmeet_19 rfl
        have lmeet_19 := lt_blk kmeet_19
        clear kmeet_19 cmeet0_18 cmeet1_18 lmeet_18
        have HM_19 := Lib.hid (HM_18.out.below hb19)
        clear hb19
        obtain ⟨zl, hzl⟩ : ∃ x, x = mvLo e0 e1 by' := ⟨_, rfl⟩
        obtain ⟨zh, hzh⟩ : ∃ x, x = mvHi e0 e1 by' := ⟨_, rfl⟩
        obtain ⟨zk, hzk⟩ : ∃ x, x = mvOk e0 e1 by' := ⟨_, rfl⟩
        have HZI := fun W => moveSpan_any e0 e1 by' W
        have HZS := fun W => specMoveSpan_any e0 e1 by' W
        rw [← hzl, ← hzh, ← hzk] at HZI HZS
        replace HZI := Lib.hid HZI
        replace HZS := Lib.hid HZS
        have heq2 : ∀ W, (Op.equalIn 10000 29 (.agg #[.int .i64 zl, .int .i64 zh]) (.agg #[.int .i64 zl, .int .i64 zh])).run Try.prog W = .ok true W := fun W => by rw [eq_span]; simp
        clear hzl hzh hzk
        have HB20 := Lib.hid (HB19.out.alloc HB19.out.size (.cells #[.int .i64 e0, .int .i64 e1] 29))
        have Hm_20 := Lib.hid ((Below.heap_alloc w19 (.cells #[.int .i64 e0, .int .i64 e1] 29) _ (lt_blk Hm_19.out)).trans Hm_19.out)
        have Hmeet_20 := Lib.hid ((Below.heap_alloc w19 (.cells #[.int .i64 e0, .int .i64 e1] 29) _ (lt_blk Hmeet_19.out)).trans Hmeet_19.out)
        have He_20 := Lib.hid (heap_alloc_new w19 (.cells #[.int .i64 e0, .int .i64 e1] 29))
        go_wp2_with fail
        refine (HZI.out _).mono ?_
        rintro e w21 ⟨rfl, hb21⟩
        have HB21 := Lib.hid (HB20.out.trans (hb21.mono HB20.out.size))
        have km_21 := (hb21.block _ (lt_blk Hm_20.out)).trans Hm_20.out
        have Hm_21 := Lib.hid km_21
        have cm0_21 := cell_blk (i := 0) km_21 rfl
        have cm1_21 := cell_blk (i := 1) km_21 rfl
        have lm_21 := lt_blk km_21
        clear km_21 cm0_19 cm1_19 lm_19
        have kmeet_21 := (hb21.block _ (lt_blk Hmeet_20.out)).trans Hmeet_20.out
        have Hmeet_21 := Lib.hid kmeet_21
        have cmeet0_21 := cell_blk (i := 0) kmeet_21 rfl
        have cmeet1_21 := cell_blk (i := 1) kmeet_21 rfl
        have lmeet_21 := lt_blk kmeet_21
        clear kmeet_21 cmeet0_19 cmeet1_19 lmeet_19
        have ke_21 := (hb21.block _ (lt_blk He_20.out)).trans He_20.out
        have He_21 := Lib.hid ke_21
        have ce0_21 := cell_blk (i := 0) ke_21 rfl
        have ce1_21 := cell_blk (i := 1) ke_21 rfl
        have le_21 := lt_blk ke_21
        clear ke_21
        clear hb21
        have HB22 := Lib.hid (HB21.out.alloc HB21.out.size (.cells #[.int .i64 zl, .int .i64 zh] 29))
        have Hm_22 := Lib.hid ((Below.heap_alloc w21 (.cells #[.int .i64 zl, .int .i64 zh] 29) _ (lt_blk Hm_21.out)).trans Hm_21.out)
        have Hmeet_22 := Lib.hid ((Below.heap_alloc w21 (.cells #[.int .i64 zl, .int .i64 zh] 29) _ (lt_blk Hmeet_21.out)).trans Hmeet_21.out)
        have He_22 := Lib.hid ((Below.heap_alloc w21 (.cells #[.int .i64 zl, .int .i64 zh] 29) _ (lt_blk He_21.out)).trans He_21.out)
        have Hz_22 := Lib.hid (heap_alloc_new w21 (.cells #[.int .i64 zl, .int .i64 zh] 29))
        go_wp2_with fail
        refine (HZS.out _).mono ?_
        rintro e w23 ⟨rfl, hb23⟩
        have HB23 := Lib.hid (HB22.out.trans (hb23.mono HB22.out.size))
        have km_23 := (hb23.block _ (lt_blk Hm_22.out)).trans Hm_22.out
        have Hm_23 := Lib.hid km_23
        have cm0_23 := cell_blk (i := 0) km_23 rfl
        have cm1_23 := cell_blk (i := 1) km_23 rfl
        have lm_23 := lt_blk km_23
        clear km_23 cm0_21 cm1_21 lm_21
        have kmeet_23 := (hb23.block _ (lt_blk Hmeet_22.out)).trans Hmeet_22.out
        have Hmeet_23 := Lib.hid kmeet_23
        have cmeet0_23 := cell_blk (i := 0) kmeet_23 rfl
        have cmeet1_23 := cell_blk (i := 1) kmeet_23 rfl
        have lmeet_23 := lt_blk kmeet_23
        clear kmeet_23 cmeet0_21 cmeet1_21 lmeet_21
        have ke_23 := (hb23.block _ (lt_blk He_22.out)).trans He_22.out
        have He_23 := Lib.hid ke_23
        have ce0_23 := cell_blk (i := 0) ke_23 rfl
        have ce1_23 := cell_blk (i := 1) ke_23 rfl
        have le_23 := lt_blk ke_23
        clear ke_23 ce0_21 ce1_21 le_21
        have kz_23 := (hb23.block _ (lt_blk Hz_22.out)).trans Hz_22.out
        have Hz_23 := Lib.hid kz_23
        have cz0_23 := cell_blk (i := 0) kz_23 rfl
        have cz1_23 := cell_blk (i := 1) kz_23 rfl
        have lz_23 := lt_blk kz_23
        clear kz_23
        clear hb23
        clear ce0_23 ce1_23 le_23
        have HEND := Lib.hid (HB23.out.alloc HB23.out.size (.cells #[.int .i64 zl, .int .i64 zh] 29))
        cases af with
        | true =>
          have hnb := HNB.out rfl
          cases ba with
          | true => simp at hnb
          | false =>
            clear hnb
            go_wp2
            go_ret
            exact ⟨rfl, HEND.out⟩
        | false =>
          go_wp2
          go_ret
          exact ⟨rfl, HEND.out⟩
      | true =>
        obtain ⟨e1', e2', f1, f2, f3, f4⟩ := HXF.out rfl
        obtain ⟨e3', e4', f5, f6, _, _⟩ := HYF.out rfl
        have hb6 : -5 ≤ o ∧ o ≤ 5 ∧ -5 ≤ p ∧ p ≤ 5 ∧ 0 ≤ now ∧ now ≤ 100000 := ⟨f1, f2, f5, f6, f3, f4⟩
        obtain ⟨k1, k2, k3, k4, k5⟩ := meet_two hb6
        obtain ⟨k6, k7⟩ := meet_after hb6
        have HMV := Lib.hid (fun h => moved_after hb6 h)
        rw [← e1', ← e2', ← e3', ← e4'] at k1 k2 k3 k6 k7 HMV
        rw [← e1', ← e2', ← e3', ← e4'] at k4 k5
        have HM1 := fun A c W h => meetSpans_lit A 2 c [(xlo, xhi), (ylo, yhi)] W rfl h (by omega)
        rw [k1] at HM1
        have HF1 := fun W => surelyAfter_any xlo xhi ylo yhi W
        rw [k6, k7] at HF1
        obtain ⟨mlo, hmlo⟩ : ∃ x, x = mtLo [(xlo, xhi), (ylo, yhi)] := ⟨_, rfl⟩
        obtain ⟨mhi, hmhi⟩ : ∃ x, x = mtHi [(xlo, xhi), (ylo, yhi)] := ⟨_, rfl⟩
        rw [← hmlo, ← hmhi] at HM1
        rw [← hmlo] at k2 k4
        rw [← hmhi] at k3 k5
        have HV := fun W => moveSpan_any ylo yhi 21 W
        have HU := fun W => surelyAfter_any (mvLo ylo yhi 21) (mvHi ylo yhi 21) xlo xhi W
        obtain ⟨vlo, hvlo⟩ : ∃ x, x = mvLo ylo yhi 21 := ⟨_, rfl⟩
        obtain ⟨vhi, hvhi⟩ : ∃ x, x = mvHi ylo yhi 21 := ⟨_, rfl⟩
        obtain ⟨four, hfour⟩ : ∃ x, x = mvOk ylo yhi 21 := ⟨_, rfl⟩
        rw [← hvlo, ← hvhi, ← hfour] at HV
        rw [← hvlo, ← hvhi] at HU
        have HMVF := Lib.hid (show four = true → bothOk vlo vhi xlo xhi = true ∧ afterB vlo vhi xlo xhi = true by rw [hvlo, hvhi, hfour]; exact HMV.out)
        replace HM1 := Lib.hid HM1
        replace HF1 := Lib.hid HF1
        replace HV := Lib.hid HV
        replace HU := Lib.hid HU
        clear e1' e2' e3' e4' hmlo hmhi hvlo hvhi hfour k1 k6 k7 HMV hb6
        have HB9 := Lib.hid (HB8.out.alloc HB8.out.size (.cells #[.int .i64 xlo, .int .i64 xhi, .int .i64 ylo, .int .i64 yhi] 29))
        have Hx_9 := Lib.hid ((Below.heap_alloc (w7.alloc (.cells #[.int .i64 ylo, .int .i64 yhi] 29)) (.cells #[.int .i64 xlo, .int .i64 xhi, .int .i64 ylo, .int .i64 yhi] 29) _ (lt_blk Hx_8.out)).trans Hx_8.out)
        have Hy_9 := Lib.hid ((Below.heap_alloc (w7.alloc (.cells #[.int .i64 ylo, .int .i64 yhi] 29)) (.cells #[.int .i64 xlo, .int .i64 xhi, .int .i64 ylo, .int .i64 yhi] 29) _ (lt_blk Hy_8.out)).trans Hy_8.out)
        have HM_9 := Lib.hid (HM_8.out.below (below1 (w7.alloc (.cells #[.int .i64 ylo, .int .i64 yhi] 29)) (.cells #[.int .i64 xlo, .int .i64 xhi, .int .i64 ylo, .int .i64 yhi] 29)))
        have Hxy_9 := Lib.hid (show ((w7.alloc (.cells #[.int .i64 ylo, .int .i64 yhi] 29)).alloc (.cells #[.int .i64 xlo, .int .i64 xhi, .int .i64 ylo, .int .i64 yhi] 29)).heap[w7.heap.size + 1]? = some (.cells #[.int .i64 xlo, .int .i64 xhi, .int .i64 ylo, .int .i64 yhi] 29) by have h := heap_alloc_new (w7.alloc (.cells #[.int .i64 ylo, .int .i64 yhi] 29)) (.cells #[.int .i64 xlo, .int .i64 xhi, .int .i64 ylo, .int .i64 yhi] 29); simpa using h)
        go_wp2_with fail
        refine (HM1.out _ _ _ (two_spans Hxy_9.out)).mono ?_
        rintro e w10 ⟨rfl, hb10⟩
        have HB10 := Lib.hid (HB9.out.trans (hb10.mono HB9.out.size))
        have kx_10 := (hb10.block _ (lt_blk Hx_9.out)).trans Hx_9.out
        have Hx_10 := Lib.hid kx_10
        have cx0_10 := cell_blk (i := 0) kx_10 rfl
        have cx1_10 := cell_blk (i := 1) kx_10 rfl
        have lx_10 := lt_blk kx_10
        clear kx_10 cx0_7 cx1_7 lx_7
        have ky_10 := (hb10.block _ (lt_blk Hy_9.out)).trans Hy_9.out
        have Hy_10 := Lib.hid ky_10
        have cy0_10 := cell_blk (i := 0) ky_10 rfl
        have cy1_10 := cell_blk (i := 1) ky_10 rfl
        have ly_10 := lt_blk ky_10
        clear ky_10
        have kxy_10 := (hb10.block _ (lt_blk Hxy_9.out)).trans Hxy_9.out
        have Hxy_10 := Lib.hid kxy_10
        have cxy0_10 := cell_blk (i := 0) kxy_10 rfl
        have cxy1_10 := cell_blk (i := 1) kxy_10 rfl
        have cxy2_10 := cell_blk (i := 2) kxy_10 rfl
        have cxy3_10 := cell_blk (i := 3) kxy_10 rfl
        have lxy_10 := lt_blk kxy_10
        clear kxy_10
        have HM_10 := Lib.hid (HM_9.out.below hb10)
        clear hb10
        clear cxy0_10 cxy1_10 cxy2_10 cxy3_10 lxy_10
        have HB11 := Lib.hid (HB10.out.alloc HB10.out.size (.cells #[.int .i64 mlo, .int .i64 mhi] 29))
        have Hx_11 := Lib.hid ((Below.heap_alloc w10 (.cells #[.int .i64 mlo, .int .i64 mhi] 29) _ (lt_blk Hx_10.out)).trans Hx_10.out)
        have Hy_11 := Lib.hid ((Below.heap_alloc w10 (.cells #[.int .i64 mlo, .int .i64 mhi] 29) _ (lt_blk Hy_10.out)).trans Hy_10.out)
        have HM_11 := Lib.hid (HM_10.out.below (below1 w10 (.cells #[.int .i64 mlo, .int .i64 mhi] 29)))
        have Hmm_11 := Lib.hid (heap_alloc_new w10 (.cells #[.int .i64 mlo, .int .i64 mhi] 29))
        go_wp2_with fail
        refine (HF1.out _).mono ?_
        rintro e w12 ⟨rfl, hb12⟩
        have HB12 := Lib.hid (HB11.out.trans (hb12.mono HB11.out.size))
        have kx_12 := (hb12.block _ (lt_blk Hx_11.out)).trans Hx_11.out
        have Hx_12 := Lib.hid kx_12
        have cx0_12 := cell_blk (i := 0) kx_12 rfl
        have cx1_12 := cell_blk (i := 1) kx_12 rfl
        have lx_12 := lt_blk kx_12
        clear kx_12 cx0_10 cx1_10 lx_10
        have ky_12 := (hb12.block _ (lt_blk Hy_11.out)).trans Hy_11.out
        have Hy_12 := Lib.hid ky_12
        have cy0_12 := cell_blk (i := 0) ky_12 rfl
        have cy1_12 := cell_blk (i := 1) ky_12 rfl
        have ly_12 := lt_blk ky_12
        clear ky_12 cy0_10 cy1_10 ly_10
        have kmm_12 := (hb12.block _ (lt_blk Hmm_11.out)).trans Hmm_11.out
        have Hmm_12 := Lib.hid kmm_12
        have cmm0_12 := cell_blk (i := 0) kmm_12 rfl
        have cmm1_12 := cell_blk (i := 1) kmm_12 rfl
        have lmm_12 := lt_blk kmm_12
        clear kmm_12
        have HM_12 := Lib.hid (HM_11.out.below hb12)
        clear hb12
        go_wp2_with fail
        refine (HV.out _).mono ?_
        rintro e w13 ⟨rfl, hb13⟩
        have HB13 := Lib.hid (HB12.out.trans (hb13.mono HB12.out.size))
        have kx_13 := (hb13.block _ (lt_blk Hx_12.out)).trans Hx_12.out
        have Hx_13 := Lib.hid kx_13
        have cx0_13 := cell_blk (i := 0) kx_13 rfl
        have cx1_13 := cell_blk (i := 1) kx_13 rfl
        have lx_13 := lt_blk kx_13
        clear kx_13 cx0_12 cx1_12 lx_12
        have ky_13 := (hb13.block _ (lt_blk Hy_12.out)).trans Hy_12.out
        have Hy_13 := Lib.hid ky_13
        have cy0_13 := cell_blk (i := 0) ky_13 rfl
        have cy1_13 := cell_blk (i := 1) ky_13 rfl
        have ly_13 := lt_blk ky_13
        clear ky_13 cy0_12 cy1_12 ly_12
        have kmm_13 := (hb13.block _ (lt_blk Hmm_12.out)).trans Hmm_12.out
        have Hmm_13 := Lib.hid kmm_13
        have cmm0_13 := cell_blk (i := 0) kmm_13 rfl
        have cmm1_13 := cell_blk (i := 1) kmm_13 rfl
        have lmm_13 := lt_blk kmm_13
        clear kmm_13 cmm0_12 cmm1_12 lmm_12
        have HM_13 := Lib.hid (HM_12.out.below hb13)
        clear hb13
        clear cmm0_13 cmm1_13 lmm_13
        have HB14 := Lib.hid (HB13.out.alloc HB13.out.size (.cells #[.int .i64 vlo, .int .i64 vhi] 29))
        have Hx_14 := Lib.hid ((Below.heap_alloc w13 (.cells #[.int .i64 vlo, .int .i64 vhi] 29) _ (lt_blk Hx_13.out)).trans Hx_13.out)
        have Hy_14 := Lib.hid ((Below.heap_alloc w13 (.cells #[.int .i64 vlo, .int .i64 vhi] 29) _ (lt_blk Hy_13.out)).trans Hy_13.out)
        have HM_14 := Lib.hid (HM_13.out.below (below1 w13 (.cells #[.int .i64 vlo, .int .i64 vhi] 29)))
        have Hv_14 := Lib.hid (heap_alloc_new w13 (.cells #[.int .i64 vlo, .int .i64 vhi] 29))
        cases four with
        | false =>
          go_wp2_with fail
          refine (HU.out _).mono ?_
          rintro e w15 ⟨rfl, hb15⟩
          have HB15 := Lib.hid (HB14.out.trans (hb15.mono HB14.out.size))
          have kx_15 := (hb15.block _ (lt_blk Hx_14.out)).trans Hx_14.out
          have Hx_15 := Lib.hid kx_15
          have cx0_15 := cell_blk (i := 0) kx_15 rfl
          have cx1_15 := cell_blk (i := 1) kx_15 rfl
          have lx_15 := lt_blk kx_15
          clear kx_15 cx0_13 cx1_13 lx_13
          have ky_15 := (hb15.block _ (lt_blk Hy_14.out)).trans Hy_14.out
          have Hy_15 := Lib.hid ky_15
          have cy0_15 := cell_blk (i := 0) ky_15 rfl
          have cy1_15 := cell_blk (i := 1) ky_15 rfl
          have ly_15 := lt_blk ky_15
          clear ky_15 cy0_13 cy1_13 ly_13
          have kv_15 := (hb15.block _ (lt_blk Hv_14.out)).trans Hv_14.out
          have Hv_15 := Lib.hid kv_15
          have cv0_15 := cell_blk (i := 0) kv_15 rfl
          have cv1_15 := cell_blk (i := 1) kv_15 rfl
          have lv_15 := lt_blk kv_15
          clear kv_15
          have HM_15 := Lib.hid (HM_14.out.below hb15)
          clear hb15
          clear cx0_15 cx1_15 lx_15
          clear cy0_15 cy1_15 ly_15
          clear cv0_15 cv1_15 lv_15
          go_wp2_with fail
          refine (drawMeetSpans_any B n2 c2 l2 _ HN2.out HM_15.out hl2).mono ?_
          rintro e w16 ⟨xs, A', c', rfl, hsx, hx4, hb16⟩
          have HB16 := Lib.hid (HB15.out.trans (hb16.mono HB15.out.size))
          have HM_16 := Lib.hid (HM_15.out.below hb16)
          clear hb16
          have HSX := Lib.hid hsx
          have HMI := fun A c W h => meetSpans_lit A xs.length c xs W rfl h (by omega)
          have HMS := fun A c W h => specMeetSpans_lit A xs.length c xs W rfl h (by omega)
          obtain ⟨mlo2, hmlo2⟩ : ∃ x, x = mtLo xs := ⟨_, rfl⟩
          obtain ⟨mhi2, hmhi2⟩ : ∃ x, x = mtHi xs := ⟨_, rfl⟩
          obtain ⟨mok2, hmok2⟩ : ∃ x, x = mtOk xs := ⟨_, rfl⟩
          rw [← hmlo2, ← hmhi2, ← hmok2] at HMI HMS
          replace HMI := Lib.hid HMI
          replace HMS := Lib.hid HMS
          have heq1 : ∀ W, (Op.equalIn 10000 29 (.agg #[.int .i64 mlo2, .int .i64 mhi2]) (.agg #[.int .i64 mlo2, .int .i64 mhi2])).run Try.prog W = .ok true W := fun W => by rw [eq_span]; simp
          clear hsx hmlo2 hmhi2 hmok2
          go_wp2_with fail
          refine (HMI.out _ _ _ HSX.out).mono ?_
          rintro e w17 ⟨rfl, hb17⟩
          have HB17 := Lib.hid (HB16.out.trans (hb17.mono HB16.out.size))
          have HM_17 := Lib.hid (HM_16.out.below hb17)
          have HSX_17 := Lib.hid (HSX.out.below hb17)
          clear hb17
          have HB18 := Lib.hid (HB17.out.alloc HB17.out.size (.cells #[.int .i64 mlo2, .int .i64 mhi2] 29))
          have HM_18 := Lib.hid (HM_17.out.below (below1 w17 (.cells #[.int .i64 mlo2, .int .i64 mhi2] 29)))
          have HSX_18 := Lib.hid (HSX_17.out.below (below1 w17 (.cells #[.int .i64 mlo2, .int .i64 mhi2] 29)))
          have Hm_18 := Lib.hid (heap_alloc_new w17 (.cells #[.int .i64 mlo2, .int .i64 mhi2] 29))
          go_wp2_with fail
          refine (HMS.out _ _ _ HSX_18.out).mono ?_
          rintro e w19 ⟨rfl, hb19⟩
          have HB19 := Lib.hid (HB18.out.trans (hb19.mono HB18.out.size))
          have km_19 := (hb19.block _ (lt_blk Hm_18.out)).trans Hm_18.out
          have Hm_19 := Lib.hid km_19
          have cm0_19 := cell_blk (i := 0) km_19 rfl
          have cm1_19 := cell_blk (i := 1) km_19 rfl
          have lm_19 := lt_blk km_19
          clear km_19
          have HM_19 := Lib.hid (HM_18.out.below hb19)
          have HSX_19 := Lib.hid (HSX_18.out.below hb19)
          clear hb19
          have HB20 := Lib.hid (HB19.out.alloc HB19.out.size (.cells #[.int .i64 mlo2, .int .i64 mhi2] 29))
          have Hm_20 := Lib.hid ((Below.heap_alloc w19 (.cells #[.int .i64 mlo2, .int .i64 mhi2] 29) _ (lt_blk Hm_19.out)).trans Hm_19.out)
          have HM_20 := Lib.hid (HM_19.out.below (below1 w19 (.cells #[.int .i64 mlo2, .int .i64 mhi2] 29)))
          have Hmeet_20 := Lib.hid (heap_alloc_new w19 (.cells #[.int .i64 mlo2, .int .i64 mhi2] 29))
          go_wp2_with fail
          refine (drawSurelyAfter_any B n2 c2 l2 _ HN2.out HM_20.out hl2).mono ?_
          rintro e w21 ⟨a0, a1, b0, b1, rfl, hb21⟩
          have HB21 := Lib.hid (HB20.out.trans (hb21.mono HB20.out.size))
          have km_21 := (hb21.block _ (lt_blk Hm_20.out)).trans Hm_20.out
          have Hm_21 := Lib.hid km_21
          have cm0_21 := cell_blk (i := 0) km_21 rfl
          have cm1_21 := cell_blk (i := 1) km_21 rfl
          have lm_21 := lt_blk km_21
          clear km_21 cm0_19 cm1_19 lm_19
          have kmeet_21 := (hb21.block _ (lt_blk Hmeet_20.out)).trans Hmeet_20.out
          have Hmeet_21 := Lib.hid kmeet_21
          have cmeet0_21 := cell_blk (i := 0) kmeet_21 rfl
          have cmeet1_21 := cell_blk (i := 1) kmeet_21 rfl
          have lmeet_21 := lt_blk kmeet_21
          clear kmeet_21
          have HM_21 := Lib.hid (HM_20.out.below hb21)
          clear hb21
          obtain ⟨fo, hfo⟩ : ∃ x, x = bothOk a0 a1 b0 b1 := ⟨_, rfl⟩
          obtain ⟨af, haf⟩ : ∃ x, x = afterB a0 a1 b0 b1 := ⟨_, rfl⟩
          obtain ⟨ba, hba⟩ : ∃ x, x = afterB b0 b1 a0 a1 := ⟨_, rfl⟩
          have HAI := fun W => surelyAfter_any a0 a1 b0 b1 W
          have HAS := fun W => specSurelyAfter_any a0 a1 b0 b1 W
          have HBI := fun W => surelyAfter_any b0 b1 a0 a1 W
          rw [both_comm a0 a1 b0 b1] at HBI
          rw [← hfo, ← haf] at HAI HAS
          rw [← hfo, ← hba] at HBI
          have HNB := Lib.hid (show af = true → ba = false by rw [haf, hba]; exact not_both)
          replace HAI := Lib.hid HAI
          replace HAS := Lib.hid HAS
          replace HBI := Lib.hid HBI
          clear hfo haf hba
          have HB22a := Lib.hid (HB21.out.alloc HB21.out.size (.cells #[.int .i64 a0, .int .i64 a1] 29))
          have HB22 := Lib.hid (HB22a.out.alloc HB22a.out.size (.cells #[.int .i64 b0, .int .i64 b1] 29))
          have Hm_22a := Lib.hid ((Below.heap_alloc w21 (.cells #[.int .i64 a0, .int .i64 a1] 29) _ (lt_blk Hm_21.out)).trans Hm_21.out)
          have Hm_22 := Lib.hid ((Below.heap_alloc (w21.alloc (.cells #[.int .i64 a0, .int .i64 a1] 29)) (.cells #[.int .i64 b0, .int .i64 b1] 29) _ (lt_blk Hm_22a.out)).trans Hm_22a.out)
          have Hmeet_22a := Lib.hid ((Below.heap_alloc w21 (.cells #[.int .i64 a0, .int .i64 a1] 29) _ (lt_blk Hmeet_21.out)).trans Hmeet_21.out)
          have Hmeet_22 := Lib.hid ((Below.heap_alloc (w21.alloc (.cells #[.int .i64 a0, .int .i64 a1] 29)) (.cells #[.int .i64 b0, .int .i64 b1] 29) _ (lt_blk Hmeet_22a.out)).trans Hmeet_22a.out)
          have HM_22 := Lib.hid (HM_21.out.below (below2 w21 (.cells #[.int .i64 a0, .int .i64 a1] 29) (.cells #[.int .i64 b0, .int .i64 b1] 29)))
          have Ha_22a := Lib.hid (heap_alloc_new w21 (.cells #[.int .i64 a0, .int .i64 a1] 29))
          have Ha_22 := Lib.hid ((Below.heap_alloc (w21.alloc (.cells #[.int .i64 a0, .int .i64 a1] 29)) (.cells #[.int .i64 b0, .int .i64 b1] 29) _ (lt_blk Ha_22a.out)).trans Ha_22a.out)
          have Hb_22 := Lib.hid (show ((w21.alloc (.cells #[.int .i64 a0, .int .i64 a1] 29)).alloc (.cells #[.int .i64 b0, .int .i64 b1] 29)).heap[w21.heap.size + 1]? = some (.cells #[.int .i64 b0, .int .i64 b1] 29) by have h := heap_alloc_new (w21.alloc (.cells #[.int .i64 a0, .int .i64 a1] 29)) (.cells #[.int .i64 b0, .int .i64 b1] 29); simpa using h)
          go_wp2_with fail
          refine (HAI.out _).mono ?_
          rintro e w23 ⟨rfl, hb23⟩
          have HB23 := Lib.hid (HB22.out.trans (hb23.mono HB22.out.size))
          have km_23 := (hb23.block _ (lt_blk Hm_22.out)).trans Hm_22.out
          have Hm_23 := Lib.hid km_23
          have cm0_23 := cell_blk (i := 0) km_23 rfl
          have cm1_23 := cell_blk (i := 1) km_23 rfl
          have lm_23 := lt_blk km_23
          clear km_23 cm0_21 cm1_21 lm_21
          have kmeet_23 := (hb23.block _ (lt_blk Hmeet_22.out)).trans Hmeet_22.out
          have Hmeet_23 := Lib.hid kmeet_23
          have cmeet0_23 := cell_blk (i := 0) kmeet_23 rfl
          have cmeet1_23 := cell_blk (i := 1) kmeet_23 rfl
          have lmeet_23 := lt_blk kmeet_23
          clear kmeet_23 cmeet0_21 cmeet1_21 lmeet_21
          have ka_23 := (hb23.block _ (lt_blk Ha_22.out)).trans Ha_22.out
          have Ha_23 := Lib.hid ka_23
          have ca0_23 := cell_blk (i := 0) ka_23 rfl
          have ca1_23 := cell_blk (i := 1) ka_23 rfl
          have la_23 := lt_blk ka_23
          clear ka_23
          have kb_23 := (hb23.block _ (lt_blk Hb_22.out)).trans Hb_22.out
          have Hb_23 := Lib.hid kb_23
          have cb0_23 := cell_blk (i := 0) kb_23 rfl
          have cb1_23 := cell_blk (i := 1) kb_23 rfl
          have lb_23 := lt_blk kb_23
          clear kb_23
          have HM_23 := Lib.hid (HM_22.out.below hb23)
          clear hb23
          go_wp2_with fail
          refine (HAS.out _).mono ?_
          rintro e w24 ⟨rfl, hb24⟩
          have HB24 := Lib.hid (HB23.out.trans (hb24.mono HB23.out.size))
          have km_24 := (hb24.block _ (lt_blk Hm_23.out)).trans Hm_23.out
          have Hm_24 := Lib.hid km_24
          have cm0_24 := cell_blk (i := 0) km_24 rfl
          have cm1_24 := cell_blk (i := 1) km_24 rfl
          have lm_24 := lt_blk km_24
          clear km_24 cm0_23 cm1_23 lm_23
          have kmeet_24 := (hb24.block _ (lt_blk Hmeet_23.out)).trans Hmeet_23.out
          have Hmeet_24 := Lib.hid kmeet_24
          have cmeet0_24 := cell_blk (i := 0) kmeet_24 rfl
          have cmeet1_24 := cell_blk (i := 1) kmeet_24 rfl
          have lmeet_24 := lt_blk kmeet_24
          clear kmeet_24 cmeet0_23 cmeet1_23 lmeet_23
          have ka_24 := (hb24.block _ (lt_blk Ha_23.out)).trans Ha_23.out
          have Ha_24 := Lib.hid ka_24
          have ca0_24 := cell_blk (i := 0) ka_24 rfl
          have ca1_24 := cell_blk (i := 1) ka_24 rfl
          have la_24 := lt_blk ka_24
          clear ka_24 ca0_23 ca1_23 la_23
          have kb_24 := (hb24.block _ (lt_blk Hb_23.out)).trans Hb_23.out
          have Hb_24 := Lib.hid kb_24
          have cb0_24 := cell_blk (i := 0) kb_24 rfl
          have cb1_24 := cell_blk (i := 1) kb_24 rfl
          have lb_24 := lt_blk kb_24
          clear kb_24 cb0_23 cb1_23 lb_23
          have HM_24 := Lib.hid (HM_23.out.below hb24)
          clear hb24
          go_wp2_with fail
          refine (HBI.out _).mono ?_
          rintro e w25 ⟨rfl, hb25⟩
          have HB25 := Lib.hid (HB24.out.trans (hb25.mono HB24.out.size))
          have km_25 := (hb25.block _ (lt_blk Hm_24.out)).trans Hm_24.out
          have Hm_25 := Lib.hid km_25
          have cm0_25 := cell_blk (i := 0) km_25 rfl
          have cm1_25 := cell_blk (i := 1) km_25 rfl
          have lm_25 := lt_blk km_25
          clear km_25 cm0_24 cm1_24 lm_24
          have kmeet_25 := (hb25.block _ (lt_blk Hmeet_24.out)).trans Hmeet_24.out
          have Hmeet_25 := Lib.hid kmeet_25
          have cmeet0_25 := cell_blk (i := 0) kmeet_25 rfl
          have cmeet1_25 := cell_blk (i := 1) kmeet_25 rfl
          have lmeet_25 := lt_blk kmeet_25
          clear kmeet_25 cmeet0_24 cmeet1_24 lmeet_24
          have ka_25 := (hb25.block _ (lt_blk Ha_24.out)).trans Ha_24.out
          have Ha_25 := Lib.hid ka_25
          have ca0_25 := cell_blk (i := 0) ka_25 rfl
          have ca1_25 := cell_blk (i := 1) ka_25 rfl
          have la_25 := lt_blk ka_25
          clear ka_25 ca0_24 ca1_24 la_24
          have kb_25 := (hb25.block _ (lt_blk Hb_24.out)).trans Hb_24.out
          have Hb_25 := Lib.hid kb_25
          have cb0_25 := cell_blk (i := 0) kb_25 rfl
          have cb1_25 := cell_blk (i := 1) kb_25 rfl
          have lb_25 := lt_blk kb_25
          clear kb_25 cb0_24 cb1_24 lb_24
          have HM_25 := Lib.hid (HM_24.out.below hb25)
          clear hb25
          clear ca0_25 ca1_25 la_25
          clear cb0_25 cb1_25 lb_25
          go_wp2_with fail
          refine (drawMoveSpan_any B n2 c2 l2 _ HN2.out HM_25.out hl2).mono ?_
          rintro e w26 ⟨e0, e1, by', he0, he1, he2, he3, hby0, hby1, rfl, hb26⟩
          have HB26 := Lib.hid (HB25.out.trans (hb26.mono HB25.out.size))
          have km_26 := (hb26.block _ (lt_blk Hm_25.out)).trans Hm_25.out
          have Hm_26 := Lib.hid km_26
          have cm0_26 := cell_blk (i := 0) km_26 rfl
          have cm1_26 := cell_blk (i := 1) km_26 rfl
          have lm_26 := lt_blk km_26
          clear km_26 cm0_25 cm1_25 lm_25
          have kmeet_26 := (hb26.block _ (lt_blk Hmeet_25.out)).trans Hmeet_25.out
          have Hmeet_26 := Lib.hid kmeet_26
          have cmeet0_26 := cell_blk (i := 0) kmeet_26 rfl
          have cmeet1_26 := cell_blk (i := 1) kmeet_26 rfl
          have lmeet_26 := lt_blk kmeet_26
          clear kmeet_26 cmeet0_25 cmeet1_25 lmeet_25
          have HM_26 := Lib.hid (HM_25.out.below hb26)
          clear hb26
          obtain ⟨zl, hzl⟩ : ∃ x, x = mvLo e0 e1 by' := ⟨_, rfl⟩
          obtain ⟨zh, hzh⟩ : ∃ x, x = mvHi e0 e1 by' := ⟨_, rfl⟩
          obtain ⟨zk, hzk⟩ : ∃ x, x = mvOk e0 e1 by' := ⟨_, rfl⟩
          have HZI := fun W => moveSpan_any e0 e1 by' W
          have HZS := fun W => specMoveSpan_any e0 e1 by' W
          rw [← hzl, ← hzh, ← hzk] at HZI HZS
          replace HZI := Lib.hid HZI
          replace HZS := Lib.hid HZS
          have heq2 : ∀ W, (Op.equalIn 10000 29 (.agg #[.int .i64 zl, .int .i64 zh]) (.agg #[.int .i64 zl, .int .i64 zh])).run Try.prog W = .ok true W := fun W => by rw [eq_span]; simp
          clear hzl hzh hzk
          have HB27 := Lib.hid (HB26.out.alloc HB26.out.size (.cells #[.int .i64 e0, .int .i64 e1] 29))
          have Hm_27 := Lib.hid ((Below.heap_alloc w26 (.cells #[.int .i64 e0, .int .i64 e1] 29) _ (lt_blk Hm_26.out)).trans Hm_26.out)
          have Hmeet_27 := Lib.hid ((Below.heap_alloc w26 (.cells #[.int .i64 e0, .int .i64 e1] 29) _ (lt_blk Hmeet_26.out)).trans Hmeet_26.out)
          have He_27 := Lib.hid (heap_alloc_new w26 (.cells #[.int .i64 e0, .int .i64 e1] 29))
          go_wp2_with fail
          refine (HZI.out _).mono ?_
          rintro e w28 ⟨rfl, hb28⟩
          have HB28 := Lib.hid (HB27.out.trans (hb28.mono HB27.out.size))
          have km_28 := (hb28.block _ (lt_blk Hm_27.out)).trans Hm_27.out
          have Hm_28 := Lib.hid km_28
          have cm0_28 := cell_blk (i := 0) km_28 rfl
          have cm1_28 := cell_blk (i := 1) km_28 rfl
          have lm_28 := lt_blk km_28
          clear km_28 cm0_26 cm1_26 lm_26
          have kmeet_28 := (hb28.block _ (lt_blk Hmeet_27.out)).trans Hmeet_27.out
          have Hmeet_28 := Lib.hid kmeet_28
          have cmeet0_28 := cell_blk (i := 0) kmeet_28 rfl
          have cmeet1_28 := cell_blk (i := 1) kmeet_28 rfl
          have lmeet_28 := lt_blk kmeet_28
          clear kmeet_28 cmeet0_26 cmeet1_26 lmeet_26
          have ke_28 := (hb28.block _ (lt_blk He_27.out)).trans He_27.out
          have He_28 := Lib.hid ke_28
          have ce0_28 := cell_blk (i := 0) ke_28 rfl
          have ce1_28 := cell_blk (i := 1) ke_28 rfl
          have le_28 := lt_blk ke_28
          clear ke_28
          clear hb28
          have HB29 := Lib.hid (HB28.out.alloc HB28.out.size (.cells #[.int .i64 zl, .int .i64 zh] 29))
          have Hm_29 := Lib.hid ((Below.heap_alloc w28 (.cells #[.int .i64 zl, .int .i64 zh] 29) _ (lt_blk Hm_28.out)).trans Hm_28.out)
          have Hmeet_29 := Lib.hid ((Below.heap_alloc w28 (.cells #[.int .i64 zl, .int .i64 zh] 29) _ (lt_blk Hmeet_28.out)).trans Hmeet_28.out)
          have He_29 := Lib.hid ((Below.heap_alloc w28 (.cells #[.int .i64 zl, .int .i64 zh] 29) _ (lt_blk He_28.out)).trans He_28.out)
          have Hz_29 := Lib.hid (heap_alloc_new w28 (.cells #[.int .i64 zl, .int .i64 zh] 29))
          go_wp2_with fail
          refine (HZS.out _).mono ?_
          rintro e w30 ⟨rfl, hb30⟩
          have HB30 := Lib.hid (HB29.out.trans (hb30.mono HB29.out.size))
          have km_30 := (hb30.block _ (lt_blk Hm_29.out)).trans Hm_29.out
          have Hm_30 := Lib.hid km_30
          have cm0_30 := cell_blk (i := 0) km_30 rfl
          have cm1_30 := cell_blk (i := 1) km_30 rfl
          have lm_30 := lt_blk km_30
          clear km_30 cm0_28 cm1_28 lm_28
          have kmeet_30 := (hb30.block _ (lt_blk Hmeet_29.out)).trans Hmeet_29.out
          have Hmeet_30 := Lib.hid kmeet_30
          have cmeet0_30 := cell_blk (i := 0) kmeet_30 rfl
          have cmeet1_30 := cell_blk (i := 1) kmeet_30 rfl
          have lmeet_30 := lt_blk kmeet_30
          clear kmeet_30 cmeet0_28 cmeet1_28 lmeet_28
          have ke_30 := (hb30.block _ (lt_blk He_29.out)).trans He_29.out
          have He_30 := Lib.hid ke_30
          have ce0_30 := cell_blk (i := 0) ke_30 rfl
          have ce1_30 := cell_blk (i := 1) ke_30 rfl
          have le_30 := lt_blk ke_30
          clear ke_30 ce0_28 ce1_28 le_28
          have kz_30 := (hb30.block _ (lt_blk Hz_29.out)).trans Hz_29.out
          have Hz_30 := Lib.hid kz_30
          have cz0_30 := cell_blk (i := 0) kz_30 rfl
          have cz1_30 := cell_blk (i := 1) kz_30 rfl
          have lz_30 := lt_blk kz_30
          clear kz_30
          clear hb30
          clear ce0_30 ce1_30 le_30
          have HEND := Lib.hid (HB30.out.alloc HB30.out.size (.cells #[.int .i64 zl, .int .i64 zh] 29))
          cases af with
          | true =>
            have hnb := HNB.out rfl
            cases ba with
            | true => simp at hnb
            | false =>
              clear hnb
              go_wp2
              go_ret
              exact ⟨rfl, HEND.out⟩
          | false =>
            go_wp2
            go_ret
            exact ⟨rfl, HEND.out⟩
        | true =>
          obtain ⟨g1, g2⟩ := HMVF.out rfl
          have HUU := HU.out
          rw [g1, g2] at HUU
          replace HUU := Lib.hid HUU
          clear g1 g2
          go_wp2_with fail
          refine (HUU.out _).mono ?_
          rintro e w15 ⟨rfl, hb15⟩
          have HB15 := Lib.hid (HB14.out.trans (hb15.mono HB14.out.size))
          have kx_15 := (hb15.block _ (lt_blk Hx_14.out)).trans Hx_14.out
          have Hx_15 := Lib.hid kx_15
          have cx0_15 := cell_blk (i := 0) kx_15 rfl
          have cx1_15 := cell_blk (i := 1) kx_15 rfl
          have lx_15 := lt_blk kx_15
          clear kx_15 cx0_13 cx1_13 lx_13
          have ky_15 := (hb15.block _ (lt_blk Hy_14.out)).trans Hy_14.out
          have Hy_15 := Lib.hid ky_15
          have cy0_15 := cell_blk (i := 0) ky_15 rfl
          have cy1_15 := cell_blk (i := 1) ky_15 rfl
          have ly_15 := lt_blk ky_15
          clear ky_15 cy0_13 cy1_13 ly_13
          have kv_15 := (hb15.block _ (lt_blk Hv_14.out)).trans Hv_14.out
          have Hv_15 := Lib.hid kv_15
          have cv0_15 := cell_blk (i := 0) kv_15 rfl
          have cv1_15 := cell_blk (i := 1) kv_15 rfl
          have lv_15 := lt_blk kv_15
          clear kv_15
          have HM_15 := Lib.hid (HM_14.out.below hb15)
          clear hb15
          clear cx0_15 cx1_15 lx_15
          clear cy0_15 cy1_15 ly_15
          clear cv0_15 cv1_15 lv_15
          go_wp2_with fail
          refine (drawMeetSpans_any B n2 c2 l2 _ HN2.out HM_15.out hl2).mono ?_
          rintro e w16 ⟨xs, A', c', rfl, hsx, hx4, hb16⟩
          have HB16 := Lib.hid (HB15.out.trans (hb16.mono HB15.out.size))
          have HM_16 := Lib.hid (HM_15.out.below hb16)
          clear hb16
          have HSX := Lib.hid hsx
          have HMI := fun A c W h => meetSpans_lit A xs.length c xs W rfl h (by omega)
          have HMS := fun A c W h => specMeetSpans_lit A xs.length c xs W rfl h (by omega)
          obtain ⟨mlo2, hmlo2⟩ : ∃ x, x = mtLo xs := ⟨_, rfl⟩
          obtain ⟨mhi2, hmhi2⟩ : ∃ x, x = mtHi xs := ⟨_, rfl⟩
          obtain ⟨mok2, hmok2⟩ : ∃ x, x = mtOk xs := ⟨_, rfl⟩
          rw [← hmlo2, ← hmhi2, ← hmok2] at HMI HMS
          replace HMI := Lib.hid HMI
          replace HMS := Lib.hid HMS
          have heq1 : ∀ W, (Op.equalIn 10000 29 (.agg #[.int .i64 mlo2, .int .i64 mhi2]) (.agg #[.int .i64 mlo2, .int .i64 mhi2])).run Try.prog W = .ok true W := fun W => by rw [eq_span]; simp
          clear hsx hmlo2 hmhi2 hmok2
          go_wp2_with fail
          refine (HMI.out _ _ _ HSX.out).mono ?_
          rintro e w17 ⟨rfl, hb17⟩
          have HB17 := Lib.hid (HB16.out.trans (hb17.mono HB16.out.size))
          have HM_17 := Lib.hid (HM_16.out.below hb17)
          have HSX_17 := Lib.hid (HSX.out.below hb17)
          clear hb17
          have HB18 := Lib.hid (HB17.out.alloc HB17.out.size (.cells #[.int .i64 mlo2, .int .i64 mhi2] 29))
          have HM_18 := Lib.hid (HM_17.out.below (below1 w17 (.cells #[.int .i64 mlo2, .int .i64 mhi2] 29)))
          have HSX_18 := Lib.hid (HSX_17.out.below (below1 w17 (.cells #[.int .i64 mlo2, .int .i64 mhi2] 29)))
          have Hm_18 := Lib.hid (heap_alloc_new w17 (.cells #[.int .i64 mlo2, .int .i64 mhi2] 29))
          go_wp2_with fail
          refine (HMS.out _ _ _ HSX_18.out).mono ?_
          rintro e w19 ⟨rfl, hb19⟩
          have HB19 := Lib.hid (HB18.out.trans (hb19.mono HB18.out.size))
          have km_19 := (hb19.block _ (lt_blk Hm_18.out)).trans Hm_18.out
          have Hm_19 := Lib.hid km_19
          have cm0_19 := cell_blk (i := 0) km_19 rfl
          have cm1_19 := cell_blk (i := 1) km_19 rfl
          have lm_19 := lt_blk km_19
          clear km_19
          have HM_19 := Lib.hid (HM_18.out.below hb19)
          have HSX_19 := Lib.hid (HSX_18.out.below hb19)
          clear hb19
          have HB20 := Lib.hid (HB19.out.alloc HB19.out.size (.cells #[.int .i64 mlo2, .int .i64 mhi2] 29))
          have Hm_20 := Lib.hid ((Below.heap_alloc w19 (.cells #[.int .i64 mlo2, .int .i64 mhi2] 29) _ (lt_blk Hm_19.out)).trans Hm_19.out)
          have HM_20 := Lib.hid (HM_19.out.below (below1 w19 (.cells #[.int .i64 mlo2, .int .i64 mhi2] 29)))
          have Hmeet_20 := Lib.hid (heap_alloc_new w19 (.cells #[.int .i64 mlo2, .int .i64 mhi2] 29))
          go_wp2_with fail
          refine (drawSurelyAfter_any B n2 c2 l2 _ HN2.out HM_20.out hl2).mono ?_
          rintro e w21 ⟨a0, a1, b0, b1, rfl, hb21⟩
          have HB21 := Lib.hid (HB20.out.trans (hb21.mono HB20.out.size))
          have km_21 := (hb21.block _ (lt_blk Hm_20.out)).trans Hm_20.out
          have Hm_21 := Lib.hid km_21
          have cm0_21 := cell_blk (i := 0) km_21 rfl
          have cm1_21 := cell_blk (i := 1) km_21 rfl
          have lm_21 := lt_blk km_21
          clear km_21 cm0_19 cm1_19 lm_19
          have kmeet_21 := (hb21.block _ (lt_blk Hmeet_20.out)).trans Hmeet_20.out
          have Hmeet_21 := Lib.hid kmeet_21
          have cmeet0_21 := cell_blk (i := 0) kmeet_21 rfl
          have cmeet1_21 := cell_blk (i := 1) kmeet_21 rfl
          have lmeet_21 := lt_blk kmeet_21
          clear kmeet_21
          have HM_21 := Lib.hid (HM_20.out.below hb21)
          clear hb21
          obtain ⟨fo, hfo⟩ : ∃ x, x = bothOk a0 a1 b0 b1 := ⟨_, rfl⟩
          obtain ⟨af, haf⟩ : ∃ x, x = afterB a0 a1 b0 b1 := ⟨_, rfl⟩
          obtain ⟨ba, hba⟩ : ∃ x, x = afterB b0 b1 a0 a1 := ⟨_, rfl⟩
          have HAI := fun W => surelyAfter_any a0 a1 b0 b1 W
          have HAS := fun W => specSurelyAfter_any a0 a1 b0 b1 W
          have HBI := fun W => surelyAfter_any b0 b1 a0 a1 W
          rw [both_comm a0 a1 b0 b1] at HBI
          rw [← hfo, ← haf] at HAI HAS
          rw [← hfo, ← hba] at HBI
          have HNB := Lib.hid (show af = true → ba = false by rw [haf, hba]; exact not_both)
          replace HAI := Lib.hid HAI
          replace HAS := Lib.hid HAS
          replace HBI := Lib.hid HBI
          clear hfo haf hba
          have HB22a := Lib.hid (HB21.out.alloc HB21.out.size (.cells #[.int .i64 a0, .int .i64 a1] 29))
          have HB22 := Lib.hid (HB22a.out.alloc HB22a.out.size (.cells #[.int .i64 b0, .int .i64 b1] 29))
          have Hm_22a := Lib.hid ((Below.heap_alloc w21 (.cells #[.int .i64 a0, .int .i64 a1] 29) _ (lt_blk Hm_21.out)).trans Hm_21.out)
          have Hm_22 := Lib.hid ((Below.heap_alloc (w21.alloc (.cells #[.int .i64 a0, .int .i64 a1] 29)) (.cells #[.int .i64 b0, .int .i64 b1] 29) _ (lt_blk Hm_22a.out)).trans Hm_22a.out)
          have Hmeet_22a := Lib.hid ((Below.heap_alloc w21 (.cells #[.int .i64 a0, .int .i64 a1] 29) _ (lt_blk Hmeet_21.out)).trans Hmeet_21.out)
          have Hmeet_22 := Lib.hid ((Below.heap_alloc (w21.alloc (.cells #[.int .i64 a0, .int .i64 a1] 29)) (.cells #[.int .i64 b0, .int .i64 b1] 29) _ (lt_blk Hmeet_22a.out)).trans Hmeet_22a.out)
          have HM_22 := Lib.hid (HM_21.out.below (below2 w21 (.cells #[.int .i64 a0, .int .i64 a1] 29) (.cells #[.int .i64 b0, .int .i64 b1] 29)))
          have Ha_22a := Lib.hid (heap_alloc_new w21 (.cells #[.int .i64 a0, .int .i64 a1] 29))
          have Ha_22 := Lib.hid ((Below.heap_alloc (w21.alloc (.cells #[.int .i64 a0, .int .i64 a1] 29)) (.cells #[.int .i64 b0, .int .i64 b1] 29) _ (lt_blk Ha_22a.out)).trans Ha_22a.out)
          have Hb_22 := Lib.hid (show ((w21.alloc (.cells #[.int .i64 a0, .int .i64 a1] 29)).alloc (.cells #[.int .i64 b0, .int .i64 b1] 29)).heap[w21.heap.size + 1]? = some (.cells #[.int .i64 b0, .int .i64 b1] 29) by have h := heap_alloc_new (w21.alloc (.cells #[.int .i64 a0, .int .i64 a1] 29)) (.cells #[.int .i64 b0, .int .i64 b1] 29); simpa using h)
          go_wp2_with fail
          refine (HAI.out _).mono ?_
          rintro e w23 ⟨rfl, hb23⟩
          have HB23 := Lib.hid (HB22.out.trans (hb23.mono HB22.out.size))
          have km_23 := (hb23.block _ (lt_blk Hm_22.out)).trans Hm_22.out
          have Hm_23 := Lib.hid km_23
          have cm0_23 := cell_blk (i := 0) km_23 rfl
          have cm1_23 := cell_blk (i := 1) km_23 rfl
          have lm_23 := lt_blk km_23
          clear km_23 cm0_21 cm1_21 lm_21
          have kmeet_23 := (hb23.block _ (lt_blk Hmeet_22.out)).trans Hmeet_22.out
          have Hmeet_23 := Lib.hid kmeet_23
          have cmeet0_23 := cell_blk (i := 0) kmeet_23 rfl
          have cmeet1_23 := cell_blk (i := 1) kmeet_23 rfl
          have lmeet_23 := lt_blk kmeet_23
          clear kmeet_23 cmeet0_21 cmeet1_21 lmeet_21
          have ka_23 := (hb23.block _ (lt_blk Ha_22.out)).trans Ha_22.out
          have Ha_23 := Lib.hid ka_23
          have ca0_23 := cell_blk (i := 0) ka_23 rfl
          have ca1_23 := cell_blk (i := 1) ka_23 rfl
          have la_23 := lt_blk ka_23
          clear ka_23
          have kb_23 := (hb23.block _ (lt_blk Hb_22.out)).trans Hb_22.out
          have Hb_23 := Lib.hid kb_23
          have cb0_23 := cell_blk (i := 0) kb_23 rfl
          have cb1_23 := cell_blk (i := 1) kb_23 rfl
          have lb_23 := lt_blk kb_23
          clear kb_23
          have HM_23 := Lib.hid (HM_22.out.below hb23)
          clear hb23
          go_wp2_with fail
          refine (HAS.out _).mono ?_
          rintro e w24 ⟨rfl, hb24⟩
          have HB24 := Lib.hid (HB23.out.trans (hb24.mono HB23.out.size))
          have km_24 := (hb24.block _ (lt_blk Hm_23.out)).trans Hm_23.out
          have Hm_24 := Lib.hid km_24
          have cm0_24 := cell_blk (i := 0) km_24 rfl
          have cm1_24 := cell_blk (i := 1) km_24 rfl
          have lm_24 := lt_blk km_24
          clear km_24 cm0_23 cm1_23 lm_23
          have kmeet_24 := (hb24.block _ (lt_blk Hmeet_23.out)).trans Hmeet_23.out
          have Hmeet_24 := Lib.hid kmeet_24
          have cmeet0_24 := cell_blk (i := 0) kmeet_24 rfl
          have cmeet1_24 := cell_blk (i := 1) kmeet_24 rfl
          have lmeet_24 := lt_blk kmeet_24
          clear kmeet_24 cmeet0_23 cmeet1_23 lmeet_23
          have ka_24 := (hb24.block _ (lt_blk Ha_23.out)).trans Ha_23.out
          have Ha_24 := Lib.hid ka_24
          have ca0_24 := cell_blk (i := 0) ka_24 rfl
          have ca1_24 := cell_blk (i := 1) ka_24 rfl
          have la_24 := lt_blk ka_24
          clear ka_24 ca0_23 ca1_23 la_23
          have kb_24 := (hb24.block _ (lt_blk Hb_23.out)).trans Hb_23.out
          have Hb_24 := Lib.hid kb_24
          have cb0_24 := cell_blk (i := 0) kb_24 rfl
          have cb1_24 := cell_blk (i := 1) kb_24 rfl
          have lb_24 := lt_blk kb_24
          clear kb_24 cb0_23 cb1_23 lb_23
          have HM_24 := Lib.hid (HM_23.out.below hb24)
          clear hb24
          go_wp2_with fail
          refine (HBI.out _).mono ?_
          rintro e w25 ⟨rfl, hb25⟩
          have HB25 := Lib.hid (HB24.out.trans (hb25.mono HB24.out.size))
          have km_25 := (hb25.block _ (lt_blk Hm_24.out)).trans Hm_24.out
          have Hm_25 := Lib.hid km_25
          have cm0_25 := cell_blk (i := 0) km_25 rfl
          have cm1_25 := cell_blk (i := 1) km_25 rfl
          have lm_25 := lt_blk km_25
          clear km_25 cm0_24 cm1_24 lm_24
          have kmeet_25 := (hb25.block _ (lt_blk Hmeet_24.out)).trans Hmeet_24.out
          have Hmeet_25 := Lib.hid kmeet_25
          have cmeet0_25 := cell_blk (i := 0) kmeet_25 rfl
          have cmeet1_25 := cell_blk (i := 1) kmeet_25 rfl
          have lmeet_25 := lt_blk kmeet_25
          clear kmeet_25 cmeet0_24 cmeet1_24 lmeet_24
          have ka_25 := (hb25.block _ (lt_blk Ha_24.out)).trans Ha_24.out
          have Ha_25 := Lib.hid ka_25
          have ca0_25 := cell_blk (i := 0) ka_25 rfl
          have ca1_25 := cell_blk (i := 1) ka_25 rfl
          have la_25 := lt_blk ka_25
          clear ka_25 ca0_24 ca1_24 la_24
          have kb_25 := (hb25.block _ (lt_blk Hb_24.out)).trans Hb_24.out
          have Hb_25 := Lib.hid kb_25
          have cb0_25 := cell_blk (i := 0) kb_25 rfl
          have cb1_25 := cell_blk (i := 1) kb_25 rfl
          have lb_25 := lt_blk kb_25
          clear kb_25 cb0_24 cb1_24 lb_24
          have HM_25 := Lib.hid (HM_24.out.below hb25)
          clear hb25
          clear ca0_25 ca1_25 la_25
          clear cb0_25 cb1_25 lb_25
          go_wp2_with fail
          refine (drawMoveSpan_any B n2 c2 l2 _ HN2.out HM_25.out hl2).mono ?_
          rintro e w26 ⟨e0, e1, by', he0, he1, he2, he3, hby0, hby1, rfl, hb26⟩
          have HB26 := Lib.hid (HB25.out.trans (hb26.mono HB25.out.size))
          have km_26 := (hb26.block _ (lt_blk Hm_25.out)).trans Hm_25.out
          have Hm_26 := Lib.hid km_26
          have cm0_26 := cell_blk (i := 0) km_26 rfl
          have cm1_26 := cell_blk (i := 1) km_26 rfl
          have lm_26 := lt_blk km_26
          clear km_26 cm0_25 cm1_25 lm_25
          have kmeet_26 := (hb26.block _ (lt_blk Hmeet_25.out)).trans Hmeet_25.out
          have Hmeet_26 := Lib.hid kmeet_26
          have cmeet0_26 := cell_blk (i := 0) kmeet_26 rfl
          have cmeet1_26 := cell_blk (i := 1) kmeet_26 rfl
          have lmeet_26 := lt_blk kmeet_26
          clear kmeet_26 cmeet0_25 cmeet1_25 lmeet_25
          have HM_26 := Lib.hid (HM_25.out.below hb26)
          clear hb26
          obtain ⟨zl, hzl⟩ : ∃ x, x = mvLo e0 e1 by' := ⟨_, rfl⟩
          obtain ⟨zh, hzh⟩ : ∃ x, x = mvHi e0 e1 by' := ⟨_, rfl⟩
          obtain ⟨zk, hzk⟩ : ∃ x, x = mvOk e0 e1 by' := ⟨_, rfl⟩
          have HZI := fun W => moveSpan_any e0 e1 by' W
          have HZS := fun W => specMoveSpan_any e0 e1 by' W
          rw [← hzl, ← hzh, ← hzk] at HZI HZS
          replace HZI := Lib.hid HZI
          replace HZS := Lib.hid HZS
          have heq2 : ∀ W, (Op.equalIn 10000 29 (.agg #[.int .i64 zl, .int .i64 zh]) (.agg #[.int .i64 zl, .int .i64 zh])).run Try.prog W = .ok true W := fun W => by rw [eq_span]; simp
          clear hzl hzh hzk
          have HB27 := Lib.hid (HB26.out.alloc HB26.out.size (.cells #[.int .i64 e0, .int .i64 e1] 29))
          have Hm_27 := Lib.hid ((Below.heap_alloc w26 (.cells #[.int .i64 e0, .int .i64 e1] 29) _ (lt_blk Hm_26.out)).trans Hm_26.out)
          have Hmeet_27 := Lib.hid ((Below.heap_alloc w26 (.cells #[.int .i64 e0, .int .i64 e1] 29) _ (lt_blk Hmeet_26.out)).trans Hmeet_26.out)
          have He_27 := Lib.hid (heap_alloc_new w26 (.cells #[.int .i64 e0, .int .i64 e1] 29))
          go_wp2_with fail
          refine (HZI.out _).mono ?_
          rintro e w28 ⟨rfl, hb28⟩
          have HB28 := Lib.hid (HB27.out.trans (hb28.mono HB27.out.size))
          have km_28 := (hb28.block _ (lt_blk Hm_27.out)).trans Hm_27.out
          have Hm_28 := Lib.hid km_28
          have cm0_28 := cell_blk (i := 0) km_28 rfl
          have cm1_28 := cell_blk (i := 1) km_28 rfl
          have lm_28 := lt_blk km_28
          clear km_28 cm0_26 cm1_26 lm_26
          have kmeet_28 := (hb28.block _ (lt_blk Hmeet_27.out)).trans Hmeet_27.out
          have Hmeet_28 := Lib.hid kmeet_28
          have cmeet0_28 := cell_blk (i := 0) kmeet_28 rfl
          have cmeet1_28 := cell_blk (i := 1) kmeet_28 rfl
          have lmeet_28 := lt_blk kmeet_28
          clear kmeet_28 cmeet0_26 cmeet1_26 lmeet_26
          have ke_28 := (hb28.block _ (lt_blk He_27.out)).trans He_27.out
          have He_28 := Lib.hid ke_28
          have ce0_28 := cell_blk (i := 0) ke_28 rfl
          have ce1_28 := cell_blk (i := 1) ke_28 rfl
          have le_28 := lt_blk ke_28
          clear ke_28
          clear hb28
          have HB29 := Lib.hid (HB28.out.alloc HB28.out.size (.cells #[.int .i64 zl, .int .i64 zh] 29))
          have Hm_29 := Lib.hid ((Below.heap_alloc w28 (.cells #[.int .i64 zl, .int .i64 zh] 29) _ (lt_blk Hm_28.out)).trans Hm_28.out)
          have Hmeet_29 := Lib.hid ((Below.heap_alloc w28 (.cells #[.int .i64 zl, .int .i64 zh] 29) _ (lt_blk Hmeet_28.out)).trans Hmeet_28.out)
          have He_29 := Lib.hid ((Below.heap_alloc w28 (.cells #[.int .i64 zl, .int .i64 zh] 29) _ (lt_blk He_28.out)).trans He_28.out)
          have Hz_29 := Lib.hid (heap_alloc_new w28 (.cells #[.int .i64 zl, .int .i64 zh] 29))
          go_wp2_with fail
          refine (HZS.out _).mono ?_
          rintro e w30 ⟨rfl, hb30⟩
          have HB30 := Lib.hid (HB29.out.trans (hb30.mono HB29.out.size))
          have km_30 := (hb30.block _ (lt_blk Hm_29.out)).trans Hm_29.out
          have Hm_30 := Lib.hid km_30
          have cm0_30 := cell_blk (i := 0) km_30 rfl
          have cm1_30 := cell_blk (i := 1) km_30 rfl
          have lm_30 := lt_blk km_30
          clear km_30 cm0_28 cm1_28 lm_28
          have kmeet_30 := (hb30.block _ (lt_blk Hmeet_29.out)).trans Hmeet_29.out
          have Hmeet_30 := Lib.hid kmeet_30
          have cmeet0_30 := cell_blk (i := 0) kmeet_30 rfl
          have cmeet1_30 := cell_blk (i := 1) kmeet_30 rfl
          have lmeet_30 := lt_blk kmeet_30
          clear kmeet_30 cmeet0_28 cmeet1_28 lmeet_28
          have ke_30 := (hb30.block _ (lt_blk He_29.out)).trans He_29.out
          have He_30 := Lib.hid ke_30
          have ce0_30 := cell_blk (i := 0) ke_30 rfl
          have ce1_30 := cell_blk (i := 1) ke_30 rfl
          have le_30 := lt_blk ke_30
          clear ke_30 ce0_28 ce1_28 le_28
          have kz_30 := (hb30.block _ (lt_blk Hz_29.out)).trans Hz_29.out
          have Hz_30 := Lib.hid kz_30
          have cz0_30 := cell_blk (i := 0) kz_30 rfl
          have cz1_30 := cell_blk (i := 1) kz_30 rfl
          have lz_30 := lt_blk kz_30
          clear kz_30
          clear hb30
          clear ce0_30 ce1_30 le_30
          have HEND := Lib.hid (HB30.out.alloc HB30.out.size (.cells #[.int .i64 zl, .int .i64 zh] 29))
          cases af with
          | true =>
            have hnb := HNB.out rfl
            cases ba with
            | true => simp at hnb
            | false =>
              clear hnb
              go_wp2
              go_ret
              exact ⟨rfl, HEND.out⟩
          | false =>
            go_wp2
            go_ret
            exact ⟨rfl, HEND.out⟩
end Go.Proofs.Ytmdejfdkdgpffaa
