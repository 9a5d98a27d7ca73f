/-
  The walk of the law FnSpans.
-/
import Derived.Test.YtoanigbjdfgjcaaSpMath
namespace Go.Proofs.Ytoanigbjdfgjcaa.Sp

open Go.RowKit
set_option linter.unusedVariables false

/-- What the loop over three times keeps: the span, the times, the second clock, the bytes. -/
def LoopRel (w wr : World) (gs gt gd : Nat) (lo hi now d : Int) (B : Option Addr) (l2 : List UInt8) : Prop :=
  Below w.heap.size w wr ∧ wr.heap[gs]? = some (.cells #[.int .i64 lo, .int .i64 hi] 78 (0, 0)) ∧ wr.heap[gt]? = some (.cells #[.int .i64 (now - 1), .int .i64 now, .int .i64 (now + 1)] 3 (0, 0)) ∧
    wr.heap[gd]? = some (.cells #[.int .i64 d] 68 (0, 0)) ∧ BytesAt wr B l2
theorem times_at {w : World} {g k : Nat} {now : Int} (h : w.heap[g]? = some (.cells #[.int .i64 (now - 1), .int .i64 now, .int .i64 (now + 1)] 3 (0, 0))) (hk : k < 3) :
    ∃ t : Int, True ∧ now - 1 ≤ t ∧ t ≤ now + 1 ∧ w.cell? ⟨g, k, none⟩ = some (.int .i64 t) := by
  have hk' : k = 0 ∨ k = 1 ∨ k = 2 := by omega
  rcases hk' with rfl | rfl | rfl
  · exact ⟨now - 1, trivial, by omega, by omega, cell_blk (i := 0) h rfl⟩
  · exact ⟨now, trivial, by omega, by omega, cell_blk (i := 1) h rfl⟩
  · exact ⟨now + 1, trivial, by omega, by omega, cell_blk (i := 2) h rfl⟩

set_option maxRecDepth 100000 in
set_option maxHeartbeats 8000000 in
theorem spansWalk (A B : Option Addr) (n1 c1 n2 c2 : Nat) (l1 l2 : List UInt8) (w : World) (hn1 : l1.length = n1) (hn2 : l2.length = n2) (hm1 : n1 ≤ maxLen) (hm2 : n2 ≤ maxLen) (h1 : BytesAt w A l1) (h2 : BytesAt w B l2) :
    Calls Try.prog 18 #[.slice A n1 c1, .slice B n2 c2] w fun e w' => e = .returned (.bool true) ∧ Below w.heap.size w w' := by
  by_cases hbig : 1048576 < n1 + n2
  · clear h1 h2 hn1 hn2
    go_enter Try.func18, Try.ntmps18
    go_wp2_with fail
    refine (big_yes A B n1 c1 n2 c2 _ hm1 hm2 hbig).mono ?_
    rintro e w' ⟨rfl, rfl⟩
    go_wp2
    go_ret
    exact ⟨rfl, Below.refl _ _⟩
  · have hl1 : n1 ≤ 1048576 := by omega
    have hl2 : n2 ≤ 1048576 := by omega
    have hsum : n1 + n2 ≤ 1048576 := by omega
    have H1 := Lib.hid h1
    have H2 := Lib.hid h2
    have HN1 := Lib.hid hn1
    have HN2 := Lib.hid hn2
    have HB := Lib.hid (Below.refl w.heap.size w)
    clear hm1 hm2 hbig h1 h2 hn1 hn2
    go_enter Try.func18, Try.ntmps18
    go_wp2_with fail
    refine (big_no A B n1 c1 n2 c2 _ hsum).mono ?_
    rintro e w' ⟨rfl, rfl⟩
    go_wp2_with fail
    refine (drawSpanAt_any A n1 c1 l1 _ HN1.out H1.out hl1).mono ?_
    rintro e w1 ⟨o, now, ho0, ho1, hn0, hn1, rfl, hb1⟩
    have HB1 := Lib.hid (HB.out.trans (hb1.mono HB.out.size))
    have HA_1 := Lib.hid (H1.out.below hb1)
    have HM_1 := Lib.hid (H2.out.below hb1)
    clear hb1
    obtain ⟨lo, hlo⟩ : ∃ x, x = saLo o now := ⟨_, rfl⟩
    obtain ⟨hi, hhi⟩ : ∃ x, x = saHi o now := ⟨_, rfl⟩
    obtain ⟨ok, hok⟩ : ∃ x, x = saOk o now := ⟨_, rfl⟩
    have HI := fun W => spanAt_any o now W
    have HS := fun W => specSpanAt_any o now W
    rw [← hlo, ← hhi, ← hok] at HI HS
    have hgood : ok = true → lo ≤ now ∧ now ≤ hi ∧ goodB lo hi = true ∧ 0 ≤ now ∧ now ≤ 100000 := by rw [hlo, hhi, hok]; exact sa_good
    have HGOOD := Lib.hid hgood
    replace HI := Lib.hid HI
    replace HS := Lib.hid HS
    have heq : ∀ W, (Op.equalIn 10000 78 (.agg #[.int .i64 lo, .int .i64 hi]) (.agg #[.int .i64 lo, .int .i64 hi])).run Try.prog W = .ok true W := fun W => by rw [eq_span]; simp
    clear hlo hhi hok hgood
    have HB2 := Lib.hid (HB1.out.alloc HB1.out.size (.cells #[.int .i64 o] 68))
    have HM_2 := Lib.hid (HM_1.out.below (below1 w1 (.cells #[.int .i64 o] 68)))
    have Hc_2 := Lib.hid (heap_alloc_new w1 (.cells #[.int .i64 o] 68))
    go_wp2_with fail
    refine (HI.out _).mono ?_
    rintro e w3 ⟨rfl, hb3⟩
    have HB3 := Lib.hid (HB2.out.trans (hb3.mono HB2.out.size))
    have kc_3 := (hb3.block _ (lt_blk Hc_2.out)).trans Hc_2.out
    have Hc_3 := Lib.hid kc_3
    have cc0_3 := cell_blk (i := 0) kc_3 rfl
    have lc_3 := lt_blk kc_3
    clear kc_3
    have HM_3 := Lib.hid (HM_2.out.below hb3)
    clear hb3
    have HB4 := Lib.hid (HB3.out.alloc HB3.out.size (.cells #[.int .i64 lo, .int .i64 hi] 78))
    have Hc_4 := Lib.hid ((Below.heap_alloc w3 (.cells #[.int .i64 lo, .int .i64 hi] 78) _ (lt_blk Hc_3.out)).trans Hc_3.out)
    have HM_4 := Lib.hid (HM_3.out.below (below1 w3 (.cells #[.int .i64 lo, .int .i64 hi] 78)))
    have Hs_4 := Lib.hid (heap_alloc_new w3 (.cells #[.int .i64 lo, .int .i64 hi] 78))
    go_wp2_with fail
    refine (HS.out _).mono ?_
    rintro e w5 ⟨rfl, hb5⟩
    have HB5 := Lib.hid (HB4.out.trans (hb5.mono HB4.out.size))
    have kc_5 := (hb5.block _ (lt_blk Hc_4.out)).trans Hc_4.out
    have Hc_5 := Lib.hid kc_5
    have cc0_5 := cell_blk (i := 0) kc_5 rfl
    have lc_5 := lt_blk kc_5
    clear kc_5 cc0_3 lc_3
    have ks_5 := (hb5.block _ (lt_blk Hs_4.out)).trans Hs_4.out
    have Hs_5 := Lib.hid ks_5
    have cs0_5 := cell_blk (i := 0) ks_5 rfl
    have cs1_5 := cell_blk (i := 1) ks_5 rfl
    have ls_5 := lt_blk ks_5
    clear ks_5
    have HM_5 := Lib.hid (HM_4.out.below hb5)
    clear hb5
    clear cc0_5 lc_5
    have HB6 := Lib.hid (HB5.out.alloc HB5.out.size (.cells #[.int .i64 lo, .int .i64 hi] 78))
    have Hs_6 := Lib.hid ((Below.heap_alloc w5 (.cells #[.int .i64 lo, .int .i64 hi] 78) _ (lt_blk Hs_5.out)).trans Hs_5.out)
    have HM_6 := Lib.hid (HM_5.out.below (below1 w5 (.cells #[.int .i64 lo, .int .i64 hi] 78)))
    have Hwant_6 := Lib.hid (heap_alloc_new w5 (.cells #[.int .i64 lo, .int .i64 hi] 78))
    go_wp2_with fail
    refine (drawWaitFor_any B n2 c2 l2 _ HN2.out HM_6.out hl2).mono ?_
    rintro e w7 ⟨d, u, t, hd0, hd1, hu0, hu1, ht0, ht1, rfl, hb7⟩
    have HB7 := Lib.hid (HB6.out.trans (hb7.mono HB6.out.size))
    have ks_7 := (hb7.block _ (lt_blk Hs_6.out)).trans Hs_6.out
    have Hs_7 := Lib.hid ks_7
    have cs0_7 := cell_blk (i := 0) ks_7 rfl
    have cs1_7 := cell_blk (i := 1) ks_7 rfl
    have ls_7 := lt_blk ks_7
    clear ks_7 cs0_5 cs1_5 ls_5
    have HM_7 := Lib.hid (HM_6.out.below hb7)
    clear hb7
    clear heq
    obtain ⟨n, hn⟩ : ∃ x, x = waitV d u t := ⟨_, rfl⟩
    obtain ⟨v, hv⟩ : ∃ x, x = waitOk d u t := ⟨_, rfl⟩
    have HWI := fun W => waitFor_any d u t W
    have HWS := fun W => specWaitFor_any d u t W
    rw [← hn, ← hv] at HWI HWS
    have hwait := fun h : waitOk d u t = true => wait_good h
    rw [← hv, ← hn] at hwait
    have HWAIT := Lib.hid hwait
    replace HWI := Lib.hid HWI
    replace HWS := Lib.hid HWS
    clear hn hv hwait
    have HB8 := Lib.hid (HB7.out.alloc HB7.out.size (.cells #[.int .i64 d] 68))
    have Hs_8 := Lib.hid ((Below.heap_alloc w7 (.cells #[.int .i64 d] 68) _ (lt_blk Hs_7.out)).trans Hs_7.out)
    have HM_8 := Lib.hid (HM_7.out.below (below1 w7 (.cells #[.int .i64 d] 68)))
    have Hd_8 := Lib.hid (heap_alloc_new w7 (.cells #[.int .i64 d] 68))
    go_wp2_with fail
    refine (HWI.out _).mono ?_
    rintro e w9 ⟨rfl, hb9⟩
    have HB9 := Lib.hid (HB8.out.trans (hb9.mono HB8.out.size))
    have ks_9 := (hb9.block _ (lt_blk Hs_8.out)).trans Hs_8.out
    have Hs_9 := Lib.hid ks_9
    have cs0_9 := cell_blk (i := 0) ks_9 rfl
    have cs1_9 := cell_blk (i := 1) ks_9 rfl
    have ls_9 := lt_blk ks_9
    clear ks_9 cs0_7 cs1_7 ls_7
    have kd_9 := (hb9.block _ (lt_blk Hd_8.out)).trans Hd_8.out
    have Hd_9 := Lib.hid kd_9
    have cd0_9 := cell_blk (i := 0) kd_9 rfl
    have ld_9 := lt_blk kd_9
    clear kd_9
    have HM_9 := Lib.hid (HM_8.out.below hb9)
    clear hb9
    go_wp2_with fail
    refine (HWS.out _).mono ?_
    rintro e w10 ⟨rfl, hb10⟩
    have HB10 := Lib.hid (HB9.out.trans (hb10.mono HB9.out.size))
    have ks_10 := (hb10.block _ (lt_blk Hs_9.out)).trans Hs_9.out
    have Hs_10 := Lib.hid ks_10
    have cs0_10 := cell_blk (i := 0) ks_10 rfl
    have cs1_10 := cell_blk (i := 1) ks_10 rfl
    have ls_10 := lt_blk ks_10
    clear ks_10 cs0_9 cs1_9 ls_9
    have kd_10 := (hb10.block _ (lt_blk Hd_9.out)).trans Hd_9.out
    have Hd_10 := Lib.hid kd_10
    have cd0_10 := cell_blk (i := 0) kd_10 rfl
    have ld_10 := lt_blk kd_10
    clear kd_10 cd0_9 ld_9
    have HM_10 := Lib.hid (HM_9.out.below hb10)
    clear hb10
    cases ok with
    | false =>
      clear cs0_10 cs1_10 ls_10
      cases v with
      | false =>
        go_wp2_with fail
        refine (drawGoodClock_any B n2 c2 l2 _ HN2.out HM_10.out hl2).mono ?_
        rintro e w11 ⟨o2, ho20, ho21, rfl, hb11⟩
        have HB11 := Lib.hid (HB10.out.trans (hb11.mono HB10.out.size))
        have kd_11 := (hb11.block _ (lt_blk Hd_10.out)).trans Hd_10.out
        have Hd_11 := Lib.hid kd_11
        have cd0_11 := cell_blk (i := 0) kd_11 rfl
        have ld_11 := lt_blk kd_11
        clear kd_11 cd0_10 ld_10
        have HM_11 := Lib.hid (HM_10.out.below hb11)
        clear hb11
        have hx := heap_alloc_new w11 (.cells #[.int .i64 o2] 68)
        have cx := cell_blk (i := 0) hx rfl
        have lx := lt_blk hx
        have HBx := Lib.hid (HB11.out.alloc HB11.out.size (.cells #[.int .i64 o2] 68))
        obtain ⟨gx, hgx⟩ : ∃ g, g = w11.heap.size := ⟨_, rfl⟩
        have HGX := Lib.hid hgx
        rw [← hgx] at cx lx
        clear hx
        go_wp2_with fail
        rw [← hgx]
        clear hgx
        generalize w11.alloc (.cells #[.int .i64 o2] 68) = Wx at *
        go_region_held3 (fun w' => w'.cell? ⟨gx, 0, none⟩ = some (.int .i64 o2) ∧ Below w.heap.size w w' ∧ gx < w'.heap.size)
          (first | exact ⟨cx, HBx.out.drew, lx⟩ | (go_split_ands; exact ⟨kept2 hb4 (by assumption) (by assumption), Below.trans (by assumption) (hb4.mono (Below.size (by assumption))), by have := hb4.size; omega⟩))
          (first | (go_at_call 74; (with_reducible refine (goodClock_any _ _).mono ?_); rintro e w4 ⟨rfl, hb4⟩) | (go_at_call 75; (with_reducible refine (specGoodClock_any _ _).mono ?_); rintro e w4 ⟨rfl, hb4⟩))
        all_goals
          rename_i hh
          obtain ⟨_, hlast, _⟩ := hh
          have HL := Lib.hid hlast
          clear hlast hb4
          go_wp2
          go_ret
          exact ⟨rfl, HL.out⟩
      | true =>
        obtain ⟨q0, q1, q2, q3, s1, a1, p1, hstep⟩ := HWAIT.out rfl
        have HX := fun W => spanAt_any d (u + n) W
        have HP := fun W => isPast_any (saLo d (u + n)) (saHi d (u + n)) t W
        rw [s1] at HX
        rw [a1, p1] at HP
        obtain ⟨xlo, hxlo⟩ : ∃ x, x = saLo d (u + n) := ⟨_, rfl⟩
        obtain ⟨xhi, hxhi⟩ : ∃ x, x = saHi d (u + n) := ⟨_, rfl⟩
        rw [← hxlo, ← hxhi] at HX HP
        replace HX := Lib.hid HX
        replace HP := Lib.hid HP
        have HSTEP := Lib.hid hstep
        clear s1 a1 p1 hstep hxlo hxhi
        go_wp2_with fail
        refine (HX.out _).mono ?_
        rintro e w11 ⟨rfl, hb11⟩
        have HB11 := Lib.hid (HB10.out.trans (hb11.mono HB10.out.size))
        have kd_11 := (hb11.block _ (lt_blk Hd_10.out)).trans Hd_10.out
        have Hd_11 := Lib.hid kd_11
        have cd0_11 := cell_blk (i := 0) kd_11 rfl
        have ld_11 := lt_blk kd_11
        clear kd_11 cd0_10 ld_10
        have HM_11 := Lib.hid (HM_10.out.below hb11)
        clear hb11
        have HB12 := Lib.hid (HB11.out.alloc HB11.out.size (.cells #[.int .i64 xlo, .int .i64 xhi] 78))
        have Hd_12 := Lib.hid ((Below.heap_alloc w11 (.cells #[.int .i64 xlo, .int .i64 xhi] 78) _ (lt_blk Hd_11.out)).trans Hd_11.out)
        have HM_12 := Lib.hid (HM_11.out.below (below1 w11 (.cells #[.int .i64 xlo, .int .i64 xhi] 78)))
        have Hx_12 := Lib.hid (heap_alloc_new w11 (.cells #[.int .i64 xlo, .int .i64 xhi] 78))
        go_wp2_with fail
        refine (HP.out _).mono ?_
        rintro e w13 ⟨rfl, hb13⟩
        have HB13 := Lib.hid (HB12.out.trans (hb13.mono HB12.out.size))
        have kd_13 := (hb13.block _ (lt_blk Hd_12.out)).trans Hd_12.out
        have Hd_13 := Lib.hid kd_13
        have cd0_13 := cell_blk (i := 0) kd_13 rfl
        have ld_13 := lt_blk kd_13
        clear kd_13 cd0_11 ld_11
        have kx_13 := (hb13.block _ (lt_blk Hx_12.out)).trans Hx_12.out
        have Hx_13 := Lib.hid kx_13
        have cx0_13 := cell_blk (i := 0) kx_13 rfl
        have cx1_13 := cell_blk (i := 1) kx_13 rfl
        have lx_13 := lt_blk kx_13
        clear kx_13
        have HM_13 := Lib.hid (HM_12.out.below hb13)
        clear hb13
        clear cx0_13 cx1_13 lx_13
        by_cases hpos : 0 < n
        · skip
          obtain ⟨s2, a2, p2⟩ := HSTEP.out hpos
          have HY := fun W => spanAt_any d (u + n - 1) W
          have HQ := fun W => isPast_any (saLo d (u + n - 1)) (saHi d (u + n - 1)) t W
          rw [s2] at HY
          rw [a2, p2] at HQ
          obtain ⟨ylo, hylo⟩ : ∃ x, x = saLo d (u + n - 1) := ⟨_, rfl⟩
          obtain ⟨yhi, hyhi⟩ : ∃ x, x = saHi d (u + n - 1) := ⟨_, rfl⟩
          rw [← hylo, ← hyhi] at HY HQ
          replace HY := Lib.hid HY
          replace HQ := Lib.hid HQ
          clear s2 a2 p2 hylo hyhi
          go_wp2_with fail
          refine (HY.out _).mono ?_
          rintro e w14 ⟨rfl, hb14⟩
          have HB14 := Lib.hid (HB13.out.trans (hb14.mono HB13.out.size))
          have kd_14 := (hb14.block _ (lt_blk Hd_13.out)).trans Hd_13.out
          have Hd_14 := Lib.hid kd_14
          have cd0_14 := cell_blk (i := 0) kd_14 rfl
          have ld_14 := lt_blk kd_14
          clear kd_14 cd0_13 ld_13
          have HM_14 := Lib.hid (HM_13.out.below hb14)
          clear hb14
          have HB15 := Lib.hid (HB14.out.alloc HB14.out.size (.cells #[.int .i64 ylo, .int .i64 yhi] 78))
          have Hd_15 := Lib.hid ((Below.heap_alloc w14 (.cells #[.int .i64 ylo, .int .i64 yhi] 78) _ (lt_blk Hd_14.out)).trans Hd_14.out)
          have HM_15 := Lib.hid (HM_14.out.below (below1 w14 (.cells #[.int .i64 ylo, .int .i64 yhi] 78)))
          have Hy_15 := Lib.hid (heap_alloc_new w14 (.cells #[.int .i64 ylo, .int .i64 yhi] 78))
          go_wp2_with fail
          refine (HQ.out _).mono ?_
          rintro e w16 ⟨rfl, hb16⟩
          have HB16 := Lib.hid (HB15.out.trans (hb16.mono HB15.out.size))
          have kd_16 := (hb16.block _ (lt_blk Hd_15.out)).trans Hd_15.out
          have Hd_16 := Lib.hid kd_16
          have cd0_16 := cell_blk (i := 0) kd_16 rfl
          have ld_16 := lt_blk kd_16
          clear kd_16 cd0_14 ld_14
          have ky_16 := (hb16.block _ (lt_blk Hy_15.out)).trans Hy_15.out
          have Hy_16 := Lib.hid ky_16
          have cy0_16 := cell_blk (i := 0) ky_16 rfl
          have cy1_16 := cell_blk (i := 1) ky_16 rfl
          have ly_16 := lt_blk ky_16
          clear ky_16
          have HM_16 := Lib.hid (HM_15.out.below hb16)
          clear hb16
          clear cy0_16 cy1_16 ly_16
          clear cd0_16 ld_16
          go_wp2_with fail
          refine (drawGoodClock_any B n2 c2 l2 _ HN2.out HM_16.out hl2).mono ?_
          rintro e w17 ⟨o2, ho20, ho21, rfl, hb17⟩
          have HB17 := Lib.hid (HB16.out.trans (hb17.mono HB16.out.size))
          have HM_17 := Lib.hid (HM_16.out.below hb17)
          clear hb17
          have hx := heap_alloc_new w17 (.cells #[.int .i64 o2] 68)
          have cx := cell_blk (i := 0) hx rfl
          have lx := lt_blk hx
          have HBx := Lib.hid (HB17.out.alloc HB17.out.size (.cells #[.int .i64 o2] 68))
          obtain ⟨gx, hgx⟩ : ∃ g, g = w17.heap.size := ⟨_, rfl⟩
          have HGX := Lib.hid hgx
          rw [← hgx] at cx lx
          clear hx
          go_wp2_with fail
          rw [← hgx]
          clear hgx
          generalize w17.alloc (.cells #[.int .i64 o2] 68) = Wx at *
          go_region_held3 (fun w' => w'.cell? ⟨gx, 0, none⟩ = some (.int .i64 o2) ∧ Below w.heap.size w w' ∧ gx < w'.heap.size)
            (first | exact ⟨cx, HBx.out.drew, lx⟩ | (go_split_ands; exact ⟨kept2 hb4 (by assumption) (by assumption), Below.trans (by assumption) (hb4.mono (Below.size (by assumption))), by have := hb4.size; omega⟩))
            (first | (go_at_call 74; (with_reducible refine (goodClock_any _ _).mono ?_); rintro e w4 ⟨rfl, hb4⟩) | (go_at_call 75; (with_reducible refine (specGoodClock_any _ _).mono ?_); rintro e w4 ⟨rfl, hb4⟩))
          all_goals
            rename_i hh
            obtain ⟨_, hlast, _⟩ := hh
            have HL := Lib.hid hlast
            clear hlast hb4
            go_wp2
            go_ret
            exact ⟨rfl, HL.out⟩
        · skip
          clear cd0_13 ld_13
          go_wp2_with fail
          refine (drawGoodClock_any B n2 c2 l2 _ HN2.out HM_13.out hl2).mono ?_
          rintro e w14 ⟨o2, ho20, ho21, rfl, hb14⟩
          have HB14 := Lib.hid (HB13.out.trans (hb14.mono HB13.out.size))
          have HM_14 := Lib.hid (HM_13.out.below hb14)
          clear hb14
          have hx := heap_alloc_new w14 (.cells #[.int .i64 o2] 68)
          have cx := cell_blk (i := 0) hx rfl
          have lx := lt_blk hx
          have HBx := Lib.hid (HB14.out.alloc HB14.out.size (.cells #[.int .i64 o2] 68))
          obtain ⟨gx, hgx⟩ : ∃ g, g = w14.heap.size := ⟨_, rfl⟩
          have HGX := Lib.hid hgx
          rw [← hgx] at cx lx
          clear hx
          go_wp2_with fail
          rw [← hgx]
          clear hgx
          generalize w14.alloc (.cells #[.int .i64 o2] 68) = Wx at *
          go_region_held3 (fun w' => w'.cell? ⟨gx, 0, none⟩ = some (.int .i64 o2) ∧ Below w.heap.size w w' ∧ gx < w'.heap.size)
            (first | exact ⟨cx, HBx.out.drew, lx⟩ | (go_split_ands; exact ⟨kept2 hb4 (by assumption) (by assumption), Below.trans (by assumption) (hb4.mono (Below.size (by assumption))), by have := hb4.size; omega⟩))
            (first | (go_at_call 74; (with_reducible refine (goodClock_any _ _).mono ?_); rintro e w4 ⟨rfl, hb4⟩) | (go_at_call 75; (with_reducible refine (specGoodClock_any _ _).mono ?_); rintro e w4 ⟨rfl, hb4⟩))
          all_goals
            rename_i hh
            obtain ⟨_, hlast, _⟩ := hh
            have HL := Lib.hid hlast
            clear hlast hb4
            go_wp2
            go_ret
            exact ⟨rfl, HL.out⟩
    | true =>
      obtain ⟨f1, f2, f3, f4, f5⟩ := HGOOD.out rfl
      have HG := fun W => goodSpan_any lo hi W
      rw [f3] at HG
      have HF3 := Lib.hid f3
      replace HG := Lib.hid HG
      clear f3
      go_wp2_with fail
      refine (HG.out _).mono ?_
      rintro e w11 ⟨rfl, hb11⟩
      have HB11 := Lib.hid (HB10.out.trans (hb11.mono HB10.out.size))
      have ks_11 := (hb11.block _ (lt_blk Hs_10.out)).trans Hs_10.out
      have Hs_11 := Lib.hid ks_11
      have cs0_11 := cell_blk (i := 0) ks_11 rfl
      have cs1_11 := cell_blk (i := 1) ks_11 rfl
      have ls_11 := lt_blk ks_11
      clear ks_11 cs0_10 cs1_10 ls_10
      have kd_11 := (hb11.block _ (lt_blk Hd_10.out)).trans Hd_10.out
      have Hd_11 := Lib.hid kd_11
      have cd0_11 := cell_blk (i := 0) kd_11 rfl
      have ld_11 := lt_blk kd_11
      clear kd_11 cd0_10 ld_10
      have HM_11 := Lib.hid (HM_10.out.below hb11)
      clear hb11
      have HB12 := Lib.hid (HB11.out.alloc HB11.out.size (.cells #[.int .i64 (now - 1), .int .i64 now, .int .i64 (now + 1)] 3))
      have Hs_12 := Lib.hid ((Below.heap_alloc w11 (.cells #[.int .i64 (now - 1), .int .i64 now, .int .i64 (now + 1)] 3) _ (lt_blk Hs_11.out)).trans Hs_11.out)
      have Hd_12 := Lib.hid ((Below.heap_alloc w11 (.cells #[.int .i64 (now - 1), .int .i64 now, .int .i64 (now + 1)] 3) _ (lt_blk Hd_11.out)).trans Hd_11.out)
      have HM_12 := Lib.hid (HM_11.out.below (below1 w11 (.cells #[.int .i64 (now - 1), .int .i64 now, .int .i64 (now + 1)] 3)))
      have Ht_12 := Lib.hid (heap_alloc_new w11 (.cells #[.int .i64 (now - 1), .int .i64 now, .int .i64 (now + 1)] 3))
      have HREL := Lib.hid (show LoopRel w (w11.alloc (.cells #[.int .i64 (now - 1), .int .i64 now, .int .i64 (now + 1)] 3)) w3.heap.size w11.heap.size w7.heap.size lo hi now d B l2 from ⟨HB12.out, Hs_12.out, Ht_12.out, Hd_12.out, HM_12.out⟩)
      go_wp2
      go_loopw [112] (fun i wr => ∃ k : Nat, k ≤ 3 ∧ i = .int .i64 k ∧ LoopRel w wr w3.heap.size w11.heap.size w7.heap.size lo hi now d B l2) (fun i _ => 3 - (intOf i).toNat)
      case atStart => exact ⟨0, by omega, rfl, HREL.out⟩
      case round =>
        clear cs0_11 cs1_11 ls_11
        clear cd0_11 ld_11
        obtain ⟨k, hk, rfl, hR⟩ := hrel
        have HR := Lib.hid hR
        obtain ⟨r1, r2, r3, r4, r5⟩ := hR
        have HBr := Lib.hid r1
        have Hs_r := Lib.hid r2
        have Ht_r := Lib.hid r3
        have Hd_r := Lib.hid r4
        have HMr := Lib.hid r5
        have cs0_r := cell_blk (i := 0) r2 rfl
        have cs1_r := cell_blk (i := 1) r2 rfl
        have ls_r := lt_blk r2
        have cd0_r := cell_blk (i := 0) r4 rfl
        have ld_r := lt_blk r4
        have lt_r := lt_blk r3
        by_cases hlt : k < 3
        · obtain ⟨tt, htt, ht0', ht1', ct_r⟩ := times_at r3 hlt
          have a1 := ask_mk (t := tt) HF3.out (by omega)
          obtain ⟨p, hp⟩ : ∃ x, x = pastB lo hi tt := ⟨_, rfl⟩
          obtain ⟨q, hq⟩ : ∃ x, x = aheadB lo hi tt := ⟨_, rfl⟩
          have hp2 : p = true → tt < now := by rw [hp]; unfold pastB; simp only [Bool.and_eq_true, decide_eq_true_eq]; omega
          have hq2 : q = true → now < tt := by rw [hq]; unfold aheadB; simp only [Bool.and_eq_true, decide_eq_true_eq]; omega
          have HPP := fun W => isPast_any lo hi tt W
          have HQQ := fun W => isAhead_any lo hi tt W
          rw [← hp, a1] at HPP
          rw [← hq, a1] at HQQ
          replace HPP := Lib.hid HPP
          replace HQQ := Lib.hid HQQ
          have HP2 := Lib.hid hp2
          have HQ2 := Lib.hid hq2
          have hkn : (k : Int) < 3 := by omega
          have HTT := Lib.hid htt
          clear a1 hp hq hp2 hq2 r1 r2 r3 r4 r5 htt
          go_wp2_with fail
          refine (HPP.out _).mono ?_
          rintro e w101 ⟨rfl, hb101⟩
          have HB101 := Lib.hid (HBr.out.trans (hb101.mono HBr.out.size))
          have ks_101 := (hb101.block _ (lt_blk Hs_r.out)).trans Hs_r.out
          have Hs_101 := Lib.hid ks_101
          have cs0_101 := cell_blk (i := 0) ks_101 rfl
          have cs1_101 := cell_blk (i := 1) ks_101 rfl
          have ls_101 := lt_blk ks_101
          clear ks_101 cs0_r cs1_r ls_r
          have kd_101 := (hb101.block _ (lt_blk Hd_r.out)).trans Hd_r.out
          have Hd_101 := Lib.hid kd_101
          have cd0_101 := cell_blk (i := 0) kd_101 rfl
          have ld_101 := lt_blk kd_101
          clear kd_101 cd0_r ld_r
          have kt_101 := (hb101.block _ (lt_blk Ht_r.out)).trans Ht_r.out
          have Ht_101 := Lib.hid kt_101
          have lt_101 := lt_blk kt_101
          clear kt_101
          have HM_101 := Lib.hid (HMr.out.below hb101)
          clear hb101
          clear ct_r lt_r
          go_wp2_with fail
          refine (HQQ.out _).mono ?_
          rintro e w102 ⟨rfl, hb102⟩
          have HB102 := Lib.hid (HB101.out.trans (hb102.mono HB101.out.size))
          have ks_102 := (hb102.block _ (lt_blk Hs_101.out)).trans Hs_101.out
          have Hs_102 := Lib.hid ks_102
          have cs0_102 := cell_blk (i := 0) ks_102 rfl
          have cs1_102 := cell_blk (i := 1) ks_102 rfl
          have ls_102 := lt_blk ks_102
          clear ks_102 cs0_101 cs1_101 ls_101
          have kd_102 := (hb102.block _ (lt_blk Hd_101.out)).trans Hd_101.out
          have Hd_102 := Lib.hid kd_102
          have cd0_102 := cell_blk (i := 0) kd_102 rfl
          have ld_102 := lt_blk kd_102
          clear kd_102 cd0_101 ld_101
          have kt_102 := (hb102.block _ (lt_blk Ht_101.out)).trans Ht_101.out
          have Ht_102 := Lib.hid kt_102
          have lt_102 := lt_blk kt_102
          clear kt_102 lt_101
          have HM_102 := Lib.hid (HM_101.out.below hb102)
          clear hb102
          clear cs0_102 cs1_102 ls_102 cd0_102 ld_102 lt_102
          have HREL2 := Lib.hid (show LoopRel w w102 w3.heap.size w11.heap.size w7.heap.size lo hi now d B l2 from ⟨HB102.out, Hs_102.out, Ht_102.out, Hd_102.out, HM_102.out⟩)
          cases p with
          | true =>
            have hlt2 := HP2.out rfl
            cases q with
            | true => exact absurd (HQ2.out rfl) (by omega)
            | false =>
              go_wp2
              go_roundw
              case rel => exact ⟨k + 1, by omega, by go_num, HREL2.out⟩
              case measure => simp [intOf]; omega
          | false =>
            cases q with
            | true =>
              have hlt2 := HQ2.out rfl
              go_wp2
              go_roundw
              case rel => exact ⟨k + 1, by omega, by go_num, HREL2.out⟩
              case measure => simp [intOf]; omega
            | false =>
              go_wp2
              go_roundw
              case rel => exact ⟨k + 1, by omega, by go_num, HREL2.out⟩
              case measure => simp [intOf]; omega
        · clear r1 r2 r3 r4 r5
          have hkn : (3 : Int) ≤ (k : Int) := by omega
          clear cs0_r cs1_r ls_r
          cases v with
          | false =>
            go_wp2_with fail
            refine (drawGoodClock_any B n2 c2 l2 _ HN2.out HMr.out hl2).mono ?_
            rintro e w101 ⟨o2, ho20, ho21, rfl, hb101⟩
            have HB101 := Lib.hid (HBr.out.trans (hb101.mono HBr.out.size))
            have kd_101 := (hb101.block _ (lt_blk Hd_r.out)).trans Hd_r.out
            have Hd_101 := Lib.hid kd_101
            have cd0_101 := cell_blk (i := 0) kd_101 rfl
            have ld_101 := lt_blk kd_101
            clear kd_101 cd0_r ld_r
            have HM_101 := Lib.hid (HMr.out.below hb101)
            clear hb101
            have hx := heap_alloc_new w101 (.cells #[.int .i64 o2] 68)
            have cx := cell_blk (i := 0) hx rfl
            have lx := lt_blk hx
            have HBx := Lib.hid (HB101.out.alloc HB101.out.size (.cells #[.int .i64 o2] 68))
            obtain ⟨gx, hgx⟩ : ∃ g, g = w101.heap.size := ⟨_, rfl⟩
            have HGX := Lib.hid hgx
            rw [← hgx] at cx lx
            clear hx
            go_wp2_with fail
            rw [← hgx]
            clear hgx
            generalize w101.alloc (.cells #[.int .i64 o2] 68) = Wx at *
            go_region_held3 (fun w' => w'.cell? ⟨gx, 0, none⟩ = some (.int .i64 o2) ∧ Below w.heap.size w w' ∧ gx < w'.heap.size)
              (first | exact ⟨cx, HBx.out.drew, lx⟩ | (go_split_ands; exact ⟨kept2 hb4 (by assumption) (by assumption), Below.trans (by assumption) (hb4.mono (Below.size (by assumption))), by have := hb4.size; omega⟩))
              (first | (go_at_call 74; (with_reducible refine (goodClock_any _ _).mono ?_); rintro e w4 ⟨rfl, hb4⟩) | (go_at_call 75; (with_reducible refine (specGoodClock_any _ _).mono ?_); rintro e w4 ⟨rfl, hb4⟩))
            all_goals
              rename_i hh
              obtain ⟨_, hlast, _⟩ := hh
              have HL := Lib.hid hlast
              clear hlast hb4
              go_wp2
              go_ret
              exact ⟨rfl, HL.out⟩
          | true =>
            obtain ⟨q0, q1, q2, q3, s1, a1, p1, hstep⟩ := HWAIT.out rfl
            have HX := fun W => spanAt_any d (u + n) W
            have HP := fun W => isPast_any (saLo d (u + n)) (saHi d (u + n)) t W
            rw [s1] at HX
            rw [a1, p1] at HP
            obtain ⟨xlo, hxlo⟩ : ∃ x, x = saLo d (u + n) := ⟨_, rfl⟩
            obtain ⟨xhi, hxhi⟩ : ∃ x, x = saHi d (u + n) := ⟨_, rfl⟩
            rw [← hxlo, ← hxhi] at HX HP
            replace HX := Lib.hid HX
            replace HP := Lib.hid HP
            have HSTEP := Lib.hid hstep
            clear s1 a1 p1 hstep hxlo hxhi
            go_wp2_with fail
            refine (HX.out _).mono ?_
            rintro e w101 ⟨rfl, hb101⟩
            have HB101 := Lib.hid (HBr.out.trans (hb101.mono HBr.out.size))
            have kd_101 := (hb101.block _ (lt_blk Hd_r.out)).trans Hd_r.out
            have Hd_101 := Lib.hid kd_101
            have cd0_101 := cell_blk (i := 0) kd_101 rfl
            have ld_101 := lt_blk kd_101
            clear kd_101 cd0_r ld_r
            have HM_101 := Lib.hid (HMr.out.below hb101)
            clear hb101
            have HB102 := Lib.hid (HB101.out.alloc HB101.out.size (.cells #[.int .i64 xlo, .int .i64 xhi] 78))
            have Hd_102 := Lib.hid ((Below.heap_alloc w101 (.cells #[.int .i64 xlo, .int .i64 xhi] 78) _ (lt_blk Hd_101.out)).trans Hd_101.out)
            have HM_102 := Lib.hid (HM_101.out.below (below1 w101 (.cells #[.int .i64 xlo, .int .i64 xhi] 78)))
            have Hx_102 := Lib.hid (heap_alloc_new w101 (.cells #[.int .i64 xlo, .int .i64 xhi] 78))
            go_wp2_with fail
            refine (HP.out _).mono ?_
            rintro e w103 ⟨rfl, hb103⟩
            have HB103 := Lib.hid (HB102.out.trans (hb103.mono HB102.out.size))
            have kd_103 := (hb103.block _ (lt_blk Hd_102.out)).trans Hd_102.out
            have Hd_103 := Lib.hid kd_103
            have cd0_103 := cell_blk (i := 0) kd_103 rfl
            have ld_103 := lt_blk kd_103
            clear kd_103 cd0_101 ld_101
            have kx_103 := (hb103.block _ (lt_blk Hx_102.out)).trans Hx_102.out
            have Hx_103 := Lib.hid kx_103
            have cx0_103 := cell_blk (i := 0) kx_103 rfl
            have cx1_103 := cell_blk (i := 1) kx_103 rfl
            have lx_103 := lt_blk kx_103
            clear kx_103
            have HM_103 := Lib.hid (HM_102.out.below hb103)
            clear hb103
            clear cx0_103 cx1_103 lx_103
            by_cases hpos : 0 < n
            · skip
              obtain ⟨s2, a2, p2⟩ := HSTEP.out hpos
              have HY := fun W => spanAt_any d (u + n - 1) W
              have HQ := fun W => isPast_any (saLo d (u + n - 1)) (saHi d (u + n - 1)) t W
              rw [s2] at HY
              rw [a2, p2] at HQ
              obtain ⟨ylo, hylo⟩ : ∃ x, x = saLo d (u + n - 1) := ⟨_, rfl⟩
              obtain ⟨yhi, hyhi⟩ : ∃ x, x = saHi d (u + n - 1) := ⟨_, rfl⟩
              rw [← hylo, ← hyhi] at HY HQ
              replace HY := Lib.hid HY
              replace HQ := Lib.hid HQ
              clear s2 a2 p2 hylo hyhi
              go_wp2_with fail
              refine (HY.out _).mono ?_
              rintro e w104 ⟨rfl, hb104⟩
              have HB104 := Lib.hid (HB103.out.trans (hb104.mono HB103.out.size))
              have kd_104 := (hb104.block _ (lt_blk Hd_103.out)).trans Hd_103.out
              have Hd_104 := Lib.hid kd_104
              have cd0_104 := cell_blk (i := 0) kd_104 rfl
              have ld_104 := lt_blk kd_104
              clear kd_104 cd0_103 ld_103
              have HM_104 := Lib.hid (HM_103.out.below hb104)
              clear hb104
              have HB105 := Lib.hid (HB104.out.alloc HB104.out.size (.cells #[.int .i64 ylo, .int .i64 yhi] 78))
              have Hd_105 := Lib.hid ((Below.heap_alloc w104 (.cells #[.int .i64 ylo, .int .i64 yhi] 78) _ (lt_blk Hd_104.out)).trans Hd_104.out)
              have HM_105 := Lib.hid (HM_104.out.below (below1 w104 (.cells #[.int .i64 ylo, .int .i64 yhi] 78)))
              have Hy_105 := Lib.hid (heap_alloc_new w104 (.cells #[.int .i64 ylo, .int .i64 yhi] 78))
              go_wp2_with fail
              refine (HQ.out _).mono ?_
              rintro e w106 ⟨rfl, hb106⟩
              have HB106 := Lib.hid (HB105.out.trans (hb106.mono HB105.out.size))
              have kd_106 := (hb106.block _ (lt_blk Hd_105.out)).trans Hd_105.out
              have Hd_106 := Lib.hid kd_106
              have cd0_106 := cell_blk (i := 0) kd_106 rfl
              have ld_106 := lt_blk kd_106
              clear kd_106 cd0_104 ld_104
              have ky_106 := (hb106.block _ (lt_blk Hy_105.out)).trans Hy_105.out
              have Hy_106 := Lib.hid ky_106
              have cy0_106 := cell_blk (i := 0) ky_106 rfl
              have cy1_106 := cell_blk (i := 1) ky_106 rfl
              have ly_106 := lt_blk ky_106
              clear ky_106
              have HM_106 := Lib.hid (HM_105.out.below hb106)
              clear hb106
              clear cy0_106 cy1_106 ly_106
              clear cd0_106 ld_106
              go_wp2_with fail
              refine (drawGoodClock_any B n2 c2 l2 _ HN2.out HM_106.out hl2).mono ?_
              rintro e w107 ⟨o2, ho20, ho21, rfl, hb107⟩
              have HB107 := Lib.hid (HB106.out.trans (hb107.mono HB106.out.size))
              have HM_107 := Lib.hid (HM_106.out.below hb107)
              clear hb107
              have hx := heap_alloc_new w107 (.cells #[.int .i64 o2] 68)
              have cx := cell_blk (i := 0) hx rfl
              have lx := lt_blk hx
              have HBx := Lib.hid (HB107.out.alloc HB107.out.size (.cells #[.int .i64 o2] 68))
              obtain ⟨gx, hgx⟩ : ∃ g, g = w107.heap.size := ⟨_, rfl⟩
              have HGX := Lib.hid hgx
              rw [← hgx] at cx lx
              clear hx
              go_wp2_with fail
              rw [← hgx]
              clear hgx
              generalize w107.alloc (.cells #[.int .i64 o2] 68) = Wx at *
              go_region_held3 (fun w' => w'.cell? ⟨gx, 0, none⟩ = some (.int .i64 o2) ∧ Below w.heap.size w w' ∧ gx < w'.heap.size)
                (first | exact ⟨cx, HBx.out.drew, lx⟩ | (go_split_ands; exact ⟨kept2 hb4 (by assumption) (by assumption), Below.trans (by assumption) (hb4.mono (Below.size (by assumption))), by have := hb4.size; omega⟩))
                (first | (go_at_call 74; (with_reducible refine (goodClock_any _ _).mono ?_); rintro e w4 ⟨rfl, hb4⟩) | (go_at_call 75; (with_reducible refine (specGoodClock_any _ _).mono ?_); rintro e w4 ⟨rfl, hb4⟩))
              all_goals
                rename_i hh
                obtain ⟨_, hlast, _⟩ := hh
                have HL := Lib.hid hlast
                clear hlast hb4
                go_wp2
                go_ret
                exact ⟨rfl, HL.out⟩
            · skip
              clear cd0_103 ld_103
              go_wp2_with fail
              refine (drawGoodClock_any B n2 c2 l2 _ HN2.out HM_103.out hl2).mono ?_
              rintro e w104 ⟨o2, ho20, ho21, rfl, hb104⟩
              have HB104 := Lib.hid (HB103.out.trans (hb104.mono HB103.out.size))
              have HM_104 := Lib.hid (HM_103.out.below hb104)
              clear hb104
              have hx := heap_alloc_new w104 (.cells #[.int .i64 o2] 68)
              have cx := cell_blk (i := 0) hx rfl
              have lx := lt_blk hx
              have HBx := Lib.hid (HB104.out.alloc HB104.out.size (.cells #[.int .i64 o2] 68))
              obtain ⟨gx, hgx⟩ : ∃ g, g = w104.heap.size := ⟨_, rfl⟩
              have HGX := Lib.hid hgx
              rw [← hgx] at cx lx
              clear hx
              go_wp2_with fail
              rw [← hgx]
              clear hgx
              generalize w104.alloc (.cells #[.int .i64 o2] 68) = Wx at *
              go_region_held3 (fun w' => w'.cell? ⟨gx, 0, none⟩ = some (.int .i64 o2) ∧ Below w.heap.size w w' ∧ gx < w'.heap.size)
                (first | exact ⟨cx, HBx.out.drew, lx⟩ | (go_split_ands; exact ⟨kept2 hb4 (by assumption) (by assumption), Below.trans (by assumption) (hb4.mono (Below.size (by assumption))), by have := hb4.size; omega⟩))
                (first | (go_at_call 74; (with_reducible refine (goodClock_any _ _).mono ?_); rintro e w4 ⟨rfl, hb4⟩) | (go_at_call 75; (with_reducible refine (specGoodClock_any _ _).mono ?_); rintro e w4 ⟨rfl, hb4⟩))
              all_goals
                rename_i hh
                obtain ⟨_, hlast, _⟩ := hh
                have HL := Lib.hid hlast
                clear hlast hb4
                go_wp2
                go_ret
                exact ⟨rfl, HL.out⟩
end Go.Proofs.Ytoanigbjdfgjcaa.Sp
