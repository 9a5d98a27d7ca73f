/-
  Contracts for the model's checks of a watch: l2Clock, l10Good, GoodWatch.
-/
import Derived.Test.YtpppgihoekfmoaaWtGood
namespace Go.Proofs.Ytpppgihoekfmoaa.Wt
open Go.RowKit
set_option linter.unusedVariables false
set_option linter.unusedSimpArgs false

theorem l2Clock_any (a : Int) (w : World) :
    Calls Try.prog 49 #[.agg #[.int .i64 a]] w fun e w' => e = .returned (.bool (inB a (-5) 5)) ∧ Below w.heap.size w w' := by
  have HI := Lib.hid (fun W => l1In_any a (-5) 5 W)
  go_enter Try.func49, Try.ntmps49
  go_wp2_with fail
  refine (HI.out _).mono ?_
  rintro e w1 ⟨rfl, rfl⟩
  go_wp2
  go_ret
  exact ⟨rfl, below1 _ _⟩

set_option maxRecDepth 100000 in
set_option maxHeartbeats 4000000 in
theorem l10Good_any (tm : Int) (A A' : Option Addr) (n c n' c' : Nat) (is : List Int) (ls : List (Int × Int × Int)) (B : Nat) (w : World) (hn : is.length = n) (hn' : ls.length = n') (h : CksB w B A is) (h' : LesB w B A' ls) (hB : B ≤ w.heap.size) :
    Calls Try.prog 28 #[.agg #[.int .i64 tm, .slice A n c, .slice A' n' c']] w fun e w' => e = .returned (.bool (wchB tm is ls)) ∧ Below w.heap.size w w' := by
  have HB0 := Lib.hid (below1 w (.cells #[.int .i64 tm, .slice A n c, .slice A' n' c'] 30))
  have HBK := Lib.hid (heap_alloc_new w (.cells #[.int .i64 tm, .slice A n c, .slice A' n' c'] 30))
  have HI1 := Lib.hid (fun W => l1In_any tm 0 100000 W)
  have HI2 := Lib.hid (fun W => l1In_any (n : Int) 1 5 W)
  have hge := Nat.le_of_eq hn
  have hle := Nat.le_of_eq hn.symm
  have hge' := Nat.le_of_eq hn'
  have hle' := Nat.le_of_eq hn'.symm
  have HS := Lib.hid h
  have HL := Lib.hid h'
  obtain ⟨r1, hr1⟩ : ∃ r, r = clksB is := ⟨_, rfl⟩
  have HR1 := Lib.hid (show r1 = clksB (is.drop 0) from hr1)
  obtain ⟨r2, hr2⟩ : ∃ r, r = ls.all (lseB n) := ⟨_, rfl⟩
  have HR2 := Lib.hid (show r2 = (ls.drop 0).all (lseB n) from hr2)
  unfold wchB
  rw [hn, hn', ← hr1, ← hr2]
  clear h h' hn hn' hr1 hr2
  cases h1 : inB tm 0 100000 with
  | false =>
    rw [h1] at HI1
    simp only [Bool.false_and]
    clear h1
    go_enter Try.func28, Try.ntmps28
    go_wp2_with fail
    refine (HI1.out _).mono ?_
    rintro e w1 ⟨rfl, rfl⟩
    go_wp2
    go_ret
    exact ⟨rfl, HB0.out⟩
  | true =>
    rw [h1] at HI1
    simp only [Bool.true_and]
    clear h1
    cases h2 : inB (n : Int) 1 5 with
    | false =>
      rw [h2] at HI2
      simp only [Bool.false_and]
      clear h2
      go_enter Try.func28, Try.ntmps28
      go_wp2_with fail
      refine (HI1.out _).mono ?_
      rintro e w1 ⟨rfl, rfl⟩
      go_wp2_with fail
      refine (HI2.out _).mono ?_
      rintro e w2 ⟨rfl, rfl⟩
      go_wp2
      go_ret
      exact ⟨rfl, HB0.out⟩
    | true =>
      rw [h2] at HI2
      simp only [Bool.true_and]
      have hn5 : n ≤ 5 := by have := inB_true h2; omega
      clear h2
      by_cases h40 : n' ≤ 40
      · rw [decide_eq_true h40, Bool.true_and]
        have h40i : (n' : Int) ≤ 40 := by omega
        go_enter Try.func28, Try.ntmps28
        go_wp2_with fail
        refine (HI1.out _).mono ?_
        rintro e w1 ⟨rfl, rfl⟩
        go_wp2_with fail
        refine (HI2.out _).mono ?_
        rintro e w2 ⟨rfl, rfl⟩
        go_wp2
        go_loopw [3] (fun i wr => ∃ k : Nat, k ≤ n ∧ i = .int .i64 k ∧ Hid (r1 = clksB (is.drop k)) ∧ Hid (Below w.heap.size w wr) ∧ Hid (wr.heap[w.heap.size]? = some (.cells #[.int .i64 tm, .slice A n c, .slice A' n' c'] 30 (0, 0)))) (fun i _ => n - (intOf i).toNat)
        case atStart => exact ⟨0, by omega, rfl, HR1, HB0.out, HBK.out⟩
        case round =>
          clear HR1 HB0 HBK
          obtain ⟨k, hk, rfl, HR1, HB, HK⟩ := hrel
          have k0 := cell_of_row _ _ 0 _ 30 (0, 0) HK.out
          have k1 := cell_of_row _ _ 1 _ 30 (0, 0) HK.out
          have k2 := cell_of_row _ _ 2 _ 30 (0, 0) HK.out
          have hlw := lt_blk HK.out
          by_cases hlt : k < n
          · obtain ⟨b, off, rfl, hbB, hc⟩ := HS.out.get (by omega)
            have c0 := (HB.out.cell (p := ⟨b, off + k, none⟩) (Nat.lt_of_lt_of_le hbB hB)).trans (hc k (by omega))
            have HRS := Lib.hid (HR1.out.trans (clks_step (show k < is.length by omega)))
            obtain ⟨y, hy⟩ : ∃ y, y = is[k]'(by omega) := ⟨_, rfl⟩
            rw [← hy] at c0 HRS
            have hk0 : (0 : Int) ≤ (k : Int) := by omega
            have hkn : (k : Int) < (n : Int) := by omega
            have HC := Lib.hid (fun W => l2Clock_any y W)
            clear hc hy HR1
            cases h1 : inB y (-5) 5 with
            | false =>
              have HNO := Lib.hid (ret_bool (show false = (r1 && r2) by rw [HRS.out, h1]; rfl))
              rw [h1] at HC
              clear h1 HRS
              go_wp2_with fail
              refine (HC.out _).mono ?_
              rintro e w4 ⟨rfl, hb4⟩
              have HBF := Lib.hid (HB.out.trans (hb4.mono HB.out.size))
              clear hb4 c0 k0 k1 k2
              go_wp2
              go_ret
              exact ⟨HNO.out, HBF.out⟩
            | true =>
              have HR3 := Lib.hid (show r1 = clksB (is.drop (k + 1)) by rw [HRS.out, h1, Bool.true_and])
              rw [h1] at HC
              clear h1 HRS
              go_wp2_with fail
              refine (HC.out _).mono ?_
              rintro e w4 ⟨rfl, hb4⟩
              have HBF := Lib.hid (HB.out.trans (hb4.mono HB.out.size))
              have HKF := Lib.hid ((hb4.block w.heap.size hlw).trans HK.out)
              clear hb4 c0 k0 k1 k2
              go_wp2
              go_roundw
              case rel => exact ⟨k + 1, by omega, by go_num, HR3, HBF.out, HKF.out⟩
              case measure => simp [intOf]; omega
          · have hr1 : r1 = true := by rw [HR1.out, clks_end (by omega)]
            subst hr1
            go_wp2
            go_loopw [4] (fun i wr => ∃ k : Nat, k ≤ n' ∧ i = .int .i64 k ∧ Hid (r2 = (ls.drop k).all (lseB n)) ∧ Hid (Below w.heap.size w wr) ∧ Hid (wr.heap[w.heap.size]? = some (.cells #[.int .i64 tm, .slice A n c, .slice A' n' c'] 30 (0, 0)))) (fun i _ => n' - (intOf i).toNat)
            case atStart => exact ⟨0, by omega, rfl, HR2, HB, HK⟩
            case round =>
              clear HB HK HR2
              obtain ⟨k, hk, rfl, HR2, HB, HK⟩ := hrel
              have k0 := cell_of_row _ _ 0 _ 30 (0, 0) HK.out
              have k1 := cell_of_row _ _ 1 _ 30 (0, 0) HK.out
              have k2 := cell_of_row _ _ 2 _ 30 (0, 0) HK.out
              have hlw := lt_blk HK.out
              by_cases hlt : k < n'
              · obtain ⟨b, off, rfl, hbB, hc⟩ := HL.out.get (by omega)
                obtain ⟨hc0, hc1, hc2⟩ := hc k (by omega)
                have c0 := (HB.out.cell (p := ⟨b, off + k * 3, none⟩) (Nat.lt_of_lt_of_le hbB hB)).trans hc0
                have c1 := (HB.out.cell (p := ⟨b, off + k * 3 + 1, none⟩) (Nat.lt_of_lt_of_le hbB hB)).trans hc1
                have c2 := (HB.out.cell (p := ⟨b, off + k * 3 + 2, none⟩) (Nat.lt_of_lt_of_le hbB hB)).trans hc2
                have HRS := Lib.hid (HR2.out.trans (lses_step (show k < ls.length by omega)))
                obtain ⟨y, hy⟩ : ∃ y, y = ls[k]'(by omega) := ⟨_, rfl⟩
                rw [← hy] at c0 c1 c2 HRS
                obtain ⟨s0, s1, s2⟩ := y
                simp only at c0 c1 c2
                have hk0 : (0 : Int) ≤ (k : Int) := by omega
                have hkn : (k : Int) < (n' : Int) := by omega
                have HJ1 := Lib.hid (fun W => l1In_any s0 0 ((n : Int) - 1) W)
                have HJ2 := Lib.hid (fun W => l1In_any s1 (-20) 100020 W)
                have HJ3 := Lib.hid (fun W => l1In_any s2 (-20) 100200 W)
                have HB1 := Lib.hid (below1 wr (.cells #[.int .i64 s0, .int .i64 s1, .int .i64 s2] 55))
                have HRX := Lib.hid (show r2 = (inB s0 0 ((n : Int) - 1) && (inB s1 (-20) 100020 && (inB s2 (-20) 100200 && (ls.drop (k + 1)).all (lseB n)))) by rw [HRS.out]; unfold lseB; simp only [Bool.and_assoc])
                have HBF := Lib.hid (HB.out.trans (HB1.out.mono HB.out.size))
                have HKF := Lib.hid ((HB1.out.block w.heap.size hlw).trans HK.out)
                clear hc hc0 hc1 hc2 hy HR2 HRS
                cases h1 : inB s0 0 ((n : Int) - 1) with
                | false =>
                  rw [h1] at HJ1
                  have HNO := Lib.hid (ret_bool (show false = (true && r2) by rw [Bool.true_and, HRX.out, h1]; rfl))
                  clear h1 HRX
                  go_wp2_with fail
                  refine (HJ1.out _).mono ?_
                  rintro e w4 ⟨rfl, rfl⟩
                  go_wp2
                  go_ret
                  exact ⟨HNO.out, HBF.out⟩
                | true =>
                  rw [h1] at HJ1
                  cases h2 : inB s1 (-20) 100020 with
                  | false =>
                    rw [h2] at HJ2
                    have HNO := Lib.hid (ret_bool (show false = (true && r2) by rw [Bool.true_and, HRX.out, h1, h2]; rfl))
                    clear h1 h2 HRX
                    go_wp2_with fail
                    refine (HJ1.out _).mono ?_
                    rintro e w4 ⟨rfl, rfl⟩
                    go_wp2_with fail
                    refine (HJ2.out _).mono ?_
                    rintro e w4 ⟨rfl, rfl⟩
                    go_wp2
                    go_ret
                    exact ⟨HNO.out, HBF.out⟩
                  | true =>
                    rw [h2] at HJ2
                    cases h3 : inB s2 (-20) 100200 with
                    | false =>
                      rw [h3] at HJ3
                      have HNO := Lib.hid (ret_bool (show false = (true && r2) by rw [Bool.true_and, HRX.out, h1, h2, h3]; rfl))
                      clear h1 h2 h3 HRX
                      go_wp2_with fail
                      refine (HJ1.out _).mono ?_
                      rintro e w4 ⟨rfl, rfl⟩
                      go_wp2_with fail
                      refine (HJ2.out _).mono ?_
                      rintro e w4 ⟨rfl, rfl⟩
                      go_wp2_with fail
                      refine (HJ3.out _).mono ?_
                      rintro e w4 ⟨rfl, rfl⟩
                      go_wp2
                      go_ret
                      exact ⟨HNO.out, HBF.out⟩
                    | true =>
                      rw [h3] at HJ3
                      have HR3 := Lib.hid (show r2 = (ls.drop (k + 1)).all (lseB n) by rw [HRX.out, h1, h2, h3]; rfl)
                      clear h1 h2 h3 HRX
                      go_wp2_with fail
                      refine (HJ1.out _).mono ?_
                      rintro e w4 ⟨rfl, rfl⟩
                      go_wp2_with fail
                      refine (HJ2.out _).mono ?_
                      rintro e w4 ⟨rfl, rfl⟩
                      go_wp2_with fail
                      refine (HJ3.out _).mono ?_
                      rintro e w4 ⟨rfl, rfl⟩
                      go_wp2
                      go_roundw
                      case rel => exact ⟨k + 1, by omega, by go_num, HR3, HBF.out, HKF.out⟩
                      case measure => simp [intOf]; omega
              · have HYES := Lib.hid (ret_bool (show true = (true && r2) by rw [Bool.true_and, HR2.out, lses_end (by omega)]))
                have HBB := Lib.hid HB.out
                go_wp2
                go_ret
                exact ⟨HYES.out, HBB.out⟩
      · rw [decide_eq_false h40, Bool.false_and]
        have h40i : (40 : Int) < (n' : Int) := by omega
        clear h40
        go_enter Try.func28, Try.ntmps28
        go_wp2_with fail
        refine (HI1.out _).mono ?_
        rintro e w1 ⟨rfl, rfl⟩
        go_wp2_with fail
        refine (HI2.out _).mono ?_
        rintro e w2 ⟨rfl, rfl⟩
        go_wp2
        go_ret
        exact ⟨rfl, HB0.out⟩

end Go.Proofs.Ytpppgihoekfmoaa.Wt
