/-
  Contracts for the program's checks of a watch: isTrueTime, GoodClock, hasClock, goodEnds, goodClocks, goodGiven, GoodWatch.
-/
import Derived.Test.YtpppgihoekfmoaaWtMem
namespace Go.Proofs.Ytpppgihoekfmoaa.Wt
open Go.RowKit
set_option linter.unusedVariables false
set_option linter.unusedSimpArgs false

theorem isTrueTimeW_any (a : Int) (w : World) :
    Calls Try.prog 33 #[.int .i64 a] w fun e w' => e = .returned (.bool (inB a 0 100000)) ∧ w = w' := by
  by_cases h1 : (0 : Int) ≤ a
  · by_cases h2 : a ≤ 100000
    · rw [inB_mk ⟨h1, h2⟩]
      go_enter Try.func33, Try.ntmps33
      go_wp2
      go_ret
      exact ⟨rfl, rfl⟩
    · rw [inB_not (by omega)]
      go_enter Try.func33, Try.ntmps33
      go_wp2
      go_ret
      exact ⟨rfl, rfl⟩
  · rw [inB_not (by omega)]
    go_enter Try.func33, Try.ntmps33
    go_wp2
    go_ret
    exact ⟨rfl, rfl⟩

theorem goodClock_any (a : Int) (w : World) :
    Calls Try.prog 61 #[.agg #[.int .i64 a]] w fun e w' => e = .returned (.bool (inB a (-5) 5)) ∧ Below w.heap.size w w' := by
  by_cases h1 : (-5 : Int) ≤ a
  · by_cases h2 : a ≤ 5
    · rw [inB_mk ⟨h1, h2⟩]
      go_enter Try.func61, Try.ntmps61
      go_wp2
      go_ret
      exact ⟨rfl, below1 _ _⟩
    · rw [inB_not (by omega)]
      go_enter Try.func61, Try.ntmps61
      go_wp2
      go_ret
      exact ⟨rfl, below1 _ _⟩
  · rw [inB_not (by omega)]
    go_enter Try.func61, Try.ntmps61
    go_wp2
    go_ret
    exact ⟨rfl, below1 _ _⟩

set_option maxHeartbeats 400000 in
theorem hasClock_any (tm : Int) (A A' : Option Addr) (n c n' c' : Nat) (a : Int) (w : World) :
    Calls Try.prog 53 #[.agg #[.int .i64 tm, .slice A n c, .slice A' n' c'], .int .i64 a] w fun e w' => e = .returned (.bool (inB a 0 ((n : Int) - 1))) ∧ Below w.heap.size w w' := by
  by_cases h1 : 0 ≤ a
  · by_cases h2 : a < (n : Int)
    · rw [inB_mk (show 0 ≤ a ∧ a ≤ (n : Int) - 1 by omega)]
      go_enter Try.func53, Try.ntmps53
      go_wp2
      go_ret
      exact ⟨rfl, below1 _ _⟩
    · rw [inB_not (by omega)]
      have h3 : decide (a < (n : Int)) = false := by simp; omega
      clear h2
      go_enter Try.func53, Try.ntmps53
      go_wp2
      go_ret
      exact ⟨rfl, below1 _ _⟩
  · rw [inB_not (by omega)]
    go_enter Try.func53, Try.ntmps53
    go_wp2
    go_ret
    exact ⟨rfl, below1 _ _⟩

set_option maxHeartbeats 1000000 in
theorem goodEnds_any (p a b : Int) (w : World) :
    Calls Try.prog 62 #[.agg #[.int .i64 p, .int .i64 a, .int .i64 b]] w fun e w' => e = .returned (.bool (inB a (-20) 100020 && inB b (-20) 100200)) ∧ Below w.heap.size w w' := by
  by_cases h1 : (-20 : Int) ≤ a
  · by_cases h2 : a ≤ 100020
    · rw [inB_mk ⟨h1, h2⟩, Bool.true_and]
      by_cases h3 : (-20 : Int) ≤ b
      · by_cases h4 : b ≤ 100200
        · rw [inB_mk ⟨h3, h4⟩]
          go_enter Try.func62, Try.ntmps62
          go_wp2
          go_ret
          exact ⟨rfl, below1 _ _⟩
        · rw [inB_not (by omega)]
          go_enter Try.func62, Try.ntmps62
          go_wp2
          go_ret
          exact ⟨rfl, below1 _ _⟩
      · rw [inB_not (by omega)]
        go_enter Try.func62, Try.ntmps62
        go_wp2
        go_ret
        exact ⟨rfl, below1 _ _⟩
    · rw [inB_not (by omega), Bool.false_and]
      go_enter Try.func62, Try.ntmps62
      go_wp2
      go_ret
      exact ⟨rfl, below1 _ _⟩
  · rw [inB_not (by omega), Bool.false_and]
    go_enter Try.func62, Try.ntmps62
    go_wp2
    go_ret
    exact ⟨rfl, below1 _ _⟩

theorem clks_step {is : List Int} {k : Nat} (hk : k < is.length) : clksB (is.drop k) = (inB is[k] (-5) 5 && clksB (is.drop (k + 1))) := by
  unfold clksB
  rw [List.drop_eq_getElem_cons hk, List.all_cons]
theorem clks_end {is : List Int} {k : Nat} (hk : is.length ≤ k) : clksB (is.drop k) = true := by
  rw [List.drop_of_length_le hk]; rfl
theorem lses_step {m : Nat} {ls : List (Int × Int × Int)} {k : Nat} (hk : k < ls.length) : (ls.drop k).all (lseB m) = (lseB m ls[k] && (ls.drop (k + 1)).all (lseB m)) := by
  rw [List.drop_eq_getElem_cons hk, List.all_cons]
theorem lses_end {m : Nat} {ls : List (Int × Int × Int)} {k : Nat} (hk : ls.length ≤ k) : (ls.drop k).all (lseB m) = true := by
  rw [List.drop_of_length_le hk]; rfl
theorem inB_len {n : Nat} : inB (n : Int) 1 5 = (decide (1 ≤ n) && decide (n ≤ 5)) := by
  unfold inB
  congr 1 <;> (rw [decide_eq_decide]; omega)

set_option maxRecDepth 100000 in
set_option maxHeartbeats 1000000 in
theorem goodClocks_any (A : Option Addr) (n c : Nat) (is : List Int) (B : Nat) (w : World) (hn : is.length = n) (h : CksB w B A is) (hB : B ≤ w.heap.size) :
    Calls Try.prog 44 #[.slice A n c] w fun e w' => e = .returned (.bool (inB (n : Int) 1 5 && clksB is)) ∧ Below w.heap.size w w' := by
  by_cases h15 : 1 ≤ n ∧ n ≤ 5
  · rw [inB_mk (show 1 ≤ (n : Int) ∧ (n : Int) ≤ 5 by omega), Bool.true_and]
    have hge := Nat.le_of_eq hn
    have hle := Nat.le_of_eq hn.symm
    have HS := Lib.hid h
    obtain ⟨r, hr⟩ : ∃ r, r = clksB is := ⟨_, rfl⟩
    have HR := Lib.hid (show r = clksB (is.drop 0) from hr)
    rw [← hr]
    obtain ⟨h1, h5⟩ := h15
    have h1i : (1 : Int) ≤ (n : Int) := by omega
    have h5i : (n : Int) ≤ 5 := by omega
    clear hn h hr
    go_enter Try.func44, Try.ntmps44
    go_wp2
    go_loopw [15] (fun i wr => ∃ k : Nat, k ≤ n ∧ i = .int .i64 k ∧ Hid (r = clksB (is.drop k)) ∧ Below w.heap.size w wr) (fun i _ => n - (intOf i).toNat)
    case atStart => exact ⟨0, by omega, rfl, HR, Below.refl _ _⟩
    case round =>
      clear HR
      obtain ⟨k, hk, rfl, HR, hb⟩ := hrel
      have HB := Lib.hid hb
      by_cases hlt : k < n
      · obtain ⟨b, off, rfl, hbB, hc⟩ := HS.out.get (by omega)
        have c0 := (hb.cell (p := ⟨b, off + k, none⟩) (Nat.lt_of_lt_of_le hbB hB)).trans (hc k (by omega))
        have HRS := Lib.hid (HR.out.trans (clks_step (show k < is.length by omega)))
        obtain ⟨y, hy⟩ : ∃ y, y = is[k]'(by omega) := ⟨_, rfl⟩
        rw [← hy] at c0 HRS
        have hk0 : (0 : Int) ≤ (k : Int) := by omega
        have hkn : (k : Int) < (n : Int) := by omega
        have HC := Lib.hid (fun W => goodClock_any y W)
        have HB1 := Lib.hid (below1 wr (.cells #[.int .i64 y] 27))
        clear hc hy HR hb
        cases h1 : inB y (-5) 5 with
        | false =>
          have HNO := Lib.hid (ret_bool (show false = r by rw [HRS.out, h1]; rfl))
          rw [h1] at HC
          clear h1 HRS
          go_wp2_with fail
          refine (HC.out _).mono ?_
          rintro e w4 ⟨rfl, hb4⟩
          have HBF := Lib.hid (HB.out.trans ((HB1.out.trans (hb4.mono HB1.out.size)).mono HB.out.size))
          clear hb4
          go_wp2
          go_ret
          exact ⟨HNO.out, HBF.out⟩
        | true =>
          have HR2 := Lib.hid (show r = clksB (is.drop (k + 1)) by rw [HRS.out, h1, Bool.true_and])
          rw [h1] at HC
          clear h1 HRS
          go_wp2_with fail
          refine (HC.out _).mono ?_
          rintro e w4 ⟨rfl, hb4⟩
          have HBF := Lib.hid (HB.out.trans ((HB1.out.trans (hb4.mono HB1.out.size)).mono HB.out.size))
          clear hb4 c0
          go_wp2
          go_roundw
          case rel => exact ⟨k + 1, by omega, by go_num, HR2, HBF.out⟩
          case measure => simp [intOf]; omega
      · have HYES := Lib.hid (ret_bool (show true = r by rw [HR.out, clks_end (by omega)]))
        clear hb
        go_wp2
        go_ret
        exact ⟨HYES.out, HB.out⟩
  · rw [inB_not (show ¬ (1 ≤ (n : Int) ∧ (n : Int) ≤ 5) by omega), Bool.false_and]
    by_cases h1 : 1 ≤ n
    · have h1i : (1 : Int) ≤ (n : Int) := by omega
      have h5i : decide ((5 : Int) < (n : Int)) = true := by simp; omega
      clear h15
      go_enter Try.func44, Try.ntmps44
      go_wp2
      go_ret
      exact ⟨rfl, Below.refl _ _⟩
    · have h0 : n = 0 := by omega
      subst h0
      clear h15 h1
      go_enter Try.func44, Try.ntmps44
      go_wp2
      go_ret
      exact ⟨rfl, Below.refl _ _⟩

set_option maxRecDepth 100000 in
set_option maxHeartbeats 2000000 in
theorem goodGiven_any (tm : Int) (A A' : Option Addr) (n c n' c' : Nat) (ls : List (Int × Int × Int)) (B : Nat) (w : World) (hn' : ls.length = n') (h : LesB w B A' ls) (hB : B ≤ w.heap.size) :
    Calls Try.prog 45 #[.agg #[.int .i64 tm, .slice A n c, .slice A' n' c']] w fun e w' => e = .returned (.bool (decide (n' ≤ 40) && ls.all (lseB n))) ∧ Below w.heap.size w w' := by
  have hb0 := below1 w (.cells #[.int .i64 tm, .slice A n c, .slice A' n' c'] 30)
  have hbk := heap_alloc_new w (.cells #[.int .i64 tm, .slice A n c, .slice A' n' c'] 30)
  by_cases h40 : n' ≤ 40
  · rw [decide_eq_true h40, Bool.true_and]
    have hge := Nat.le_of_eq hn'
    have hle := Nat.le_of_eq hn'.symm
    have HS := Lib.hid h
    obtain ⟨r, hr⟩ : ∃ r, r = ls.all (lseB n) := ⟨_, rfl⟩
    have HR := Lib.hid (show r = (ls.drop 0).all (lseB n) from hr)
    rw [← hr]
    have h40i : (n' : Int) ≤ 40 := by omega
    have HB0 := Lib.hid hb0
    have HBK := Lib.hid hbk
    clear h hr hb0 hbk hn'
    go_enter Try.func45, Try.ntmps45
    go_wp2
    go_loopw [12] (fun i wr => ∃ k : Nat, k ≤ n' ∧ i = .int .i64 k ∧ Hid (r = (ls.drop k).all (lseB n)) ∧ Hid (Below w.heap.size w wr) ∧ Hid (wr.heap[w.heap.size]? = some (.cells #[.int .i64 tm, .slice A n c, .slice A' n' c'] 30 (0, 0)))) (fun i _ => n' - (intOf i).toNat)
    case atStart => exact ⟨0, by omega, rfl, HR, HB0.out, HBK.out⟩
    case round =>
      clear HR HB0 HBK
      obtain ⟨k, hk, rfl, HR, HB, HK⟩ := hrel
      by_cases hlt : k < n'
      · obtain ⟨b, off, rfl, hbB, hc⟩ := HS.out.get (by omega)
        obtain ⟨hc0, hc1, hc2⟩ := hc k (by omega)
        have c0 := (HB.out.cell (p := ⟨b, off + k * 3, none⟩) (Nat.lt_of_lt_of_le hbB hB)).trans hc0
        have c1 := (HB.out.cell (p := ⟨b, off + k * 3 + 1, none⟩) (Nat.lt_of_lt_of_le hbB hB)).trans hc1
        have c2 := (HB.out.cell (p := ⟨b, off + k * 3 + 2, none⟩) (Nat.lt_of_lt_of_le hbB hB)).trans hc2
        have HRS := Lib.hid (HR.out.trans (lses_step (show k < ls.length by omega)))
        obtain ⟨y, hy⟩ : ∃ y, y = ls[k]'(by omega) := ⟨_, rfl⟩
        rw [← hy] at c0 c1 c2 HRS
        obtain ⟨s0, s1, s2⟩ := y
        simp only at c0 c1 c2
        have hk0 : (0 : Int) ≤ (k : Int) := by omega
        have hkn : (k : Int) < (n' : Int) := by omega
        have HC1 := Lib.hid (fun W => hasClock_any tm A (some ⟨b, off, none⟩) n c n' c' s0 W)
        have HC2 := Lib.hid (fun W => goodEnds_any s0 s1 s2 W)
        have k0 := cell_of_row _ _ 0 _ 30 (0, 0) HK.out
        have k1 := cell_of_row _ _ 1 _ 30 (0, 0) HK.out
        have k2 := cell_of_row _ _ 2 _ 30 (0, 0) HK.out
        have hlw := lt_blk HK.out
        have HBX := Lib.hid (heap_alloc_new wr (.cells #[.int .i64 s0, .int .i64 s1, .int .i64 s2] 55))
        have HB1 := Lib.hid (below1 wr (.cells #[.int .i64 s0, .int .i64 s1, .int .i64 s2] 55))
        have HRS2 := Lib.hid (show r = (inB s0 0 ((n : Int) - 1) && ((inB s1 (-20) 100020 && inB s2 (-20) 100200) && (ls.drop (k + 1)).all (lseB n))) by rw [HRS.out]; unfold lseB; simp only [Bool.and_assoc])
        clear hc hc0 hc1 hc2 hy HR HRS
        cases h1 : inB s0 0 ((n : Int) - 1) with
        | false =>
          rw [h1] at HC1
          have HNO := Lib.hid (ret_bool (show false = r by rw [HRS2.out, h1]; rfl))
          clear h1 HRS2
          go_wp2_with fail
          refine (HC1.out _).mono ?_
          rintro e w4 ⟨rfl, hb4⟩
          have HBF := Lib.hid (HB.out.trans ((HB1.out.trans (hb4.mono HB1.out.size)).mono HB.out.size))
          clear hb4 c0 c1 c2 k0 k1 k2
          go_wp2
          go_ret
          exact ⟨HNO.out, HBF.out⟩
        | true =>
          rw [h1] at HC1
          go_wp2_with fail
          refine (HC1.out _).mono ?_
          rintro e w4 ⟨rfl, hb4⟩
          have hbx4 := (hb4.block wr.heap.size (by simp)).trans HBX.out
          have x0 := cell_blk (i := 0) hbx4 rfl
          have x1 := cell_blk (i := 1) hbx4 rfl
          have x2 := cell_blk (i := 2) hbx4 rfl
          have hb14 := HB1.out.trans (hb4.mono HB1.out.size)
          have HK4 := Lib.hid ((hb14.block w.heap.size hlw).trans HK.out)
          have HB4 := Lib.hid (HB.out.trans (hb14.mono HB.out.size))
          clear hb4 hbx4 hb14 c0 c1 c2 k0 k1 k2
          cases h2 : (inB s1 (-20) 100020 && inB s2 (-20) 100200) with
          | false =>
            rw [h2] at HC2
            have HNO := Lib.hid (ret_bool (show false = r by rw [HRS2.out, h1, h2]; rfl))
            clear h1 h2 HRS2
            go_wp2_with fail
            refine (HC2.out _).mono ?_
            rintro e w5 ⟨rfl, hb5⟩
            have HBF := Lib.hid (HB4.out.trans (hb5.mono HB4.out.size))
            clear hb5 x0 x1 x2
            go_wp2
            go_ret
            exact ⟨HNO.out, HBF.out⟩
          | true =>
            rw [h2] at HC2
            have HR2 := Lib.hid (show r = (ls.drop (k + 1)).all (lseB n) by rw [HRS2.out, h1, h2, Bool.true_and, Bool.true_and])
            clear h1 h2 HRS2
            have hlw4 := lt_blk HK4.out
            go_wp2_with fail
            refine (HC2.out _).mono ?_
            rintro e w5 ⟨rfl, hb5⟩
            have HBF := Lib.hid (HB4.out.trans (hb5.mono HB4.out.size))
            have HKF := Lib.hid ((hb5.block w.heap.size hlw4).trans HK4.out)
            clear hb5 x0 x1 x2
            go_wp2
            go_roundw
            case rel => exact ⟨k + 1, by omega, by go_num, HR2, HBF.out, HKF.out⟩
            case measure => simp [intOf]; omega
      · have HYES := Lib.hid (ret_bool (show true = r by rw [HR.out, lses_end (by omega)]))
        have HBB := Lib.hid HB.out
        go_wp2
        go_ret
        exact ⟨HYES.out, HBB.out⟩
  · rw [decide_eq_false h40, Bool.false_and]
    have h40i : (40 : Int) < (n' : Int) := by omega
    clear h40
    go_enter Try.func45, Try.ntmps45
    go_wp2
    go_ret
    exact ⟨rfl, hb0⟩

theorem wchB_split (tm : Int) (is : List Int) (ls : List (Int × Int × Int)) : wchB tm is ls = (inB tm 0 100000 && ((inB (is.length : Int) 1 5 && clksB is) && (decide (ls.length ≤ 40) && ls.all (lseB is.length)))) := by
  unfold wchB
  cases inB tm 0 100000 <;> cases inB (is.length : Int) 1 5 <;> cases clksB is <;> cases decide (ls.length ≤ 40) <;> simp
set_option maxHeartbeats 2000000 in
theorem implGoodWatch_any (tm : Int) (A A' : Option Addr) (n c n' c' : Nat) (is : List Int) (ls : List (Int × Int × Int)) (B : Nat) (w : World) (hn : is.length = n) (hn' : ls.length = n') (h : CksB w B A is) (h' : LesB w B A' ls) (hB : B ≤ w.heap.size) :
    Calls Try.prog 23 #[.agg #[.int .i64 tm, .slice A n c, .slice A' n' c']] w fun e w' => e = .returned (.bool (wchB tm is ls)) ∧ Below w.heap.size w w' := by
  have hb0 := below1 w (.cells #[.int .i64 tm, .slice A n c, .slice A' n' c'] 30)
  have hbk := heap_alloc_new w (.cells #[.int .i64 tm, .slice A n c, .slice A' n' c'] 30)
  have HT := Lib.hid (fun W => isTrueTimeW_any tm W)
  have HC := Lib.hid (fun W (hW : Below w.heap.size w W) => goodClocks_any A n c is B W hn (h.below (hW.mono hB)) (Nat.le_trans hB hW.size))
  have HG := Lib.hid (fun W (hW : Below w.heap.size w W) => goodGiven_any tm A A' n c n' c' ls B W hn' (h'.below (hW.mono hB)) (Nat.le_trans hB hW.size))
  rw [wchB_split, hn, hn']
  obtain ⟨g2, hg2⟩ : ∃ g, g = (inB (n : Int) 1 5 && clksB is) := ⟨_, rfl⟩
  rw [← hg2] at HC ⊢
  have HB0 := Lib.hid hb0
  have HBK := Lib.hid hbk
  clear h h' hb0 hbk hn hn' hg2
  cases h1 : inB tm 0 100000 with
  | false =>
    rw [h1] at HT
    simp only [Bool.false_and]
    clear h1
    go_enter Try.func23, Try.ntmps23
    go_wp2_with fail
    refine (HT.out _).mono ?_
    rintro e w1 ⟨rfl, rfl⟩
    go_wp2
    go_ret
    exact ⟨rfl, HB0.out⟩
  | true =>
    rw [h1] at HT
    simp only [Bool.true_and]
    clear h1
    cases g2 with
    | false =>
      simp only [Bool.false_and]
      go_enter Try.func23, Try.ntmps23
      go_wp2_with fail
      refine (HT.out _).mono ?_
      rintro e w1 ⟨rfl, rfl⟩
      go_wp2_with fail
      refine (HC.out _ HB0.out).mono ?_
      rintro e w2 ⟨rfl, hb2⟩
      have HBF := Lib.hid (HB0.out.trans (hb2.mono HB0.out.size))
      clear hb2
      go_wp2
      go_ret
      exact ⟨rfl, HBF.out⟩
    | true =>
      simp only [Bool.true_and]
      go_enter Try.func23, Try.ntmps23
      go_wp2_with fail
      refine (HT.out _).mono ?_
      rintro e w1 ⟨rfl, rfl⟩
      go_wp2_with fail
      refine (HC.out _ HB0.out).mono ?_
      rintro e w2 ⟨rfl, hb2⟩
      have hk2 := (hb2.block w.heap.size (by simp)).trans HBK.out
      have k0 := cell_of_row _ _ 0 _ 30 (0, 0) hk2
      have k1 := cell_of_row _ _ 1 _ 30 (0, 0) hk2
      have k2 := cell_of_row _ _ 2 _ 30 (0, 0) hk2
      have HB2 := Lib.hid (HB0.out.trans (hb2.mono HB0.out.size))
      clear hb2 hk2
      go_wp2_with fail
      refine (HG.out _ HB2.out).mono ?_
      rintro e w3 ⟨rfl, hb3⟩
      have HBF := Lib.hid (HB2.out.trans (hb3.mono HB2.out.size))
      clear hb3
      go_wp2
      go_ret
      exact ⟨rfl, HBF.out⟩
end Go.Proofs.Ytpppgihoekfmoaa.Wt
