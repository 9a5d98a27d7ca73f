/-
  Contracts for the model's checks of a poll: l8Good, GoodPoll.
-/
import Derived.Test.YtojplmjoipjabaaPoGood4
import Derived.Test.YtojplmjoipjabaaPoGood2
namespace Go.Proofs.Ytojplmjoipjabaa.Po
open Go.RowKit Nt
set_option linter.unusedVariables false
set_option linter.unusedSimpArgs false

set_option maxRecDepth 100000 in
set_option maxHeartbeats 8000000 in
theorem l8Good_any (A A1 A2 A3 : Option Addr) (n c n1 c1 n2 c2 n3 c3 : Nat) (now far : Int) (hs : List ((Bool × Int × Int × Bool) × Option Addr × Nat × List Int)) (is : List Int) (ls : List (Int × Int × Int × ByteArray)) (ws : List (Int × Int)) (B : Nat) (w : World)
    (h : PollB w B A n hs A1 n1 is A2 n2 ls A3 n3 ws) (hB : B ≤ w.heap.size) (hs' : PollS hs is ls ws) :
    Calls Try.prog 48 #[.agg #[.slice A n c, .int .i64 now, .slice A1 n1 c1, .int .i64 far, .slice A2 n2 c2, .slice A3 n3 c3]] w fun e w' => e = .returned (.bool (pollB (hs.map vdat) now is far ls ws)) ∧ Below w.heap.size w w' := by
  have hb0 := below1 w (.cells #[.slice A n c, .int .i64 now, .slice A1 n1 c1, .int .i64 far, .slice A2 n2 c2, .slice A3 n3 c3] 38)
  have hk0 := heap_alloc_new w (.cells #[.slice A n c, .int .i64 now, .slice A1 n1 c1, .int .i64 far, .slice A2 n2 c2, .slice A3 n3 c3] 38)
  obtain ⟨hn, hn1, hn2, hn3, hv, hi, hl, hw⟩ := h
  obtain ⟨s1, s2, s3, s4⟩ := hs'
  have hnv : n ≤ 1048576 := by rw [← hn]; exact s1.1
  have hn1b : n1 ≤ 1048576 := by omega
  have hn3b : n3 ≤ 1048576 := by omega
  have HN := Lib.hid (l7Good_any now far A1 A2 n1 c1 n2 c2 is ls B _ hn1 hn2 (hi.below (hb0.mono hB)) (hl.below (hb0.mono hB)) (Nat.le_trans hB hb0.size) s3 hn1b)
  have HV := Lib.hid hv
  have HW := Lib.hid hw
  have HM := Lib.hid s1.2
  have HNE := Lib.hid hn
  have HNE3 := Lib.hid hn3
  obtain ⟨res, hres⟩ : ∃ res, res = pollB (hs.map vdat) now is far ls ws := ⟨_, rfl⟩
  rw [← hres]
  unfold pollB at hres
  rw [hn1, show (hs.map vdat).length = n by rw [List.length_map]; exact hn, hn3] at hres
  obtain ⟨g0, hg0⟩ : ∃ g, g = netB now is far ls := ⟨_, rfl⟩
  rw [← hg0] at HN hres
  obtain ⟨r1, hr1⟩ : ∃ g, g = votsB n1 0 (hs.map vdat) := ⟨_, rfl⟩
  obtain ⟨r2, hr2⟩ : ∃ g, g = wonsB n1 ws := ⟨_, rfl⟩
  rw [← hr1, ← hr2] at hres
  have HR1 := Lib.hid (show r1 = votsB n1 0 ((hs.map vdat).drop 0) from hr1)
  have HR2 := Lib.hid (show r2 = wonsB n1 (ws.drop 0) from hr2)
  have HRES := Lib.hid hres
  have HB0 := Lib.hid hb0
  have HK0 := Lib.hid hk0
  have k00 := cell_of_row _ _ 2 _ 38 (0, 0) hk0
  have k01 := cell_of_row _ _ 1 _ 38 (0, 0) hk0
  have k03 := cell_of_row _ _ 3 _ 38 (0, 0) hk0
  have k04 := cell_of_row _ _ 4 _ 38 (0, 0) hk0
  clear hres hg0 hr1 hr2 hv hi hl hw s1 s2 s3 s4 hb0 hn hn1 hn2 hn3 hk0
  go_enter Try.func48, Try.ntmps48
  go_wp2_with fail
  refine HN.out.mono ?_
  rintro e w1 ⟨rfl, ha1⟩
  have HB1 := Lib.hid (HB0.out.trans (ha1.mono HB0.out.size))
  have hk1 := (ha1.block w.heap.size (lt_blk HK0.out)).trans HK0.out
  have hg1 := lt_blk hk1
  have k10 := cell_of_row _ _ 0 _ 38 (0, 0) hk1
  have k15 := cell_of_row _ _ 5 _ 38 (0, 0) hk1
  have HK1 := Lib.hid hk1
  have hB1 : B ≤ w1.heap.size := Nat.le_trans hB HB1.out.size
  clear ha1 hk1 k00 k01 k03 k04 HN
  cases g0 with
  | false =>
    have HX := Lib.hid (ret_bool (show false = res by rw [HRES.out]; rfl))
    go_wp2
    go_ret
    exact ⟨HX.out, HB1.out⟩
  | true =>
    rw [Bool.true_and] at HRES
    cases hsz : sizeB n1 with
    | false =>
      rw [hsz] at HRES
      have HX := Lib.hid (ret_bool (show false = res by rw [HRES.out]; rfl))
      simp only [sizeB, Bool.or_eq_false_iff, decide_eq_false_iff_not] at hsz
      have e3 : ¬ (n1 : Int) = 3 := by omega
      have e5 : ¬ (n1 : Int) = 5 := by omega
      clear hsz
      go_wp2
      go_ret
      exact ⟨HX.out, HB1.out⟩
    | true =>
      rw [hsz, Bool.true_and] at HRES
      simp only [sizeB, Bool.or_eq_true, decide_eq_true_eq] at hsz
      by_cases hnn : n = n1
      · rw [decide_eq_true hnn, Bool.true_and] at HRES
        by_cases h60 : n3 ≤ 60
        · rw [decide_eq_true h60, Bool.true_and] at HRES
          have e60 : ¬ (60 : Int) < (n3 : Int) := by omega
          have enn : (n : Int) = (n1 : Int) := by omega
          have hnge : hs.length ≤ n1 := by rw [HNE.out]; omega
          have hnle : n1 ≤ hs.length := by rw [HNE.out]; omega
          have HLOOP := Lib.hid (show (n1 : Int) = 3 ∨ (n1 : Int) = 5 by omega)
          clear hnn h60
          rcases hsz with hsz | hsz
          · subst hsz
            go_upto_region 4 with fail
            go_wp2_with fail
            go_loopw [4] (fun j wr => ∃ k : Nat, k ≤ 3 ∧ j = .int .i64 k ∧ Hid (r1 = votsB 3 k ((hs.map vdat).drop k)) ∧ Below w1.heap.size w1 wr) (fun j _ => 3 - (intOf j).toNat)
            case atStart => exact ⟨0, by omega, rfl, HR1, Below.refl _ _⟩
            case round =>
              clear HR1
              obtain ⟨k, hk, rfl, HR, hb⟩ := hrel
              have HB := Lib.hid hb
              have hkr := (hb.block w.heap.size hg1).trans HK1.out
              by_cases hlt : k < 3
              · have k20 := cell_of_row _ _ 0 _ 38 (0, 0) hkr
                obtain ⟨b, off, rfl, hbB, hc⟩ := HV.out.get (by omega)
                obtain ⟨hc0, hc1, hc2, hc3, hc4⟩ := hc k (by omega)
                have HBB := Lib.hid ((HB1.out.mono hB).trans (hb.mono hB1))
                have p0 := (HBB.out.cell (p := ⟨b, off + k * 5, none⟩) hbB).trans hc0
                have p1 := (HBB.out.cell (p := ⟨b, off + k * 5 + 1, none⟩) hbB).trans hc1
                have p2 := (HBB.out.cell (p := ⟨b, off + k * 5 + 2, none⟩) hbB).trans hc2
                have p3 := (HBB.out.cell (p := ⟨b, off + k * 5 + 3, none⟩) hbB).trans hc3
                have p4 := (HBB.out.cell (p := ⟨b, off + k * 5 + 4, none⟩) hbB).trans hc4
                have HRS := Lib.hid (HR.out.trans (votsB_step (show k < (hs.map vdat).length by simp; omega)))
                have hv := (HV.out.yes k (by omega)).below HBB.out
                have hsm := HM.out _ (List.getElem_mem (show k < hs.length by omega))
                rw [vdat_at (show k < hs.length by omega)] at HRS
                obtain ⟨y, hy⟩ : ∃ y, y = hs[k]'(by omega) := ⟨_, rfl⟩
                rw [← hy] at p0 p1 p2 p3 p4 hv hsm HRS
                obtain ⟨⟨x0, x1, x2, x3⟩, ad, cp, vs⟩ := y
                simp only [vdat] at p0 p1 p2 p3 p4 hv hsm HRS
                have HC := Lib.hid (l8Voter_any (x0, x1, x2, x3) ad vs.length cp k 3 vs B wr rfl hv (Nat.le_trans hB1 hb.size) hsm (by omega) (by omega))
                obtain ⟨g, hg⟩ : ∃ g, g = voteB 3 k ((x0, x1, x2, x3), vs) := ⟨_, rfl⟩
                simp only at HC
                rw [← hg] at HC HRS
                rw [show ((3 : Nat) : Int) = 3 from rfl] at HC
                obtain ⟨m, hmv⟩ : ∃ m, m = vs.length := ⟨_, rfl⟩
                rw [← hmv] at p3 HC
                have hk0 : (0 : Int) ≤ (k : Int) := by omega
                have hkn : (k : Int) < 3 := by omega
                have hkn2 : (k : Int) < (n : Int) := by omega
                clear hc hc0 hc1 hc2 hc3 hc4 hy hv hsm hmv hg hb HR hkr
                cases g with
                | false =>
                  have HX := Lib.hid (ret_bool (show false = res by rw [HRES.out, HRS.out]; rfl))
                  clear HRS
                  go_wp2_with fail
                  refine HC.out.mono ?_
                  rintro e w4 ⟨rfl, hb4⟩
                  have HB4 := Lib.hid (HB1.out.trans ((HB.out.trans (hb4.mono HB.out.size)).mono HB1.out.size))
                  clear hb4
                  go_wp2
                  go_ret
                  exact ⟨HX.out, HB4.out⟩
                | true =>
                  rw [Bool.true_and] at HRS
                  go_wp2_with fail
                  refine HC.out.mono ?_
                  rintro e w4 ⟨rfl, hb4⟩
                  have HB4 := Lib.hid (HB.out.trans (hb4.mono HB.out.size))
                  clear hb4
                  go_wp2
                  go_roundw
                  case rel => exact ⟨k + 1, by omega, by go_num, HRS, HB4.out⟩
                  case measure => simp [intOf]; omega
              · have hrt : r1 = true := HR.out.trans (votsB_end (by simp; omega))
                subst hrt
                rw [Bool.true_and] at HRES
                have hg9 := lt_blk hkr
                have hB9 := Nat.le_trans hB1 hb.size
                have HK9 := Lib.hid hkr
                have HB9 := Lib.hid (HB1.out.trans (hb.mono HB1.out.size))
                obtain ⟨w9, hw9⟩ : ∃ w9, w9 = wr := ⟨_, rfl⟩
                rw [← hw9] at hg9 HK9 HB9 hB9 ⊢
                clear HR hb hkr hw9 HB
                go_wp2_with fail
                go_loopw [5] (fun j wr => ∃ k : Nat, k ≤ n3 ∧ j = .int .i64 k ∧ Hid (r2 = wonsB 3 (ws.drop k)) ∧ Below w9.heap.size w9 wr) (fun j _ => n3 - (intOf j).toNat)
                case atStart => exact ⟨0, by omega, rfl, HR2, Below.refl _ _⟩
                case round =>
                  clear HR2
                  obtain ⟨k, hk, rfl, HR, hb⟩ := hrel
                  have hkr := (hb.block w.heap.size hg9).trans HK9.out
                  have k35 := cell_of_row _ _ 5 _ 38 (0, 0) hkr
                  have HB := Lib.hid hb
                  by_cases hlt : k < n3
                  · have hl3 : k < ws.length := by rw [HNE3.out]; exact hlt
                    obtain ⟨b, off, rfl, hbB, hc⟩ := HW.out.get (by omega)
                    obtain ⟨hc0, hc1⟩ := hc k hl3
                    have HBB := Lib.hid ((HB9.out.mono hB).trans (hb.mono hB9))
                    have p0 := (HBB.out.cell (p := ⟨b, off + k * 2, none⟩) hbB).trans hc0
                    have p1 := (HBB.out.cell (p := ⟨b, off + k * 2 + 1, none⟩) hbB).trans hc1
                    have HRS := Lib.hid (HR.out.trans (wonsB_step hl3))
                    obtain ⟨y, hy⟩ : ∃ y, y = ws[k]'hl3 := ⟨_, rfl⟩
                    rw [← hy] at p0 p1 HRS
                    obtain ⟨x1, x2⟩ := y
                    unfold won1B at HRS
                    simp only at p0 p1 HRS
                    have HT := Lib.hid (fun W => l1In_any x1 1 200 W)
                    have HF := Lib.hid (fun W => l1In_any x2 0 (3 - 1) W)
                    rw [show inB x2 0 (3 - 1) = nodeB 3 x2 from inB_node 3 x2] at HF
                    rw [show (((3 : Int)) - 1) = 2 from rfl] at HF
                    obtain ⟨g1, hg1⟩ : ∃ g, g = inB x1 1 200 := ⟨_, rfl⟩
                    obtain ⟨g2, hg2⟩ : ∃ g, g = nodeB 3 x2 := ⟨_, rfl⟩
                    rw [← hg1] at HT HRS
                    rw [← hg2] at HF HRS
                    have hk0 : (0 : Int) ≤ (k : Int) := by omega
                    have hkn : (k : Int) < (n3 : Int) := by omega
                    clear hc hc0 hc1 hy hg1 hg2 hb HR hkr
                    go_wp2_with fail
                    refine (HT.out _).mono ?_
                    rintro e w4 ⟨rfl, rfl⟩
                    cases g1 with
                    | false =>
                      have HX := Lib.hid (ret_bool (show false = res by rw [HRES.out, HRS.out]; rfl))
                      have HB4 := Lib.hid (HB9.out.trans (HB.out.mono HB9.out.size))
                      go_wp2
                      go_ret
                      exact ⟨HX.out, HB4.out⟩
                    | true =>
                      go_wp2_with fail
                      refine (HF.out _).mono ?_
                      rintro e w4 ⟨rfl, rfl⟩
                      cases g2 with
                      | false =>
                        have HX := Lib.hid (ret_bool (show false = res by rw [HRES.out, HRS.out]; rfl))
                        have HB4 := Lib.hid (HB9.out.trans (HB.out.mono HB9.out.size))
                        go_wp2
                        go_ret
                        exact ⟨HX.out, HB4.out⟩
                      | true =>
                        rw [Bool.true_and, Bool.true_and] at HRS
                        go_wp2
                        go_roundw
                        case rel => exact ⟨k + 1, by omega, by go_num, HRS, HB.out⟩
                        case measure => simp [intOf]; omega
                  · have HX := Lib.hid (ret_bool (show true = res by rw [HRES.out, HR.out, wonsB_end (by rw [HNE3.out]; omega)]))
                    have HB4 := Lib.hid (HB9.out.trans (HB.out.mono HB9.out.size))
                    clear HR hb hkr
                    go_wp2
                    go_ret
                    exact ⟨HX.out, HB4.out⟩
          · subst hsz
            go_upto_region 4 with fail
            go_wp2_with fail
            go_loopw [4] (fun j wr => ∃ k : Nat, k ≤ 5 ∧ j = .int .i64 k ∧ Hid (r1 = votsB 5 k ((hs.map vdat).drop k)) ∧ Below w1.heap.size w1 wr) (fun j _ => 5 - (intOf j).toNat)
            case atStart => exact ⟨0, by omega, rfl, HR1, Below.refl _ _⟩
            case round =>
              clear HR1
              obtain ⟨k, hk, rfl, HR, hb⟩ := hrel
              have HB := Lib.hid hb
              have hkr := (hb.block w.heap.size hg1).trans HK1.out
              by_cases hlt : k < 5
              · have k20 := cell_of_row _ _ 0 _ 38 (0, 0) hkr
                obtain ⟨b, off, rfl, hbB, hc⟩ := HV.out.get (by omega)
                obtain ⟨hc0, hc1, hc2, hc3, hc4⟩ := hc k (by omega)
                have HBB := Lib.hid ((HB1.out.mono hB).trans (hb.mono hB1))
                have p0 := (HBB.out.cell (p := ⟨b, off + k * 5, none⟩) hbB).trans hc0
                have p1 := (HBB.out.cell (p := ⟨b, off + k * 5 + 1, none⟩) hbB).trans hc1
                have p2 := (HBB.out.cell (p := ⟨b, off + k * 5 + 2, none⟩) hbB).trans hc2
                have p3 := (HBB.out.cell (p := ⟨b, off + k * 5 + 3, none⟩) hbB).trans hc3
                have p4 := (HBB.out.cell (p := ⟨b, off + k * 5 + 4, none⟩) hbB).trans hc4
                have HRS := Lib.hid (HR.out.trans (votsB_step (show k < (hs.map vdat).length by simp; omega)))
                have hv := (HV.out.yes k (by omega)).below HBB.out
                have hsm := HM.out _ (List.getElem_mem (show k < hs.length by omega))
                rw [vdat_at (show k < hs.length by omega)] at HRS
                obtain ⟨y, hy⟩ : ∃ y, y = hs[k]'(by omega) := ⟨_, rfl⟩
                rw [← hy] at p0 p1 p2 p3 p4 hv hsm HRS
                obtain ⟨⟨x0, x1, x2, x3⟩, ad, cp, vs⟩ := y
                simp only [vdat] at p0 p1 p2 p3 p4 hv hsm HRS
                have HC := Lib.hid (l8Voter_any (x0, x1, x2, x3) ad vs.length cp k 5 vs B wr rfl hv (Nat.le_trans hB1 hb.size) hsm (by omega) (by omega))
                obtain ⟨g, hg⟩ : ∃ g, g = voteB 5 k ((x0, x1, x2, x3), vs) := ⟨_, rfl⟩
                simp only at HC
                rw [← hg] at HC HRS
                rw [show ((5 : Nat) : Int) = 5 from rfl] at HC
                obtain ⟨m, hmv⟩ : ∃ m, m = vs.length := ⟨_, rfl⟩
                rw [← hmv] at p3 HC
                have hk0 : (0 : Int) ≤ (k : Int) := by omega
                have hkn : (k : Int) < 5 := by omega
                have hkn2 : (k : Int) < (n : Int) := by omega
                clear hc hc0 hc1 hc2 hc3 hc4 hy hv hsm hmv hg hb HR hkr
                cases g with
                | false =>
                  have HX := Lib.hid (ret_bool (show false = res by rw [HRES.out, HRS.out]; rfl))
                  clear HRS
                  go_wp2_with fail
                  refine HC.out.mono ?_
                  rintro e w4 ⟨rfl, hb4⟩
                  have HB4 := Lib.hid (HB1.out.trans ((HB.out.trans (hb4.mono HB.out.size)).mono HB1.out.size))
                  clear hb4
                  go_wp2
                  go_ret
                  exact ⟨HX.out, HB4.out⟩
                | true =>
                  rw [Bool.true_and] at HRS
                  go_wp2_with fail
                  refine HC.out.mono ?_
                  rintro e w4 ⟨rfl, hb4⟩
                  have HB4 := Lib.hid (HB.out.trans (hb4.mono HB.out.size))
                  clear hb4
                  go_wp2
                  go_roundw
                  case rel => exact ⟨k + 1, by omega, by go_num, HRS, HB4.out⟩
                  case measure => simp [intOf]; omega
              · have hrt : r1 = true := HR.out.trans (votsB_end (by simp; omega))
                subst hrt
                rw [Bool.true_and] at HRES
                have hg9 := lt_blk hkr
                have hB9 := Nat.le_trans hB1 hb.size
                have HK9 := Lib.hid hkr
                have HB9 := Lib.hid (HB1.out.trans (hb.mono HB1.out.size))
                obtain ⟨w9, hw9⟩ : ∃ w9, w9 = wr := ⟨_, rfl⟩
                rw [← hw9] at hg9 HK9 HB9 hB9 ⊢
                clear HR hb hkr hw9 HB
                go_wp2_with fail
                go_loopw [5] (fun j wr => ∃ k : Nat, k ≤ n3 ∧ j = .int .i64 k ∧ Hid (r2 = wonsB 5 (ws.drop k)) ∧ Below w9.heap.size w9 wr) (fun j _ => n3 - (intOf j).toNat)
                case atStart => exact ⟨0, by omega, rfl, HR2, Below.refl _ _⟩
                case round =>
                  clear HR2
                  obtain ⟨k, hk, rfl, HR, hb⟩ := hrel
                  have hkr := (hb.block w.heap.size hg9).trans HK9.out
                  have k35 := cell_of_row _ _ 5 _ 38 (0, 0) hkr
                  have HB := Lib.hid hb
                  by_cases hlt : k < n3
                  · have hl3 : k < ws.length := by rw [HNE3.out]; exact hlt
                    obtain ⟨b, off, rfl, hbB, hc⟩ := HW.out.get (by omega)
                    obtain ⟨hc0, hc1⟩ := hc k hl3
                    have HBB := Lib.hid ((HB9.out.mono hB).trans (hb.mono hB9))
                    have p0 := (HBB.out.cell (p := ⟨b, off + k * 2, none⟩) hbB).trans hc0
                    have p1 := (HBB.out.cell (p := ⟨b, off + k * 2 + 1, none⟩) hbB).trans hc1
                    have HRS := Lib.hid (HR.out.trans (wonsB_step hl3))
                    obtain ⟨y, hy⟩ : ∃ y, y = ws[k]'hl3 := ⟨_, rfl⟩
                    rw [← hy] at p0 p1 HRS
                    obtain ⟨x1, x2⟩ := y
                    unfold won1B at HRS
                    simp only at p0 p1 HRS
                    have HT := Lib.hid (fun W => l1In_any x1 1 200 W)
                    have HF := Lib.hid (fun W => l1In_any x2 0 (5 - 1) W)
                    rw [show inB x2 0 (5 - 1) = nodeB 5 x2 from inB_node 5 x2] at HF
                    rw [show (((5 : Int)) - 1) = 4 from rfl] at HF
                    obtain ⟨g1, hg1⟩ : ∃ g, g = inB x1 1 200 := ⟨_, rfl⟩
                    obtain ⟨g2, hg2⟩ : ∃ g, g = nodeB 5 x2 := ⟨_, rfl⟩
                    rw [← hg1] at HT HRS
                    rw [← hg2] at HF HRS
                    have hk0 : (0 : Int) ≤ (k : Int) := by omega
                    have hkn : (k : Int) < (n3 : Int) := by omega
                    clear hc hc0 hc1 hy hg1 hg2 hb HR hkr
                    go_wp2_with fail
                    refine (HT.out _).mono ?_
                    rintro e w4 ⟨rfl, rfl⟩
                    cases g1 with
                    | false =>
                      have HX := Lib.hid (ret_bool (show false = res by rw [HRES.out, HRS.out]; rfl))
                      have HB4 := Lib.hid (HB9.out.trans (HB.out.mono HB9.out.size))
                      go_wp2
                      go_ret
                      exact ⟨HX.out, HB4.out⟩
                    | true =>
                      go_wp2_with fail
                      refine (HF.out _).mono ?_
                      rintro e w4 ⟨rfl, rfl⟩
                      cases g2 with
                      | false =>
                        have HX := Lib.hid (ret_bool (show false = res by rw [HRES.out, HRS.out]; rfl))
                        have HB4 := Lib.hid (HB9.out.trans (HB.out.mono HB9.out.size))
                        go_wp2
                        go_ret
                        exact ⟨HX.out, HB4.out⟩
                      | true =>
                        rw [Bool.true_and, Bool.true_and] at HRS
                        go_wp2
                        go_roundw
                        case rel => exact ⟨k + 1, by omega, by go_num, HRS, HB.out⟩
                        case measure => simp [intOf]; omega
                  · have HX := Lib.hid (ret_bool (show true = res by rw [HRES.out, HR.out, wonsB_end (by rw [HNE3.out]; omega)]))
                    have HB4 := Lib.hid (HB9.out.trans (HB.out.mono HB9.out.size))
                    clear HR hb hkr
                    go_wp2
                    go_ret
                    exact ⟨HX.out, HB4.out⟩
        · rw [decide_eq_false h60] at HRES
          have HX := Lib.hid (ret_bool (show false = res by rw [HRES.out]; cases r1 <;> rfl))
          have e60 : (60 : Int) < (n3 : Int) := by omega
          have enn : (n : Int) = (n1 : Int) := by omega
          clear h60 hnn
          rcases hsz with hsz | hsz
          · subst hsz
            go_wp2
            go_ret
            exact ⟨HX.out, HB1.out⟩
          · subst hsz
            go_wp2
            go_ret
            exact ⟨HX.out, HB1.out⟩
      · rw [decide_eq_false hnn] at HRES
        have HX := Lib.hid (ret_bool (show false = res by rw [HRES.out]; rfl))
        have enn : ¬ (n : Int) = (n1 : Int) := by omega
        clear hnn
        rcases hsz with hsz | hsz
        · subst hsz
          go_wp2
          go_ret
          exact ⟨HX.out, HB1.out⟩
        · subst hsz
          go_wp2
          go_ret
          exact ⟨HX.out, HB1.out⟩

set_option maxHeartbeats 2000000 in
theorem specGoodPoll_any (A A1 A2 A3 : Option Addr) (n c n1 c1 n2 c2 n3 c3 : Nat) (now far : Int) (hs : List ((Bool × Int × Int × Bool) × Option Addr × Nat × List Int)) (is : List Int) (ls : List (Int × Int × Int × ByteArray)) (ws : List (Int × Int)) (B : Nat) (w : World)
    (h : PollB w B A n hs A1 n1 is A2 n2 ls A3 n3 ws) (hB : B ≤ w.heap.size) (hs' : PollS hs is ls ws) :
    Calls Try.prog 11 #[.agg #[.slice A n c, .int .i64 now, .slice A1 n1 c1, .int .i64 far, .slice A2 n2 c2, .slice A3 n3 c3]] w fun e w' => e = .returned (.bool (pollB (hs.map vdat) now is far ls ws)) ∧ Below w.heap.size w w' := by
  have hb0 := below1 w (.cells #[.slice A n c, .int .i64 now, .slice A1 n1 c1, .int .i64 far, .slice A2 n2 c2, .slice A3 n3 c3] 38)
  have HG := Lib.hid (l8Good_any A A1 A2 A3 n c n1 c1 n2 c2 n3 c3 now far hs is ls ws B _ (h.below (hb0.mono hB)) (Nat.le_trans hB hb0.size) hs')
  clear h hs'
  go_enter Try.func11, Try.ntmps11
  go_wp2_with fail
  refine HG.out.mono ?_
  rintro e w1 ⟨rfl, ha1⟩
  have HB := Lib.hid (hb0.trans (ha1.mono hb0.size))
  clear ha1 HG
  go_wp2
  go_ret
  exact ⟨rfl, HB.out⟩
end Go.Proofs.Ytojplmjoipjabaa.Po
