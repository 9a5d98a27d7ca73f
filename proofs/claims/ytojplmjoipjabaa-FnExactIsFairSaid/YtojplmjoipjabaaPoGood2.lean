/-
  Contracts for the program's checks of a poll, on: goodVoters, goodWon, GoodPoll.
-/
import Derived.Test.YtojplmjoipjabaaPoGood
namespace Go.Proofs.Ytojplmjoipjabaa.Po
open Go.RowKit Nt
set_option linter.unusedVariables false
set_option linter.unusedSimpArgs false

theorem voteB_two (m i : Nat) (v : ((Bool × Int × Int × Bool) × List Int)) : voteB m i v = ((inB v.1.2.1 0 200 && inB v.1.2.2.1 (-1) ((m : Int) - 1)) && yesB m i v.1 v.2) := by
  unfold voteB yesB; rw [Bool.and_assoc]
theorem vdat_at {hs : List ((Bool × Int × Int × Bool) × Option Addr × Nat × List Int)} {k : Nat} (h : k < hs.length) : (hs.map vdat)[k]'(by simpa using h) = vdat hs[k] := by simp

set_option maxRecDepth 100000 in
set_option maxHeartbeats 4000000 in
theorem goodVoters_any (A : Option Addr) (n c : Nat) (hs : List ((Bool × Int × Int × Bool) × Option Addr × Nat × List Int)) (B : Nat) (w : World) (hn : hs.length = n) (h : VotB w B A hs) (hB : B ≤ w.heap.size) (hm : VtSmall hs) :
    Calls Try.prog 53 #[.slice A n c] w fun e w' => e = .returned (.bool (votsB n 0 (hs.map vdat))) ∧ Below w.heap.size w w' := by
  obtain ⟨hl, hms⟩ := hm
  have HN := Lib.hid hn
  have hge := Nat.le_of_eq hn
  have hle := Nat.le_of_eq hn.symm
  have hnl : n ≤ 1048576 := by omega
  have HS := Lib.hid h
  have HM := Lib.hid hms
  obtain ⟨r, hr⟩ : ∃ r, r = votsB n 0 (hs.map vdat) := ⟨_, rfl⟩
  have HR0 := Lib.hid (show r = votsB n 0 ((hs.map vdat).drop 0) from hr)
  rw [← hr]
  clear hn h hms hl hr
  go_enter Try.func53, Try.ntmps53
  go_wp2_with fail
  go_loopw [7] (fun j wr => ∃ k : Nat, k ≤ n ∧ j = .int .i64 k ∧ Hid (r = votsB n k ((hs.map vdat).drop k)) ∧ Below w.heap.size w wr) (fun j _ => n - (intOf j).toNat)
  case atStart => exact ⟨0, by omega, rfl, HR0, Below.refl _ _⟩
  case round =>
    clear HR0
    obtain ⟨k, hk, rfl, HR, hb⟩ := hrel
    by_cases hlt : k < n
    · obtain ⟨b, off, rfl, hbB, hc⟩ := HS.out.get (by omega)
      obtain ⟨hc0, hc1, hc2, hc3, hc4⟩ := hc k (by omega)
      have c0 := (hb.cell (p := ⟨b, off + k * 5, none⟩) (Nat.lt_of_lt_of_le hbB hB)).trans hc0
      have c1 := (hb.cell (p := ⟨b, off + k * 5 + 1, none⟩) (Nat.lt_of_lt_of_le hbB hB)).trans hc1
      have c2 := (hb.cell (p := ⟨b, off + k * 5 + 2, none⟩) (Nat.lt_of_lt_of_le hbB hB)).trans hc2
      have c3 := (hb.cell (p := ⟨b, off + k * 5 + 3, none⟩) (Nat.lt_of_lt_of_le hbB hB)).trans hc3
      have c4 := (hb.cell (p := ⟨b, off + k * 5 + 4, none⟩) (Nat.lt_of_lt_of_le hbB hB)).trans hc4
      have HRS := Lib.hid (HR.out.trans (votsB_step (show k < (hs.map vdat).length by simp; omega)))
      have hv := (HS.out.yes k (by omega)).below (hb.mono hB)
      have hsm := HM.out _ (List.getElem_mem (show k < hs.length by omega))
      rw [vdat_at (show k < hs.length by omega), voteB_two] at HRS
      obtain ⟨y, hy⟩ : ∃ y, y = hs[k]'(by omega) := ⟨_, rfl⟩
      rw [← hy] at c0 c1 c2 c3 c4 hv hsm HRS
      obtain ⟨⟨x0, x1, x2, x3⟩, ad, cp, vs⟩ := y
      simp only [vdat] at c0 c1 c2 c3 c4 hv hsm HRS
      have hbox := below1 wr (.cells #[.bool x0, .int .i64 x1, .int .i64 x2, .slice ad vs.length cp, .bool x3] 81)
      have hkb := heap_alloc_new wr (.cells #[.bool x0, .int .i64 x1, .int .i64 x2, .slice ad vs.length cp, .bool x3] 81)
      have HG := Lib.hid (fun W => goodVote_any (x0, x1, x2, x3) ad vs.length cp n W hnl)
      have HY := Lib.hid (fun W (hW : Below wr.heap.size wr W) => goodYes_any (x0, x1, x2, x3) ad vs.length cp k n vs B W rfl (hv.below (hW.mono (Nat.le_trans hB hb.size))) (Nat.le_trans hB (Nat.le_trans hb.size hW.size)) hsm hnl (by omega))
      obtain ⟨g1, hg1⟩ : ∃ g, g = (inB x1 0 200 && inB x2 (-1) ((n : Int) - 1)) := ⟨_, rfl⟩
      obtain ⟨g2, hg2⟩ : ∃ g, g = yesB n k (x0, x1, x2, x3) vs := ⟨_, rfl⟩
      simp only at HG HY
      rw [← hg1] at HG HRS
      rw [← hg2] at HY HRS
      obtain ⟨m, hmv⟩ : ∃ m, m = vs.length := ⟨_, rfl⟩
      rw [← hmv] at c3 HG HY hbox hkb
      have HB := Lib.hid hb
      have HBX := Lib.hid hbox
      have HKB := Lib.hid hkb
      have hk0 : (0 : Int) ≤ (k : Int) := by omega
      have hkn : (k : Int) < (n : Int) := by omega
      clear hc hc0 hc1 hc2 hc3 hc4 hy hv hsm hmv hg1 hg2 hb hbox hkb HR
      cases g1 with
      | false =>
        have HNO := Lib.hid (ret_bool (show false = r by rw [HRS.out]; rfl))
        clear HRS
        go_wp2_with fail
        refine (HG.out _).mono ?_
        rintro e w1 ⟨rfl, ha1⟩
        have HB1 := Lib.hid (HB.out.trans ((HBX.out.trans (ha1.mono HBX.out.size)).mono HB.out.size))
        clear ha1
        go_wp2
        go_ret
        exact ⟨HNO.out, HB1.out⟩
      | true =>
        rw [Bool.true_and] at HRS
        cases g2 with
        | false =>
          have HNO := Lib.hid (ret_bool (show false = r by rw [HRS.out]; rfl))
          clear HRS
          go_wp2_with fail
          refine (HG.out _).mono ?_
          rintro e w1 ⟨rfl, ha1⟩
          have hb1 := HBX.out.trans (ha1.mono HBX.out.size)
          have hk1 := (ha1.block wr.heap.size (lt_blk HKB.out)).trans HKB.out
          have y0 := cell_of_row _ _ 0 _ 81 (0, 0) hk1
          have y1 := cell_of_row _ _ 1 _ 81 (0, 0) hk1
          have y2 := cell_of_row _ _ 2 _ 81 (0, 0) hk1
          have y3 := cell_of_row _ _ 3 _ 81 (0, 0) hk1
          have y4 := cell_of_row _ _ 4 _ 81 (0, 0) hk1
          have HB1 := Lib.hid hb1
          clear ha1 hk1 hb1 c0 c1 c2 c3 c4
          go_wp2_with fail
          refine (HY.out _ HB1.out).mono ?_
          rintro e w2 ⟨rfl, ha2⟩
          have HB2 := Lib.hid (HB.out.trans ((HB1.out.trans (ha2.mono HB1.out.size)).mono HB.out.size))
          clear ha2
          go_wp2
          go_ret
          exact ⟨HNO.out, HB2.out⟩
        | true =>
          rw [Bool.true_and] at HRS
          go_wp2_with fail
          refine (HG.out _).mono ?_
          rintro e w1 ⟨rfl, ha1⟩
          have hb1 := HBX.out.trans (ha1.mono HBX.out.size)
          have hk1 := (ha1.block wr.heap.size (lt_blk HKB.out)).trans HKB.out
          have y0 := cell_of_row _ _ 0 _ 81 (0, 0) hk1
          have y1 := cell_of_row _ _ 1 _ 81 (0, 0) hk1
          have y2 := cell_of_row _ _ 2 _ 81 (0, 0) hk1
          have y3 := cell_of_row _ _ 3 _ 81 (0, 0) hk1
          have y4 := cell_of_row _ _ 4 _ 81 (0, 0) hk1
          have HB1 := Lib.hid hb1
          clear ha1 hk1 hb1 c0 c1 c2 c3 c4
          go_wp2_with fail
          refine (HY.out _ HB1.out).mono ?_
          rintro e w2 ⟨rfl, ha2⟩
          have HB2 := Lib.hid (HB.out.trans ((HB1.out.trans (ha2.mono HB1.out.size)).mono HB.out.size))
          clear ha2
          go_wp2
          go_roundw
          case rel => exact ⟨k + 1, by omega, by go_num, HRS, HB2.out⟩
          case measure => simp [intOf]; omega
    · have HYES := Lib.hid (ret_bool (show true = r by rw [HR.out, votsB_end (by simp; omega)]))
      clear HR
      go_wp2
      go_ret
      exact ⟨HYES.out, hb⟩

set_option maxRecDepth 100000 in
set_option maxHeartbeats 4000000 in
theorem goodWon_any (A A1 A2 A3 : Option Addr) (n c n1 c1 n2 c2 n3 c3 : Nat) (now far : Int) (ws : List (Int × Int)) (B : Nat) (w : World) (hn : ws.length = n3) (h : WonB w B A3 ws) (hB : B ≤ w.heap.size) (hl : n3 ≤ 1048576) :
    Calls Try.prog 54 #[.agg #[.slice A n c, .int .i64 now, .slice A1 n1 c1, .int .i64 far, .slice A2 n2 c2, .slice A3 n3 c3]] w fun e w' => e = .returned (.bool (wonsB n1 ws && decide (n3 ≤ 60))) ∧ Below w.heap.size w w' := by
  have HN := Lib.hid hn
  have hge := Nat.le_of_eq hn
  have hle := Nat.le_of_eq hn.symm
  have hb0 := below1 w (.cells #[.slice A n c, .int .i64 now, .slice A1 n1 c1, .int .i64 far, .slice A2 n2 c2, .slice A3 n3 c3] 38)
  have hk0 := heap_alloc_new w (.cells #[.slice A n c, .int .i64 now, .slice A1 n1 c1, .int .i64 far, .slice A2 n2 c2, .slice A3 n3 c3] 38)
  have HS := Lib.hid (h.below (hb0.mono hB))
  obtain ⟨r, hr⟩ : ∃ r, r = wonsB n1 ws := ⟨_, rfl⟩
  have HR0 := Lib.hid (show r = wonsB n1 (ws.drop 0) from hr)
  rw [← hr]
  obtain ⟨res, hres⟩ : ∃ res, res = (r && decide (n3 ≤ 60)) := ⟨_, rfl⟩
  rw [← hres]
  have HRES := Lib.hid hres
  clear hn h hr hres
  go_enter Try.func54, Try.ntmps54
  go_wp2_with fail
  obtain ⟨W0, hW0⟩ : ∃ W0, W0 = w.alloc (.cells #[.slice A n c, .int .i64 now, .slice A1 n1 c1, .int .i64 far, .slice A2 n2 c2, .slice A3 n3 c3] 38) := ⟨_, rfl⟩
  rw [← hW0] at hb0 hk0 HS ⊢
  have hB1 := Nat.le_trans hB hb0.size
  have HB0 := Lib.hid hb0
  have HK0 := Lib.hid hk0
  have hg0 := lt_blk hk0
  clear hW0 hb0 hk0
  go_loopw [8] (fun j wr => ∃ k : Nat, k ≤ n3 ∧ j = .int .i64 k ∧ Hid (r = wonsB n1 (ws.drop k)) ∧ Below W0.heap.size W0 wr) (fun j _ => n3 - (intOf j).toNat)
  case atStart => exact ⟨0, by omega, rfl, HR0, Below.refl _ _⟩
  case round =>
    clear HR0
    obtain ⟨k, hk, rfl, HR, hb⟩ := hrel
    have hkr := (hb.block w.heap.size hg0).trans HK0.out
    have HKR := Lib.hid hkr
    by_cases hlt : k < n3
    · obtain ⟨b, off, rfl, hbB, hc⟩ := HS.out.get (by omega)
      obtain ⟨hc0, hc1⟩ := hc k (by omega)
      have p0 := (hb.cell (p := ⟨b, off + k * 2, none⟩) (Nat.lt_of_lt_of_le hbB hB1)).trans hc0
      have p1 := (hb.cell (p := ⟨b, off + k * 2 + 1, none⟩) (Nat.lt_of_lt_of_le hbB hB1)).trans hc1
      have HRS := Lib.hid (HR.out.trans (wonsB_step (show k < ws.length by omega)))
      obtain ⟨y, hy⟩ : ∃ y, y = ws[k]'(by omega) := ⟨_, rfl⟩
      rw [← hy] at p0 p1 HRS
      obtain ⟨x1, x2⟩ := y
      unfold won1B at HRS
      simp only at p0 p1 HRS
      have HT := Lib.hid (fun W => isTerm_any x1 W)
      have HNO2 := Lib.hid (fun W => isNode_any now far A1 A2 n1 c1 n2 c2 x2 W)
      have hbox := below1 wr (.cells #[.int .i64 x1, .int .i64 x2] 89)
      have hkb := heap_alloc_new wr (.cells #[.int .i64 x1, .int .i64 x2] 89)
      have hkq := (hbox.block w.heap.size (lt_blk hkr)).trans hkr
      have HB := Lib.hid hb
      have HBX := Lib.hid hbox
      have HKB := Lib.hid hkb
      have HKQ := Lib.hid hkq
      have hk0 : (0 : Int) ≤ (k : Int) := by omega
      have hkn : (k : Int) < (n3 : Int) := by omega
      clear hc hc0 hc1 hy hb hbox hkb HR hkr hkq
      cases g1 : inB x1 1 200 with
      | false =>
        have HNO := Lib.hid (ret_bool (show false = res by rw [HRES.out, HRS.out, g1]; rfl))
        rw [g1] at HT
        clear HRS g1
        go_wp2_with fail
        refine (HT.out _).mono ?_
        rintro e w1 ⟨rfl, rfl⟩
        have HB1 := Lib.hid (HB0.out.trans ((HB.out.trans (HBX.out.mono HB.out.size)).mono HB0.out.size))
        go_wp2
        go_ret
        exact ⟨HNO.out, HB1.out⟩
      | true =>
        rw [g1, Bool.true_and] at HRS
        rw [g1] at HT
        clear g1
        cases g2 : nodeB n1 x2 with
        | false =>
          have HNO := Lib.hid (ret_bool (show false = res by rw [HRES.out, HRS.out, g2]; rfl))
          rw [g2] at HNO2
          clear HRS g2
          go_wp2_with fail
          refine (HT.out _).mono ?_
          rintro e w1 ⟨rfl, rfl⟩
          have y1 := cell_of_row _ _ 1 _ 38 (0, 0) HKQ.out
          have y2 := cell_of_row _ _ 2 _ 38 (0, 0) HKQ.out
          have y3 := cell_of_row _ _ 3 _ 38 (0, 0) HKQ.out
          have y4 := cell_of_row _ _ 4 _ 38 (0, 0) HKQ.out
          go_wp2_with fail
          refine (HNO2.out _).mono ?_
          rintro e w2 ⟨rfl, ha2⟩
          have HB2 := Lib.hid (HB0.out.trans ((HB.out.trans ((HBX.out.trans (ha2.mono HBX.out.size)).mono HB.out.size)).mono HB0.out.size))
          clear ha2
          go_wp2
          go_ret
          exact ⟨HNO.out, HB2.out⟩
        | true =>
          rw [g2, Bool.true_and] at HRS
          rw [g2] at HNO2
          clear g2
          go_wp2_with fail
          refine (HT.out _).mono ?_
          rintro e w1 ⟨rfl, rfl⟩
          have y1 := cell_of_row _ _ 1 _ 38 (0, 0) HKQ.out
          have y2 := cell_of_row _ _ 2 _ 38 (0, 0) HKQ.out
          have y3 := cell_of_row _ _ 3 _ 38 (0, 0) HKQ.out
          have y4 := cell_of_row _ _ 4 _ 38 (0, 0) HKQ.out
          go_wp2_with fail
          refine (HNO2.out _).mono ?_
          rintro e w2 ⟨rfl, ha2⟩
          have HB2 := Lib.hid (HB.out.trans ((HBX.out.trans (ha2.mono HBX.out.size)).mono HB.out.size))
          clear ha2
          go_wp2
          go_roundw
          case rel => exact ⟨k + 1, by omega, by go_num, HRS, HB2.out⟩
          case measure => simp [intOf]; omega
    · have hrt : r = true := HR.out.trans (wonsB_end (by omega))
      subst hrt
      have y5 := cell_of_row _ _ 5 _ 38 (0, 0) HKR.out
      have HX := Lib.hid (ret_bool (show decide ((n3 : Int) ≤ 60) = res by
        rw [HRES.out, Bool.true_and, decide_eq_decide]
        omega))
      have HBF := Lib.hid (HB0.out.trans (hb.mono HB0.out.size))
      clear HR hkr hb
      go_wp2
      go_ret
      exact ⟨HX.out, HBF.out⟩
end Go.Proofs.Ytojplmjoipjabaa.Po
