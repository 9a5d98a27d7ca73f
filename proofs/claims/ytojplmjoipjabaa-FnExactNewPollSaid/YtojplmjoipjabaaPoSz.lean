/-
  Contracts for the laws' helpers that count polls: szVoter, szVoterS, szWonS, szNet, szPoll.
-/
import Derived.Test.YtojplmjoipjabaaPoMem
import Derived.Test.YtojplmjoipjabaaNtSz
namespace Go.Proofs.Ytojplmjoipjabaa.Po
open Go.RowKit Nt
set_option linter.unusedVariables false
set_option linter.unusedSimpArgs false

set_option maxHeartbeats 400000 in
theorem szWonS_any (A : Option Addr) (n c l : Nat) (w : World) (hn : n ≤ maxLen) (hl : l ≤ 1048576) :
    Calls Try.prog 47 #[.slice A n c, .int .i64 (l : Int)] w fun e w' => e = .returned (.int .i64 (remI n l)) ∧ w = w' := by
  unfold maxLen at hn
  by_cases h : n ≤ l
  · rw [remI_yes h]
    have h4 : (n : Int) ≤ (l : Int) := by omega
    go_enter Try.func47, Try.ntmps47
    go_wp2
    go_ret
    exact ⟨rfl, rfl⟩
  · rw [remI_no (by omega)]
    have h4 : (l : Int) < (n : Int) := by omega
    go_enter Try.func47, Try.ntmps47
    go_wp2
    go_ret
    exact ⟨rfl, rfl⟩
set_option maxHeartbeats 1000000 in
theorem szVoter_any (x : Bool × Int × Int × Bool) (A : Option Addr) (n c l : Nat) (w : World) (hn : n ≤ maxLen) (hl : l ≤ 1048576) :
    Calls Try.prog 89 #[.agg #[.bool x.1, .int .i64 x.2.1, .int .i64 x.2.2.1, .slice A n c, .bool x.2.2.2], .int .i64 (l : Int)] w fun e w' => e = .returned (.int .i64 (remI n l)) ∧ Below w.heap.size w w' := by
  have HZ := Lib.hid (fun W => szIntS_any A n c l W hn hl)
  obtain ⟨x0, x1, x2, x3⟩ := x
  by_cases h : n ≤ l
  · rw [remI_yes h] at HZ ⊢
    have h4 : (0 : Int) ≤ (l : Int) - (n : Int) := by omega
    clear hn h
    go_enter Try.func89, Try.ntmps89
    go_wp2_with fail
    refine (HZ.out _).mono ?_
    rintro e w1 ⟨rfl, rfl⟩
    go_wp2
    go_ret
    exact ⟨rfl, below1 _ _⟩
  · rw [remI_no (by omega)] at HZ ⊢
    clear hn h
    go_enter Try.func89, Try.ntmps89
    go_wp2_with fail
    refine (HZ.out _).mono ?_
    rintro e w1 ⟨rfl, rfl⟩
    go_wp2
    go_ret
    exact ⟨rfl, below1 _ _⟩

set_option maxRecDepth 100000 in
set_option maxHeartbeats 1000000 in
theorem szVoterS_any (A : Option Addr) (n c : Nat) (hs : List ((Bool × Int × Int × Bool) × Option Addr × Nat × List Int)) (l B : Nat) (w : World) (hn : hs.length = n) (h : VotB w B A hs) (hB : B ≤ w.heap.size) (hm : VtMax hs) (hl : l ≤ 1048576) :
    Calls Try.prog 45 #[.slice A n c, .int .i64 (l : Int)] w fun e w' => e = .returned (.int .i64 (remI (szVt hs) l)) ∧ Below w.heap.size w w' := by
  obtain ⟨hmn, hms⟩ := hm
  have hnn := Nat.le_of_eq hn
  have hnn' := Nat.le_of_eq hn.symm
  have HN := Lib.hid hn
  have HS := Lib.hid h
  have HM := Lib.hid hms
  have HT := Lib.hid (show szVt hs = n + (hs.map fun x => x.2.2.2.length).sum by rw [← hn]; rfl)
  have hnm : n ≤ maxLen := by omega
  unfold maxLen at hnm
  clear h hms hmn hn
  by_cases hln : n ≤ l
  · go_enter Try.func45, Try.ntmps45
    go_wp2
    go_loopw [1, 5] (fun v i wr => ∃ k r : Nat, k ≤ n ∧ i = .int .i64 k ∧ v = .int .i64 r ∧ r ≤ 1048576 ∧ Hid (r + (n + ((hs.take k).map fun x => x.2.2.2.length).sum) = l) ∧ Below w.heap.size w wr) (fun _ i _ => n - (intOf i).toNat)
    case atStart => exact ⟨0, l - n, by omega, rfl, by go_num, by omega, show _ = _ by simp; omega, Below.refl _ _⟩
    case round =>
      obtain ⟨k, r, hk, rfl, rfl, hr, HR, hb⟩ := hrel
      have HB := Lib.hid hb
      clear hb
      by_cases hlt : k < n
      · obtain ⟨b, off, rfl, hbB, hc⟩ := HS.out.get (by omega)
        obtain ⟨hc0, hc1, hc2, hc3, hc4⟩ := hc k (by omega)
        have c0 := (HB.out.cell (p := ⟨b, off + k * 5, none⟩) (Nat.lt_of_lt_of_le hbB hB)).trans hc0
        have c1 := (HB.out.cell (p := ⟨b, off + k * 5 + 1, none⟩) (Nat.lt_of_lt_of_le hbB hB)).trans hc1
        have c2 := (HB.out.cell (p := ⟨b, off + k * 5 + 2, none⟩) (Nat.lt_of_lt_of_le hbB hB)).trans hc2
        have c3 := (HB.out.cell (p := ⟨b, off + k * 5 + 3, none⟩) (Nat.lt_of_lt_of_le hbB hB)).trans hc3
        have c4 := (HB.out.cell (p := ⟨b, off + k * 5 + 4, none⟩) (Nat.lt_of_lt_of_le hbB hB)).trans hc4
        obtain ⟨y, hy⟩ : ∃ y, y = hs[k]'(by omega) := ⟨_, rfl⟩
        have HSum := Lib.hid (sum_take_succ (fun x : ((Bool × Int × Int × Bool) × Option Addr × Nat × List Int) => x.2.2.2.length) hs k (by omega))
        have hsz := HM.out _ (List.getElem_mem (show k < hs.length by omega))
        have HLe := Lib.hid (sum_take_le (fun x : ((Bool × Int × Int × Bool) × Option Addr × Nat × List Int) => x.2.2.2.length) hs (k + 1))
        rw [← hy] at c0 c1 c2 c3 c4 hsz
        have HY := Lib.hid hy
        obtain ⟨⟨x0, x1, x2, x3⟩, ad, cp, vs⟩ := y
        simp only at c0 c1 c2 c3 c4 hsz
        have HC := Lib.hid fun W => szVoter_any (x0, x1, x2, x3) ad vs.length cp r W hsz hr
        obtain ⟨m, hmv⟩ : ∃ m, m = vs.length := ⟨_, rfl⟩
        rw [← hmv] at c3 HC
        have HMV := Lib.hid hmv
        clear hc hc0 hc1 hc2 hc3 hc4 hy hsz hmv
        by_cases hfit : m ≤ r
        · rw [remI_yes hfit] at HC
          have hf : (0 : Int) ≤ (r : Int) - (m : Int) := by omega
          go_wp2_with fail
          refine (HC.out _).mono ?_
          rintro e w4 ⟨rfl, hb4⟩
          have HB4 := Lib.hid (HB.out.trans (hb4.mono HB.out.size))
          clear hb4 c0 c1 c2 c3 c4
          go_wp2
          go_roundw
          case rel => exact ⟨k + 1, r - m, by omega, by go_num, by go_num, by omega, show _ = _ by have h1 := HSum.out; have h2 := HR.out; rw [← HY.out] at h1; rw [h1]; simp only; rw [← HMV.out]; omega, HB4.out⟩
          case measure => simp [intOf]; omega
        · rw [remI_no (by omega)] at HC
          have HNO := Lib.hid (ret_int (k := .i64) (show (-1 : Int) = remI (szVt hs) l by
            have h1 := HSum.out
            rw [← HY.out] at h1
            have h2 := HR.out
            have h3 := HLe.out
            simp only at h1
            rw [← HMV.out] at h1
            rw [remI_no (by rw [HT.out]; omega)]))
          go_wp2_with fail
          refine (HC.out _).mono ?_
          rintro e w4 ⟨rfl, hb4⟩
          have HB4 := Lib.hid (HB.out.trans (hb4.mono HB.out.size))
          clear hb4 c0 c1 c2 c3 c4
          go_wp2
          go_ret
          exact ⟨HNO.out, HB4.out⟩
      · have HYES := Lib.hid (ret_int (k := .i64) (show (r : Int) = remI (szVt hs) l by
          have h2 := HR.out
          rw [List.take_of_length_le (by omega), ← HT.out] at h2
          rw [remI_yes (by omega)]; omega))
        go_wp2
        go_ret
        exact ⟨HYES.out, HB.out⟩
  · have HNO := Lib.hid (ret_int (k := .i64) (show (-1 : Int) = remI (szVt hs) l by rw [remI_no (by rw [HT.out]; omega)]))
    go_enter Try.func45, Try.ntmps45
    go_wp2
    go_ret
    exact ⟨HNO.out, Below.refl _ _⟩

set_option maxHeartbeats 1000000 in
theorem szNetL_any (now far : Int) (A A' : Option Addr) (n c n' c' l : Nat) (ls : List (Int × Int × Int × ByteArray)) (w : World) (hn : n ≤ maxLen) (hn' : ls.length = n') (h : LetsB w w.heap.size A' ls) (hm : LMax ls) (hl : l ≤ 1048576) :
    Calls Try.prog 46 #[.agg #[.int .i64 now, .slice A n c, .int .i64 far, .slice A' n' c'], .int .i64 (l : Int)] w fun e w' => e = .returned (.int .i64 (remI (n + szLs ls) l)) ∧ Below w.heap.size w w' := by
  have hb1 := below1 w (.cells #[.int .i64 now, .slice A n c, .int .i64 far, .slice A' n' c'] 26)
  have HZ1 := Lib.hid (fun W => szIntS_any A n c l W hn hl)
  by_cases h1 : n ≤ l
  · rw [remI_yes h1] at HZ1
    have HZ2 := Lib.hid (fun W (hW : Below w.heap.size w W) => szLetterS_any A' n' c' ls (l - n) w.heap.size W hn' (h.below hW) hW.size hm (by omega))
    have e1 : ((l - n : Nat) : Int) = ((l : Nat) : Int) - (n : Int) := by omega
    rw [e1] at HZ2
    have h2 : (0 : Int) ≤ ((l : Nat) : Int) - (n : Int) := by omega
    obtain ⟨q, hq⟩ : ∃ q, q = ((l : Nat) : Int) - (n : Int) := ⟨_, rfl⟩
    rw [← hq] at HZ1 HZ2 h2
    have HE := Lib.hid (show remI (szLs ls) (l - n) = remI (n + szLs ls) l by
      by_cases h3 : szLs ls ≤ l - n
      · rw [remI_yes h3, remI_yes (by omega)]; omega
      · rw [remI_no (by omega), remI_no (by omega)])
    obtain ⟨r, hr⟩ : ∃ r, r = remI (szLs ls) (l - n) := ⟨_, rfl⟩
    have hr0 : 0 ≤ r ∨ r = -1 := by
      by_cases h3 : szLs ls ≤ l - n
      · rw [hr, remI_yes h3]; omega
      · rw [hr, remI_no (by omega)]; omega
    rw [← hr] at HZ2 HE
    rw [← HE.out]
    clear hr hq e1 h1
    rcases hr0 with hr0 | rfl
    · go_enter Try.func46, Try.ntmps46
      go_wp2_with fail
      refine (HZ1.out _).mono ?_
      rintro e w1 ⟨rfl, rfl⟩
      go_wp2_with fail
      refine (HZ2.out _ hb1).mono ?_
      rintro e w2 ⟨rfl, hb2⟩
      have HB := Lib.hid (hb1.trans (hb2.mono hb1.size))
      clear hb2
      go_wp2
      go_ret
      exact ⟨rfl, HB.out⟩
    · go_enter Try.func46, Try.ntmps46
      go_wp2_with fail
      refine (HZ1.out _).mono ?_
      rintro e w1 ⟨rfl, rfl⟩
      go_wp2_with fail
      refine (HZ2.out _ hb1).mono ?_
      rintro e w2 ⟨rfl, hb2⟩
      have HB := Lib.hid (hb1.trans (hb2.mono hb1.size))
      clear hb2
      go_wp2
      go_ret
      exact ⟨rfl, HB.out⟩
  · rw [remI_no (by omega)] at HZ1
    rw [remI_no (by omega)]
    clear h1
    go_enter Try.func46, Try.ntmps46
    go_wp2_with fail
    refine (HZ1.out _).mono ?_
    rintro e w1 ⟨rfl, rfl⟩
    go_wp2
    go_ret
    exact ⟨rfl, hb1⟩

/-- All that a poll is counted for. -/
def szP (hs : List ((Bool × Int × Int × Bool) × Option Addr × Nat × List Int)) (n : Nat) (ls : List (Int × Int × Int × ByteArray)) (n3 : Nat) : Nat := szVt hs + (n + szLs ls) + n3
set_option maxHeartbeats 2000000 in
theorem szPoll_any (A A1 A2 A3 : Option Addr) (n c n1 c1 n2 c2 n3 c3 : Nat) (now far : Int) (hs : List ((Bool × Int × Int × Bool) × Option Addr × Nat × List Int)) (ls : List (Int × Int × Int × ByteArray)) (B : Nat) (w : World) (hn : hs.length = n) (hn2 : ls.length = n2) (h : VotB w B A hs) (h2 : LetsB w B A2 ls) (hB : B ≤ w.heap.size) (hm : VtMax hs) (hm1 : n1 ≤ maxLen) (hm2 : LMax ls) (hm3 : n3 ≤ maxLen) :
    Calls Try.prog 10 #[.agg #[.slice A n c, .int .i64 now, .slice A1 n1 c1, .int .i64 far, .slice A2 n2 c2, .slice A3 n3 c3], .int .i64 1048576] w fun e w' => e = .returned (.int .i64 (remI (szP hs n1 ls n3) 1048576)) ∧ Below w.heap.size w w' := by
  have hb0 := below1 w (.cells #[.slice A n c, .int .i64 now, .slice A1 n1 c1, .int .i64 far, .slice A2 n2 c2, .slice A3 n3 c3] 29)
  have hk0 := heap_alloc_new w (.cells #[.slice A n c, .int .i64 now, .slice A1 n1 c1, .int .i64 far, .slice A2 n2 c2, .slice A3 n3 c3] 29)
  have HZ1 := Lib.hid (fun W (hW : Below w.heap.size w W) => szVoterS_any A n c hs 1048576 B W hn (h.below (hW.mono hB)) (Nat.le_trans hB hW.size) hm (by omega))
  rw [show ((1048576 : Nat) : Int) = 1048576 from rfl] at HZ1
  unfold szP
  obtain ⟨t1, ht1⟩ : ∃ t, t = szVt hs := ⟨_, rfl⟩
  obtain ⟨t2, ht2⟩ : ∃ t, t = n1 + szLs ls := ⟨_, rfl⟩
  rw [← ht1] at HZ1 ⊢
  rw [← ht2]
  by_cases h1 : t1 ≤ 1048576
  · rw [remI_yes h1] at HZ1
    have HZ2 := Lib.hid (fun W (hW : Below w.heap.size w W) => szNetL_any now far A1 A2 n1 c1 n2 c2 (1048576 - t1) ls W hm1 hn2 ((h2.below (hW.mono hB)).mono (Nat.le_trans hB hW.size)) hm2 (by omega))
    have e1 : ((1048576 - t1 : Nat) : Int) = ((1048576 : Nat) : Int) - (t1 : Int) := by omega
    have h2 : (0 : Int) ≤ ((1048576 : Nat) : Int) - (t1 : Int) := by omega
    rw [e1, ← ht2] at HZ2
    by_cases h3 : t2 ≤ 1048576 - t1
    · rw [remI_yes h3] at HZ2
      have e2 : ((1048576 - t1 - t2 : Nat) : Int) = ((1048576 - t1 : Nat) : Int) - (t2 : Int) := by omega
      have h4 : (0 : Int) ≤ ((1048576 - t1 : Nat) : Int) - (t2 : Int) := by omega
      have HZ3 := Lib.hid (fun W => szWonS_any A3 n3 c3 (1048576 - t1 - t2) W hm3 (by omega))
      rw [e2] at HZ3
      have HE := Lib.hid (show remI n3 (1048576 - t1 - t2) = remI (t1 + t2 + n3) 1048576 by
        by_cases h5 : n3 ≤ 1048576 - t1 - t2
        · rw [remI_yes h5, remI_yes (by omega)]; omega
        · rw [remI_no (by omega), remI_no (by omega)])
      obtain ⟨q1, hq1⟩ : ∃ q, q = ((1048576 : Nat) : Int) - (t1 : Int) := ⟨_, rfl⟩
      obtain ⟨q2, hq2⟩ : ∃ q, q = ((1048576 - t1 : Nat) : Int) - (t2 : Int) := ⟨_, rfl⟩
      obtain ⟨r, hr⟩ : ∃ r, r = remI n3 (1048576 - t1 - t2) := ⟨_, rfl⟩
      have hr0 : 0 ≤ r ∨ r = -1 := by
        by_cases h5 : n3 ≤ 1048576 - t1 - t2
        · rw [hr, remI_yes h5]; omega
        · rw [hr, remI_no (by omega)]; omega
      rw [← hq1] at HZ1 HZ2 h2
      rw [← hq2] at HZ2 HZ3 h4
      rw [← hr] at HZ3 HE
      rw [← HE.out]
      have HB0 := Lib.hid hb0
      have HK0 := Lib.hid hk0
      clear hq1 hq2 hr ht1 ht2 h1 h3 e1 e2 hb0 hk0 hm hm1 hm2 hm3 h hn hn2
      rcases hr0 with hr0 | rfl
      all_goals
        go_enter Try.func10, Try.ntmps10
        go_wp2_with fail
        refine (HZ1.out _ HB0.out).mono ?_
        rintro e w1 ⟨rfl, hb1⟩
        have HB1 := Lib.hid (HB0.out.trans (hb1.mono HB0.out.size))
        have hk1 := (hb1.block w.heap.size (lt_blk HK0.out)).trans HK0.out
        have y1 := cell_of_row _ _ 1 _ 29 (0, 0) hk1
        have y2 := cell_of_row _ _ 2 _ 29 (0, 0) hk1
        have y3 := cell_of_row _ _ 3 _ 29 (0, 0) hk1
        have y4 := cell_of_row _ _ 4 _ 29 (0, 0) hk1
        have HK1 := Lib.hid hk1
        clear hb1 hk1
        go_wp2_with fail
        refine (HZ2.out _ HB1.out).mono ?_
        rintro e w2 ⟨rfl, hb2⟩
        have HB2 := Lib.hid (HB1.out.trans (hb2.mono HB1.out.size))
        have hk2 := (hb2.block w.heap.size (lt_blk HK1.out)).trans HK1.out
        have y5 := cell_of_row _ _ 5 _ 29 (0, 0) hk2
        clear hb2 hk2 y1 y2 y3 y4
        go_wp2_with fail
        refine (HZ3.out _).mono ?_
        rintro e w3 ⟨rfl, rfl⟩
        go_wp2
        go_ret
        exact ⟨rfl, HB2.out⟩
    · rw [remI_no (by omega)] at HZ2
      rw [remI_no (by omega)]
      obtain ⟨q1, hq1⟩ : ∃ q, q = ((1048576 : Nat) : Int) - (t1 : Int) := ⟨_, rfl⟩
      rw [← hq1] at HZ1 HZ2 h2
      clear hq1 ht1 ht2 h1 h3 e1 hm hm1 hm2 hm3 h hn hn2
      go_enter Try.func10, Try.ntmps10
      go_wp2_with fail
      refine (HZ1.out _ hb0).mono ?_
      rintro e w1 ⟨rfl, hb1⟩
      have HB1 := Lib.hid (hb0.trans (hb1.mono hb0.size))
      have hk1 := (hb1.block w.heap.size (lt_blk hk0)).trans hk0
      have y1 := cell_of_row _ _ 1 _ 29 (0, 0) hk1
      have y2 := cell_of_row _ _ 2 _ 29 (0, 0) hk1
      have y3 := cell_of_row _ _ 3 _ 29 (0, 0) hk1
      have y4 := cell_of_row _ _ 4 _ 29 (0, 0) hk1
      clear hb1 hk1
      go_wp2_with fail
      refine (HZ2.out _ HB1.out).mono ?_
      rintro e w2 ⟨rfl, hb2⟩
      have HB2 := Lib.hid (HB1.out.trans (hb2.mono HB1.out.size))
      clear hb2
      go_wp2
      go_ret
      exact ⟨rfl, HB2.out⟩
  · rw [remI_no (by omega)] at HZ1
    rw [remI_no (by omega)]
    clear h1 ht1 ht2
    go_enter Try.func10, Try.ntmps10
    go_wp2_with fail
    refine (HZ1.out _ hb0).mono ?_
    rintro e w1 ⟨rfl, hb1⟩
    have HB1 := Lib.hid (hb0.trans (hb1.mono hb0.size))
    clear hb1
    go_wp2
    go_ret
    exact ⟨rfl, HB1.out⟩
end Go.Proofs.Ytojplmjoipjabaa.Po
