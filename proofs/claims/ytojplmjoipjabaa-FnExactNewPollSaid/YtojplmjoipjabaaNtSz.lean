/-
  Contracts for the laws' helpers that count and copy what they are handed: szIntS, szLetterS, szNet, toIntS, toLetterS, toNet.
-/
import Derived.Test.YtojplmjoipjabaaNtMem
namespace Go.Proofs.Ytojplmjoipjabaa.Nt
open Go.RowKit
set_option linter.unusedVariables false

set_option maxHeartbeats 400000 in
theorem szIntS_any (A : Option Addr) (n c l : Nat) (w : World) (hn : n ≤ maxLen) (hl : l ≤ 1048576) :
    Calls Try.prog 90 #[.slice A n c, .int .i64 (l : Int)] w fun e w' => e = .returned (.int .i64 (remI n l)) ∧ w = w' := by
  unfold maxLen at hn
  by_cases h : n ≤ l
  · rw [remI_yes h]
    have h4 : (n : Int) ≤ (l : Int) := by omega
    go_enter Try.func90, Try.ntmps90
    go_wp2
    go_ret
    exact ⟨rfl, rfl⟩
  · rw [remI_no (by omega)]
    have h4 : (l : Int) < (n : Int) := by omega
    go_enter Try.func90, Try.ntmps90
    go_wp2
    go_ret
    exact ⟨rfl, rfl⟩
set_option maxHeartbeats 400000 in
theorem szLetter_any (f t d : Int) (b : ByteArray) (l : Nat) (w : World) (hb : b.size ≤ maxLen) (hl : l ≤ 1048576) :
    Calls Try.prog 118 #[.agg #[.int .i64 f, .int .i64 t, .int .i64 d, .string b], .int .i64 (l : Int)] w fun e w' => e = .returned (.int .i64 (remI b.size l)) ∧ Below w.heap.size w w' := by
  unfold maxLen at hb
  by_cases h2 : b.size ≤ l
  · rw [remI_yes h2]
    have h4 : (b.size : Int) ≤ (l : Int) := by omega
    go_enter Try.func118, Try.ntmps118
    go_wp2
    go_ret
    exact ⟨rfl, below1 _ _⟩
  · rw [remI_no (by omega)]
    have h4 : (l : Int) < (b.size : Int) := by omega
    go_enter Try.func118, Try.ntmps118
    go_wp2
    go_ret
    exact ⟨rfl, below1 _ _⟩

set_option maxRecDepth 100000 in
set_option maxHeartbeats 1000000 in
theorem szLetterS_any (A : Option Addr) (n c : Nat) (ls : List (Int × Int × Int × ByteArray)) (l B : Nat) (w : World) (hn : ls.length = n) (h : LetsB w B A ls) (hB : B ≤ w.heap.size) (hm : LMax ls) (hl : l ≤ 1048576) :
    Calls Try.prog 91 #[.slice A n c, .int .i64 (l : Int)] w fun e w' => e = .returned (.int .i64 (remI (szLs ls) l)) ∧ Below w.heap.size w w' := by
  obtain ⟨hmn, hms⟩ := hm
  have hnn := Nat.le_of_eq hn
  have hnn' := Nat.le_of_eq hn.symm
  have HN := Lib.hid hn
  have HS := Lib.hid h
  have HM := Lib.hid hms
  have HT := Lib.hid (show szLs ls = n + (ls.map fun x => x.2.2.2.size).sum by rw [← hn]; rfl)
  have hnm : n ≤ maxLen := by omega
  unfold maxLen at hnm
  clear h hms hmn hn
  by_cases hln : n ≤ l
  · go_enter Try.func91, Try.ntmps91
    go_wp2
    go_loopw [1, 5] (fun v i wr => ∃ k r : Nat, k ≤ n ∧ i = .int .i64 k ∧ v = .int .i64 r ∧ r ≤ 1048576 ∧ Hid (r + (n + ((ls.take k).map fun x => x.2.2.2.size).sum) = l) ∧ Below w.heap.size w wr) (fun _ i _ => n - (intOf i).toNat)
    case atStart => exact ⟨0, l - n, by omega, rfl, by go_num, by omega, show _ = _ by simp; omega, Below.refl _ _⟩
    case round =>
      obtain ⟨k, r, hk, rfl, rfl, hr, HR, hb⟩ := hrel
      have HB := Lib.hid hb
      clear hb
      by_cases hlt : k < n
      · obtain ⟨b, off, rfl, hbB, hc⟩ := HS.out.get (by omega)
        obtain ⟨hc0, hc1, hc2, hc3⟩ := hc k (by omega)
        have c0 := (HB.out.cell (p := ⟨b, off + k * 4, none⟩) (Nat.lt_of_lt_of_le hbB hB)).trans hc0
        have c1 := (HB.out.cell (p := ⟨b, off + k * 4 + 1, none⟩) (Nat.lt_of_lt_of_le hbB hB)).trans hc1
        have c2 := (HB.out.cell (p := ⟨b, off + k * 4 + 2, none⟩) (Nat.lt_of_lt_of_le hbB hB)).trans hc2
        have c3 := (HB.out.cell (p := ⟨b, off + k * 4 + 3, none⟩) (Nat.lt_of_lt_of_le hbB hB)).trans hc3
        obtain ⟨y, hy⟩ : ∃ y, y = ls[k]'(by omega) := ⟨_, rfl⟩
        have HSum := Lib.hid (sum_take_succ (fun x : (Int × Int × Int × ByteArray) => x.2.2.2.size) ls k (by omega))
        have hsz := HM.out _ (List.getElem_mem (show k < ls.length by omega))
        have HLe := Lib.hid (sum_take_le (fun x : (Int × Int × Int × ByteArray) => x.2.2.2.size) ls (k + 1))
        rw [← hy] at c0 c1 c2 c3 hsz
        have HY := Lib.hid hy
        obtain ⟨s0, s1, s2, s3⟩ := y
        simp only at c0 c1 c2 c3 hsz
        have HC := Lib.hid fun W => szLetter_any s0 s1 s2 s3 r W hsz hr
        clear hc hc0 hc1 hc2 hc3 hy hsz
        by_cases hfit : s3.size ≤ r
        · rw [remI_yes hfit] at HC
          have hf : (0 : Int) ≤ (r : Int) - (s3.size : Int) := by omega
          go_wp2_with fail
          refine (HC.out _).mono ?_
          rintro e w4 ⟨rfl, hb4⟩
          have HB4 := Lib.hid (HB.out.trans (hb4.mono HB.out.size))
          clear hb4 c0 c1 c2 c3
          go_wp2
          go_roundw
          case rel =>
            refine ⟨k + 1, r - s3.size, by omega, by go_num, by go_num, by omega, ?_, HB4.out⟩
            have h1 := HSum.out
            have h2 := HR.out
            have h3 := HY.out
            show _ = _
            rw [h1, ← h3]
            simp only
            omega
          case measure => simp [intOf]; omega
        · rw [remI_no (by omega)] at HC
          have HNO := Lib.hid (ret_int (k := .i64) (show (-1 : Int) = remI (szLs ls) l by
            have h1 := HSum.out
            have h2 := HR.out
            have h3 := HY.out
            have h4 := HLe.out
            have h5 := HT.out
            rw [← h3] at h1
            simp only at h1
            rw [remI_no (by omega)]))
          go_wp2_with fail
          refine (HC.out _).mono ?_
          rintro e w4 ⟨rfl, hb4⟩
          have HB4 := Lib.hid (HB.out.trans (hb4.mono HB.out.size))
          clear hb4 c0 c1 c2 c3
          go_wp2
          go_ret
          exact ⟨HNO.out, HB4.out⟩
      · have hkn : k = n := by omega
        have HYES := Lib.hid (ret_int (k := .i64) (show (r : Int) = remI (szLs ls) l by
          have h2 := HR.out
          have h5 := HT.out
          rw [List.take_of_length_le (by omega)] at h2
          rw [remI_yes (by omega)]
          omega))
        clear hkn
        go_wp2
        go_ret
        exact ⟨HYES.out, HB.out⟩
  · rw [remI_no (by have := HT.out; omega)]
    go_enter Try.func91, Try.ntmps91
    go_wp2
    go_ret
    exact ⟨rfl, Below.refl _ _⟩

set_option maxHeartbeats 1000000 in
theorem szNet_any (now far : Int) (A A' : Option Addr) (n c n' c' : Nat) (ls : List (Int × Int × Int × ByteArray)) (w : World) (hn : n ≤ maxLen) (hn' : ls.length = n') (h : LetsB w w.heap.size A' ls) (hm : LMax ls) :
    Calls Try.prog 46 #[.agg #[.int .i64 now, .slice A n c, .int .i64 far, .slice A' n' c'], .int .i64 1048576] w fun e w' => e = .returned (.int .i64 (remI (n + szLs ls) 1048576)) ∧ Below w.heap.size w w' := by
  have hb1 := below1 w (.cells #[.int .i64 now, .slice A n c, .int .i64 far, .slice A' n' c'] 26)
  have HZ1 := Lib.hid (fun W => szIntS_any A n c 1048576 W hn (by omega))
  rw [show ((1048576 : Nat) : Int) = 1048576 from rfl] at HZ1
  by_cases h1 : n ≤ 1048576
  · rw [remI_yes h1] at HZ1
    have HZ2 := Lib.hid (fun W (hW : Below w.heap.size w W) => szLetterS_any A' n' c' ls (1048576 - n) w.heap.size W hn' (h.below hW) hW.size hm (by omega))
    have e1 : ((1048576 - n : Nat) : Int) = ((1048576 : Nat) : Int) - (n : Int) := by omega
    rw [e1] at HZ2
    have h2 : (0 : Int) ≤ ((1048576 : Nat) : Int) - (n : Int) := by omega
    obtain ⟨q, hq⟩ : ∃ q, q = ((1048576 : Nat) : Int) - (n : Int) := ⟨_, rfl⟩
    rw [← hq] at HZ1 HZ2 h2
    have HE := Lib.hid (show remI (szLs ls) (1048576 - n) = remI (n + szLs ls) 1048576 by
      by_cases h3 : szLs ls ≤ 1048576 - n
      · rw [remI_yes h3, remI_yes (by omega)]; omega
      · rw [remI_no (by omega), remI_no (by omega)])
    obtain ⟨r, hr⟩ : ∃ r, r = remI (szLs ls) (1048576 - n) := ⟨_, rfl⟩
    have hr0 : 0 ≤ r ∨ r = -1 := by
      by_cases h3 : szLs ls ≤ 1048576 - n
      · rw [hr, remI_yes h3]; omega
      · rw [hr, remI_no (by omega)]; omega
    rw [← hr] at HZ2 HE
    rw [← HE.out]
    clear hr hq e1 h1
    rcases hr0 with hr0 | rfl
    · go_enter Try.func46, Try.ntmps46
      go_wp2_with fail
      refine (HZ1.out _).mono ?_
      rintro e w1 ⟨rfl, rfl⟩
      go_wp2_with fail
      refine (HZ2.out _ hb1).mono ?_
      rintro e w2 ⟨rfl, hb2⟩
      have HB := Lib.hid (hb1.trans (hb2.mono hb1.size))
      clear hb2
      go_wp2
      go_ret
      exact ⟨rfl, HB.out⟩
    · go_enter Try.func46, Try.ntmps46
      go_wp2_with fail
      refine (HZ1.out _).mono ?_
      rintro e w1 ⟨rfl, rfl⟩
      go_wp2_with fail
      refine (HZ2.out _ hb1).mono ?_
      rintro e w2 ⟨rfl, hb2⟩
      have HB := Lib.hid (hb1.trans (hb2.mono hb1.size))
      clear hb2
      go_wp2
      go_ret
      exact ⟨rfl, HB.out⟩
  · rw [remI_no (by omega)] at HZ1
    rw [remI_no (by omega)]
    clear h1
    go_enter Try.func46, Try.ntmps46
    go_wp2_with fail
    refine (HZ1.out _).mono ?_
    rintro e w1 ⟨rfl, rfl⟩
    go_wp2
    go_ret
    exact ⟨rfl, hb1⟩
end Go.Proofs.Ytojplmjoipjabaa.Nt
