/-
  Contracts for the laws' helpers that count what a list holds: szWriteS, szVerS, szCellS.
-/
import Derived.Test.YtgdofgcggblajaaMem
namespace Go.Proofs.Ytgdofgcggblajaa
open Go.RowKit
set_option linter.unusedVariables false

set_option maxHeartbeats 400000 in
theorem szWrite_any (a b : ByteArray) (g : Bool) (l : Nat) (w : World) (ha : a.size ≤ maxLen) (hb : b.size ≤ maxLen) (hl : l ≤ 1048576) :
    Calls Try.prog 78 #[.agg #[.string a, .string b, .bool g], .int .i64 (l : Int)] w fun e w' => e = .returned (.int .i64 (remI (a.size + b.size) l)) ∧ Below w.heap.size w w' := by
  unfold maxLen at ha hb
  by_cases h1 : a.size ≤ l
  · by_cases h2 : a.size + b.size ≤ l
    · have HR := Lib.hid (ret_int (k := .i64) (show (l : Int) - (a.size : Int) - (b.size : Int) = remI (a.size + b.size) l by rw [remI_yes h2]; omega))
      have h3 : (a.size : Int) ≤ (l : Int) := by omega
      have h4 : (b.size : Int) ≤ (l : Int) - (a.size : Int) := by omega
      go_enter Try.func78, Try.ntmps78
      go_wp2
      go_ret
      exact ⟨HR.out, below1 _ _⟩
    · rw [remI_no (by omega)]
      have h3 : (a.size : Int) ≤ (l : Int) := by omega
      have h4 : (l : Int) - (a.size : Int) < (b.size : Int) := by omega
      go_enter Try.func78, Try.ntmps78
      go_wp2
      go_ret
      exact ⟨rfl, below1 _ _⟩
  · rw [remI_no (by omega)]
    have h3 : (l : Int) < (a.size : Int) := by omega
    go_enter Try.func78, Try.ntmps78
    go_wp2
    go_ret
    exact ⟨rfl, below1 _ _⟩

set_option maxHeartbeats 400000 in
theorem szVer_any (t : Int) (b : ByteArray) (g : Bool) (l : Nat) (w : World) (hb : b.size ≤ maxLen) (hl : l ≤ 1048576) :
    Calls Try.prog 173 #[.agg #[.int .i64 t, .string b, .bool g], .int .i64 (l : Int)] w fun e w' => e = .returned (.int .i64 (remI b.size l)) ∧ Below w.heap.size w w' := by
  unfold maxLen at hb
  by_cases h2 : b.size ≤ l
  · rw [remI_yes h2]
    have h4 : (b.size : Int) ≤ (l : Int) := by omega
    go_enter Try.func173, Try.ntmps173
    go_wp2
    go_ret
    exact ⟨rfl, below1 _ _⟩
  · rw [remI_no (by omega)]
    have h4 : (l : Int) < (b.size : Int) := by omega
    go_enter Try.func173, Try.ntmps173
    go_wp2
    go_ret
    exact ⟨rfl, below1 _ _⟩

set_option maxRecDepth 100000 in
set_option maxHeartbeats 1000000 in
theorem szWriteS_any (A : Option Addr) (n c : Nat) (ws : List (ByteArray × ByteArray × Bool)) (l B : Nat) (w : World) (hn : ws.length = n) (h : WritesB w B A ws) (hB : B ≤ w.heap.size) (hm : WMax ws) (hl : l ≤ 1048576) :
    Calls Try.prog 23 #[.slice A n c, .int .i64 (l : Int)] w fun e w' => e = .returned (.int .i64 (remI (szWs ws) l)) ∧ Below w.heap.size w w' := by
  obtain ⟨hmn, hms⟩ := hm
  have hnn := Nat.le_of_eq hn
  have hnn' := Nat.le_of_eq hn.symm
  have HN := Lib.hid hn
  have HS := Lib.hid h
  have HM := Lib.hid hms
  have HT := Lib.hid (show szWs ws = n + (ws.map fun x => x.1.size + x.2.1.size).sum by rw [← hn]; rfl)
  have hnm : n ≤ maxLen := by omega
  unfold maxLen at hnm
  clear h hms hmn hn
  by_cases hln : n ≤ l
  · go_enter Try.func23, Try.ntmps23
    go_wp2
    go_loopw [1, 5] (fun v i wr => ∃ k r : Nat, k ≤ n ∧ i = .int .i64 k ∧ v = .int .i64 r ∧ r ≤ 1048576 ∧ Hid (r + (n + ((ws.take k).map fun x => x.1.size + x.2.1.size).sum) = l) ∧ Below w.heap.size w wr) (fun _ i _ => n - (intOf i).toNat)
    case atStart => exact ⟨0, l - n, by omega, rfl, by go_num, by omega, show _ = _ by simp; omega, Below.refl _ _⟩
    case round =>
      obtain ⟨k, r, hk, rfl, rfl, hr, HR, hb⟩ := hrel
      have HB := Lib.hid hb
      clear hb
      by_cases hlt : k < n
      · obtain ⟨b, off, rfl, hbB, hc⟩ := HS.out.get (by omega)
        obtain ⟨hc0, hc1, hc2⟩ := hc k (by omega)
        have c0 := (HB.out.cell (p := ⟨b, off + k * 3, none⟩) (Nat.lt_of_lt_of_le hbB hB)).trans hc0
        have c1 := (HB.out.cell (p := ⟨b, off + k * 3 + 1, none⟩) (Nat.lt_of_lt_of_le hbB hB)).trans hc1
        have c2 := (HB.out.cell (p := ⟨b, off + k * 3 + 2, none⟩) (Nat.lt_of_lt_of_le hbB hB)).trans hc2
        obtain ⟨y, hy⟩ : ∃ y, y = ws[k]'(by omega) := ⟨_, rfl⟩
        have HSum := Lib.hid (sum_take_succ (fun x : (ByteArray × ByteArray × Bool) => x.1.size + x.2.1.size) ws k (by omega))
        have hsz := HM.out _ (List.getElem_mem (show k < ws.length by omega))
        have HLe := Lib.hid (sum_take_le (fun x : (ByteArray × ByteArray × Bool) => x.1.size + x.2.1.size) ws (k + 1))
        rw [← hy] at c0 c1 c2 hsz
        have HY := Lib.hid hy
        obtain ⟨s1, s2, gb⟩ := y
        simp only at c0 c1 c2 hsz
        have HC := Lib.hid fun W => szWrite_any s1 s2 gb r W hsz.1 hsz.2 hr
        clear hc hc0 hc1 hc2 hy hsz
        by_cases hfit : s1.size + s2.size ≤ r
        · rw [remI_yes hfit] at HC
          have hf : (0 : Int) ≤ (r : Int) - ((s1.size + s2.size : Nat) : Int) := by omega
          go_wp2_with fail
          refine (HC.out _).mono ?_
          rintro e w4 ⟨rfl, hb4⟩
          have HB4 := Lib.hid (HB.out.trans (hb4.mono HB.out.size))
          clear hb4 c0 c1 c2
          go_wp2
          go_roundw
          case rel => exact ⟨k + 1, r - (s1.size + s2.size), by omega, by go_num, by go_num, by omega, show _ = _ by have h1 := HSum.out; have h2 := HR.out; rw [← HY.out] at h1; rw [h1]; simp only; omega, HB4.out⟩
          case measure => simp [intOf]; omega
        · rw [remI_no (by omega)] at HC
          have HNO := Lib.hid (ret_int (k := .i64) (show (-1 : Int) = remI (szWs ws) l by
            have h1 := HSum.out
            rw [← HY.out] at h1
            have h2 := HR.out
            have h3 := HLe.out
            simp only at h1
            rw [remI_no (by rw [HT.out]; omega)]))
          go_wp2_with fail
          refine (HC.out _).mono ?_
          rintro e w4 ⟨rfl, hb4⟩
          have HB4 := Lib.hid (HB.out.trans (hb4.mono HB.out.size))
          clear hb4 c0 c1 c2
          go_wp2
          go_ret
          exact ⟨HNO.out, HB4.out⟩
      · have HYES := Lib.hid (ret_int (k := .i64) (show (r : Int) = remI (szWs ws) l by
          have h2 := HR.out
          rw [List.take_of_length_le (by omega), ← HT.out] at h2
          rw [remI_yes (by omega)]; omega))
        go_wp2
        go_ret
        exact ⟨HYES.out, HB.out⟩
  · have HNO := Lib.hid (ret_int (k := .i64) (show (-1 : Int) = remI (szWs ws) l by rw [remI_no (by rw [HT.out]; omega)]))
    go_enter Try.func23, Try.ntmps23
    go_wp2
    go_ret
    exact ⟨HNO.out, Below.refl _ _⟩
set_option maxRecDepth 100000 in
set_option maxHeartbeats 1000000 in
theorem szVerS_any (A : Option Addr) (n c : Nat) (vs : List (Int × ByteArray × Bool)) (l B : Nat) (w : World) (hn : vs.length = n) (h : VersB w B A vs) (hB : B ≤ w.heap.size) (hm : VMax vs) (hl : l ≤ 1048576) :
    Calls Try.prog 139 #[.slice A n c, .int .i64 (l : Int)] w fun e w' => e = .returned (.int .i64 (remI (szVs vs) l)) ∧ Below w.heap.size w w' := by
  obtain ⟨hmn, hms⟩ := hm
  have hnn := Nat.le_of_eq hn
  have hnn' := Nat.le_of_eq hn.symm
  have HN := Lib.hid hn
  have HS := Lib.hid h
  have HM := Lib.hid hms
  have HT := Lib.hid (show szVs vs = n + (vs.map fun x => x.2.1.size).sum by rw [← hn]; rfl)
  have hnm : n ≤ maxLen := by omega
  unfold maxLen at hnm
  clear h hms hmn hn
  by_cases hln : n ≤ l
  · go_enter Try.func139, Try.ntmps139
    go_wp2
    go_loopw [1, 5] (fun v i wr => ∃ k r : Nat, k ≤ n ∧ i = .int .i64 k ∧ v = .int .i64 r ∧ r ≤ 1048576 ∧ Hid (r + (n + ((vs.take k).map fun x => x.2.1.size).sum) = l) ∧ Below w.heap.size w wr) (fun _ i _ => n - (intOf i).toNat)
    case atStart => exact ⟨0, l - n, by omega, rfl, by go_num, by omega, show _ = _ by simp; omega, Below.refl _ _⟩
    case round =>
      obtain ⟨k, r, hk, rfl, rfl, hr, HR, hb⟩ := hrel
      have HB := Lib.hid hb
      clear hb
      by_cases hlt : k < n
      · obtain ⟨b, off, rfl, hbB, hc⟩ := HS.out.get (by omega)
        obtain ⟨hc0, hc1, hc2⟩ := hc k (by omega)
        have c0 := (HB.out.cell (p := ⟨b, off + k * 3, none⟩) (Nat.lt_of_lt_of_le hbB hB)).trans hc0
        have c1 := (HB.out.cell (p := ⟨b, off + k * 3 + 1, none⟩) (Nat.lt_of_lt_of_le hbB hB)).trans hc1
        have c2 := (HB.out.cell (p := ⟨b, off + k * 3 + 2, none⟩) (Nat.lt_of_lt_of_le hbB hB)).trans hc2
        obtain ⟨y, hy⟩ : ∃ y, y = vs[k]'(by omega) := ⟨_, rfl⟩
        have HSum := Lib.hid (sum_take_succ (fun x : (Int × ByteArray × Bool) => x.2.1.size) vs k (by omega))
        have hsz := HM.out _ (List.getElem_mem (show k < vs.length by omega))
        have HLe := Lib.hid (sum_take_le (fun x : (Int × ByteArray × Bool) => x.2.1.size) vs (k + 1))
        rw [← hy] at c0 c1 c2 hsz
        have HY := Lib.hid hy
        obtain ⟨s1, s2, gb⟩ := y
        simp only at c0 c1 c2 hsz
        have HC := Lib.hid fun W => szVer_any s1 s2 gb r W hsz hr
        clear hc hc0 hc1 hc2 hy hsz
        by_cases hfit : s2.size ≤ r
        · rw [remI_yes hfit] at HC
          have hf : (0 : Int) ≤ (r : Int) - ((s2.size : Nat) : Int) := by omega
          go_wp2_with fail
          refine (HC.out _).mono ?_
          rintro e w4 ⟨rfl, hb4⟩
          have HB4 := Lib.hid (HB.out.trans (hb4.mono HB.out.size))
          clear hb4 c0 c1 c2
          go_wp2
          go_roundw
          case rel => exact ⟨k + 1, r - (s2.size), by omega, by go_num, by go_num, by omega, show _ = _ by have h1 := HSum.out; have h2 := HR.out; rw [← HY.out] at h1; rw [h1]; simp only; omega, HB4.out⟩
          case measure => simp [intOf]; omega
        · rw [remI_no (by omega)] at HC
          have HNO := Lib.hid (ret_int (k := .i64) (show (-1 : Int) = remI (szVs vs) l by
            have h1 := HSum.out
            rw [← HY.out] at h1
            have h2 := HR.out
            have h3 := HLe.out
            have h4 : ((s1, s2, gb) : (Int × ByteArray × Bool)).2.1.size = s2.size := rfl
            rw [h4] at h1
            rw [remI_no (by rw [HT.out]; omega)]))
          go_wp2_with fail
          refine (HC.out _).mono ?_
          rintro e w4 ⟨rfl, hb4⟩
          have HB4 := Lib.hid (HB.out.trans (hb4.mono HB.out.size))
          clear hb4 c0 c1 c2
          go_wp2
          go_ret
          exact ⟨HNO.out, HB4.out⟩
      · have HYES := Lib.hid (ret_int (k := .i64) (show (r : Int) = remI (szVs vs) l by
          have h2 := HR.out
          rw [List.take_of_length_le (by omega), ← HT.out] at h2
          rw [remI_yes (by omega)]; omega))
        go_wp2
        go_ret
        exact ⟨HYES.out, HB.out⟩
  · have HNO := Lib.hid (ret_int (k := .i64) (show (-1 : Int) = remI (szVs vs) l by rw [remI_no (by rw [HT.out]; omega)]))
    go_enter Try.func139, Try.ntmps139
    go_wp2
    go_ret
    exact ⟨HNO.out, Below.refl _ _⟩

set_option maxHeartbeats 1000000 in
theorem szCell_any (key : ByteArray) (A : Option Addr) (n c : Nat) (vs : List (Int × ByteArray × Bool)) (l B : Nat) (w : World) (hn : vs.length = n) (h : VersB w B A vs) (hB : B ≤ w.heap.size) (hk : key.size ≤ maxLen) (hm : VMax vs) (hl : l ≤ 1048576) :
    Calls Try.prog 89 #[.agg #[.string key, .slice A n c], .int .i64 (l : Int)] w fun e w' => e = .returned (.int .i64 (remI (key.size + szVs vs) l)) ∧ Below w.heap.size w w' := by
  unfold maxLen at hk
  by_cases h1 : key.size ≤ l
  · have HC := Lib.hid (fun W (hW : VersB W B A vs) (hB : B ≤ W.heap.size) => szVerS_any A n c vs (l - key.size) B W hn hW hB hm (by omega))
    have H := Lib.hid h
    have h3 : (key.size : Int) ≤ (l : Int) := by omega
    have e1 : ((l - key.size : Nat) : Int) = (l : Int) - (key.size : Int) := by omega
    rw [e1] at HC
    clear e1 hm h hn
    by_cases h2 : key.size + szVs vs ≤ l
    · rw [remI_yes (show szVs vs ≤ l - key.size by omega)] at HC
      have HR := Lib.hid (ret_int (k := .i64) (show ((l - key.size : Nat) : Int) - (szVs vs : Int) = remI (key.size + szVs vs) l by rw [remI_yes h2]; omega))
      have h4 : (szVs vs : Int) ≤ ((l - key.size : Nat) : Int) := by omega
      go_enter Try.func89, Try.ntmps89
      go_wp2_with fail
      refine (HC.out _ (H.out.below ((Below.refl _ _).alloc hB _)) (by simp; omega)).mono ?_
      rintro e w' ⟨rfl, hb⟩
      go_wp2
      go_ret
      exact ⟨HR.out, (below1 _ _).trans (hb.mono (below1 _ _).size)⟩
    · rw [remI_no (show l - key.size < szVs vs by omega)] at HC
      rw [remI_no (by omega)]
      go_enter Try.func89, Try.ntmps89
      go_wp2_with fail
      refine (HC.out _ (H.out.below ((Below.refl _ _).alloc hB _)) (by simp; omega)).mono ?_
      rintro e w' ⟨rfl, hb⟩
      go_wp2
      go_ret
      exact ⟨rfl, (below1 _ _).trans (hb.mono (below1 _ _).size)⟩
  · rw [remI_no (by omega)]
    have h3 : (l : Int) < (key.size : Int) := by omega
    go_enter Try.func89, Try.ntmps89
    go_wp2
    go_ret
    exact ⟨rfl, below1 _ _⟩

set_option maxRecDepth 100000 in
set_option maxHeartbeats 1000000 in
theorem szCellS_any (A : Option Addr) (n c : Nat) (hs : List (ByteArray × Option Addr × Nat × List (Int × ByteArray × Bool))) (l B : Nat) (w : World) (hn : hs.length = n) (h : CellsB w B A hs) (hB : B ≤ w.heap.size) (hm : HMax hs) (hl : l ≤ 1048576) :
    Calls Try.prog 30 #[.slice A n c, .int .i64 (l : Int)] w fun e w' => e = .returned (.int .i64 (remI (szHs hs) l)) ∧ Below w.heap.size w w' := by
  obtain ⟨hmn, hms⟩ := hm
  have hnn := Nat.le_of_eq hn
  have hnn' := Nat.le_of_eq hn.symm
  have HN := Lib.hid hn
  have HS := Lib.hid h
  have HM := Lib.hid hms
  have HT := Lib.hid (show szHs hs = n + (hs.map fun x => x.1.size + szVs x.2.2.2).sum by rw [← hn]; rfl)
  have hnm : n ≤ maxLen := by omega
  unfold maxLen at hnm
  clear h hms hmn hn
  by_cases hln : n ≤ l
  · go_enter Try.func30, Try.ntmps30
    go_wp2
    go_loopw [1, 5] (fun v i wr => ∃ k r : Nat, k ≤ n ∧ i = .int .i64 k ∧ v = .int .i64 r ∧ r ≤ 1048576 ∧ Hid (r + (n + ((hs.take k).map fun x => x.1.size + szVs x.2.2.2).sum) = l) ∧ Below w.heap.size w wr) (fun _ i _ => n - (intOf i).toNat)
    case atStart => exact ⟨0, l - n, by omega, rfl, by go_num, by omega, show _ = _ by simp; omega, Below.refl _ _⟩
    case round =>
      obtain ⟨k, r, hk, rfl, rfl, hr, HR, hb⟩ := hrel
      have HB := Lib.hid hb
      clear hb
      by_cases hlt : k < n
      · obtain ⟨b, off, rfl, hbB, hc⟩ := HS.out.get (by omega)
        obtain ⟨hc0, hc1⟩ := hc k (by omega)
        have c0 := (HB.out.cell (p := ⟨b, off + k * 2, none⟩) (Nat.lt_of_lt_of_le hbB hB)).trans hc0
        have c1 := (HB.out.cell (p := ⟨b, off + k * 2 + 1, none⟩) (Nat.lt_of_lt_of_le hbB hB)).trans hc1
        have HV := Lib.hid (HS.out.vers k (by omega))
        obtain ⟨y, hy⟩ : ∃ y, y = hs[k]'(by omega) := ⟨_, rfl⟩
        have HSum := Lib.hid (sum_take_succ (fun x : (ByteArray × Option Addr × Nat × List (Int × ByteArray × Bool)) => x.1.size + szVs x.2.2.2) hs k (by omega))
        have hsz := HM.out _ (List.getElem_mem (show k < hs.length by omega))
        have HLe := Lib.hid (sum_take_le (fun x : (ByteArray × Option Addr × Nat × List (Int × ByteArray × Bool)) => x.1.size + szVs x.2.2.2) hs (k + 1))
        rw [← hy] at c0 c1 HV hsz
        have HY := Lib.hid hy
        obtain ⟨s1, ad, cp, vs⟩ := y
        simp only at c0 c1 HV hsz
        have HC := Lib.hid fun W (hW : Below w.heap.size w W) => szCell_any s1 ad vs.length cp vs r B W rfl (HV.out.below (hW.mono hB)) (Nat.le_trans hB hW.size) hsz.1 hsz.2 hr
        clear hc hc0 hc1 hy hsz
        by_cases hfit : s1.size + szVs vs ≤ r
        · rw [remI_yes hfit] at HC
          have hf : (0 : Int) ≤ (r : Int) - ((s1.size + szVs vs : Nat) : Int) := by omega
          go_wp2_with fail
          refine (HC.out _ HB.out).mono ?_
          rintro e w4 ⟨rfl, hb4⟩
          have HB4 := Lib.hid (HB.out.trans (hb4.mono HB.out.size))
          clear hb4 c0 c1
          go_wp2
          go_roundw
          case rel => exact ⟨k + 1, r - (s1.size + szVs vs), by omega, by go_num, by go_num, by omega, show _ = _ by have h1 := HSum.out; have h2 := HR.out; rw [← HY.out] at h1; rw [h1]; simp only; omega, HB4.out⟩
          case measure => simp [intOf]; omega
        · rw [remI_no (by omega)] at HC
          have HNO := Lib.hid (ret_int (k := .i64) (show (-1 : Int) = remI (szHs hs) l by
            have h1 := HSum.out
            rw [← HY.out] at h1
            have h2 := HR.out
            have h3 := HLe.out
            simp only at h1
            rw [remI_no (by rw [HT.out]; omega)]))
          go_wp2_with fail
          refine (HC.out _ HB.out).mono ?_
          rintro e w4 ⟨rfl, hb4⟩
          have HB4 := Lib.hid (HB.out.trans (hb4.mono HB.out.size))
          clear hb4 c0 c1
          go_wp2
          go_ret
          exact ⟨HNO.out, HB4.out⟩
      · have HYES := Lib.hid (ret_int (k := .i64) (show (r : Int) = remI (szHs hs) l by
          have h2 := HR.out
          rw [List.take_of_length_le (by omega), ← HT.out] at h2
          rw [remI_yes (by omega)]; omega))
        go_wp2
        go_ret
        exact ⟨HYES.out, HB.out⟩
  · have HNO := Lib.hid (ret_int (k := .i64) (show (-1 : Int) = remI (szHs hs) l by rw [remI_no (by rw [HT.out]; omega)]))
    go_enter Try.func30, Try.ntmps30
    go_wp2
    go_ret
    exact ⟨HNO.out, Below.refl _ _⟩
end Go.Proofs.Ytgdofgcggblajaa
