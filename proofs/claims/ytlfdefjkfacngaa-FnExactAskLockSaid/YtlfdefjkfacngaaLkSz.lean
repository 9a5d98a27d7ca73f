/-
  Contracts for the laws' helpers that count what a list of locks holds: szLock, szLockS.
-/
import Derived.Test.YtlfdefjkfacngaaLkMem
namespace Go.Proofs.Ytlfdefjkfacngaa.Lk
open Go.RowKit
set_option linter.unusedVariables false
set_option linter.unusedSimpArgs false

set_option maxHeartbeats 400000 in
theorem szLock_any (b : ByteArray) (t : Int) (g : Bool) (l : Nat) (w : World) (hb : b.size ≤ maxLen) (hl : l ≤ 1048576) :
    Calls Try.prog 36 #[.agg #[.string b, .int .i64 t, .bool g], .int .i64 (l : Int)] w fun e w' => e = .returned (.int .i64 (remI b.size l)) ∧ Below w.heap.size w w' := by
  unfold maxLen at hb
  by_cases h2 : b.size ≤ l
  · rw [remI_yes h2]
    have h4 : (b.size : Int) ≤ (l : Int) := by omega
    go_enter Try.func36, Try.ntmps36
    go_wp2
    go_ret
    exact ⟨rfl, below1 _ _⟩
  · rw [remI_no (by omega)]
    have h4 : (l : Int) < (b.size : Int) := by omega
    go_enter Try.func36, Try.ntmps36
    go_wp2
    go_ret
    exact ⟨rfl, below1 _ _⟩
set_option maxRecDepth 100000 in
set_option maxHeartbeats 1000000 in
theorem szLockS_any (A : Option Addr) (n c : Nat) (ws : List LK) (l B : Nat) (w : World) (hn : ws.length = n) (h : LksB w B A ws) (hB : B ≤ w.heap.size) (hm : KMax ws) (hl : l ≤ 1048576) :
    Calls Try.prog 33 #[.slice A n c, .int .i64 (l : Int)] w fun e w' => e = .returned (.int .i64 (remI (szKs ws) l)) ∧ Below w.heap.size w w' := by
  obtain ⟨hmn, hms⟩ := hm
  have hnn := Nat.le_of_eq hn
  have hnn' := Nat.le_of_eq hn.symm
  have HN := Lib.hid hn
  have HS := Lib.hid h
  have HM := Lib.hid hms
  have HT := Lib.hid (show szKs ws = n + (ws.map fun x => x.1.size).sum by rw [← hn]; rfl)
  have hnm : n ≤ maxLen := by omega
  unfold maxLen at hnm
  clear h hms hmn hn
  by_cases hln : n ≤ l
  · go_enter Try.func33, Try.ntmps33
    go_wp2
    go_loopw [1, 5] (fun v i wr => ∃ k r : Nat, k ≤ n ∧ i = .int .i64 k ∧ v = .int .i64 r ∧ r ≤ 1048576 ∧ Hid (r + (n + ((ws.take k).map fun x => x.1.size).sum) = l) ∧ Below w.heap.size w wr) (fun _ i _ => n - (intOf i).toNat)
    case atStart => exact ⟨0, l - n, by omega, rfl, by go_num, by omega, show _ = _ by simp; omega, Below.refl _ _⟩
    case round =>
      obtain ⟨k, r, hk, rfl, rfl, hr, HR, hb⟩ := hrel
      have HB := Lib.hid hb
      clear hb
      by_cases hlt : k < n
      · obtain ⟨b, off, rfl, hbB, hc⟩ := HS.out.get (by omega)
        obtain ⟨hc0, hc1, hc2⟩ := hc k (by omega)
        have c0 := (HB.out.cell (p := ⟨b, off + k * 3, none⟩) (Nat.lt_of_lt_of_le hbB hB)).trans hc0
        have c1 := (HB.out.cell (p := ⟨b, off + k * 3 + 1, none⟩) (Nat.lt_of_lt_of_le hbB hB)).trans hc1
        have c2 := (HB.out.cell (p := ⟨b, off + k * 3 + 2, none⟩) (Nat.lt_of_lt_of_le hbB hB)).trans hc2
        obtain ⟨y, hy⟩ : ∃ y, y = ws[k]'(by omega) := ⟨_, rfl⟩
        have HSum := Lib.hid (sum_take_succ (fun x : LK => x.1.size) ws k (by omega))
        have hsz := HM.out _ (List.getElem_mem (show k < ws.length by omega))
        have HLe := Lib.hid (sum_take_le (fun x : LK => x.1.size) ws (k + 1))
        rw [← hy] at c0 c1 c2 hsz
        have HY := Lib.hid hy
        obtain ⟨s1, s2, gb⟩ := y
        simp only at c0 c1 c2 hsz
        have HC := Lib.hid fun W => szLock_any s1 s2 gb r W hsz hr
        clear hc hc0 hc1 hc2 hy hsz
        by_cases hfit : s1.size ≤ r
        · rw [remI_yes hfit] at HC
          have hf : (0 : Int) ≤ (r : Int) - (s1.size : Int) := by omega
          go_wp2_with fail
          refine (HC.out _).mono ?_
          rintro e w4 ⟨rfl, hb4⟩
          have HB4 := Lib.hid (HB.out.trans (hb4.mono HB.out.size))
          clear hb4 c0 c1 c2
          go_wp2
          go_roundw
          case rel => exact ⟨k + 1, r - (s1.size), by omega, by go_num, by go_num, by omega, show _ = _ by have h1 := HSum.out; have h2 := HR.out; rw [← HY.out] at h1; rw [h1]; simp only; omega, HB4.out⟩
          case measure => simp [intOf]; omega
        · rw [remI_no (by omega)] at HC
          have HNO := Lib.hid (ret_int (k := .i64) (show (-1 : Int) = remI (szKs ws) l by
            have h1 := HSum.out
            rw [← HY.out] at h1
            have h2 := HR.out
            have h3 := HLe.out
            simp only at h1
            rw [remI_no (by rw [HT.out]; omega)]))
          go_wp2_with fail
          refine (HC.out _).mono ?_
          rintro e w4 ⟨rfl, hb4⟩
          have HB4 := Lib.hid (HB.out.trans (hb4.mono HB.out.size))
          clear hb4 c0 c1 c2
          go_wp2
          go_ret
          exact ⟨HNO.out, HB4.out⟩
      · have HYES := Lib.hid (ret_int (k := .i64) (show (r : Int) = remI (szKs ws) l by
          have h2 := HR.out
          rw [List.take_of_length_le (by omega), ← HT.out] at h2
          rw [remI_yes (by omega)]; omega))
        go_wp2
        go_ret
        exact ⟨HYES.out, HB.out⟩
  · have HNO := Lib.hid (ret_int (k := .i64) (show (-1 : Int) = remI (szKs ws) l by rw [remI_no (by rw [HT.out]; omega)]))
    go_enter Try.func33, Try.ntmps33
    go_wp2
    go_ret
    exact ⟨HNO.out, Below.refl _ _⟩
end Go.Proofs.Ytlfdefjkfacngaa.Lk
