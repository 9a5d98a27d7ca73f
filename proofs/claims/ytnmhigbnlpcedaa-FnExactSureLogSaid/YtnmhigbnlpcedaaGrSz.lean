/-
  Contracts for the laws' helpers that count groups: szEntry, szEntryS, szReplica, szReplicaS, szGroup.
-/
import Derived.Test.YtnmhigbnlpcedaaGrMem
namespace Go.Proofs.Ytnmhigbnlpcedaa.Gr
open Go.RowKit CM
set_option linter.unusedVariables false
set_option linter.unusedSimpArgs false

set_option maxHeartbeats 1000000 in
theorem szEntry_any (tm kk tt xx ll : Int) (yy : Bool) (Ar : Option Addr) (nr cr : Nat) (rs : List ByteArray) (Aw : Option Addr) (nw cw : Nat) (ws : List (ByteArray × ByteArray × Bool)) (l B : Nat) (w : World) (hnr : rs.length = nr) (hr : StrsB w B Ar rs) (hnw : ws.length = nw) (hw : WritesB w B Aw ws) (hB : B ≤ w.heap.size) (hmr : SMax rs) (hmw : WMax ws) (hl : l ≤ 1048576) :
    Calls Try.prog 136 #[.agg #[.int .i64 tm, .int .i64 kk, .int .i64 tt, .int .i64 xx, .int .i64 ll, .slice Ar nr cr, .slice Aw nw cw, .bool yy], .int .i64 (l : Int)] w fun e w' => e = .returned (.int .i64 (remI (szSs rs + szWs ws) l)) ∧ Below w.heap.size w w' := by
  have HZ := Lib.hid (fun W (hW : Below w.heap.size w W) => szRec_any kk tt xx ll yy Ar nr cr rs Aw nw cw ws l B W hnr (hr.below (hW.mono hB)) hnw (hw.below (hW.mono hB)) (Nat.le_trans hB hW.size) hmr hmw hl)
  have hb1 := below1 w (.cells #[.int .i64 tm, .int .i64 kk, .int .i64 tt, .int .i64 xx, .int .i64 ll, .slice Ar nr cr, .slice Aw nw cw, .bool yy] 137)
  obtain ⟨s, hs⟩ : ∃ s, s = szSs rs + szWs ws := ⟨_, rfl⟩
  rw [← hs] at HZ ⊢
  clear hs hnr hnw hr hw hmr hmw
  by_cases h : s ≤ l
  · rw [remI_yes h] at HZ ⊢
    have h4 : (0 : Int) ≤ (l : Int) - (s : Int) := by omega
    obtain ⟨z, hz⟩ : ∃ z, z = (l : Int) - (s : Int) := ⟨_, rfl⟩
    rw [← hz] at HZ h4 ⊢
    clear hz h
    go_enter Try.func136, Try.ntmps136
    go_wp2_with fail
    refine (HZ.out _ hb1).mono ?_
    rintro e w1 ⟨rfl, hb2⟩
    go_wp2
    go_ret
    exact ⟨rfl, hb1.trans (hb2.mono hb1.size)⟩
  · rw [remI_no (by omega)] at HZ ⊢
    clear h
    go_enter Try.func136, Try.ntmps136
    go_wp2_with fail
    refine (HZ.out _ hb1).mono ?_
    rintro e w1 ⟨rfl, hb2⟩
    go_wp2
    go_ret
    exact ⟨rfl, hb1.trans (hb2.mono hb1.size)⟩

set_option maxRecDepth 100000 in
set_option maxHeartbeats 1000000 in
theorem szEntryS_any (A : Option Addr) (n c : Nat) (hs : List EH) (l B : Nat) (w : World) (hn : hs.length = n) (h : RowsB KE w B A hs) (hB : B ≤ w.heap.size) (hm : LgMax hs) (hl : l ≤ 1048576) :
    Calls Try.prog 117 #[.slice A n c, .int .i64 (l : Int)] w fun e w' => e = .returned (.int .i64 (remI (szAll szE hs) l)) ∧ Below w.heap.size w w' := by
  obtain ⟨hmn, hms⟩ := hm
  have hnn := Nat.le_of_eq hn
  have hnn' := Nat.le_of_eq hn.symm
  have HN := Lib.hid hn
  have HS := Lib.hid h
  have HM := Lib.hid hms
  have HT := Lib.hid (show szAll szE hs = n + (hs.map szE).sum by rw [← hn]; rfl)
  have hnm : n ≤ maxLen := by omega
  unfold maxLen at hnm
  clear h hms hmn hn
  by_cases hln : n ≤ l
  · go_enter Try.func117, Try.ntmps117
    go_wp2
    go_loopw [1, 5] (fun v i wr => ∃ k r : Nat, k ≤ n ∧ i = .int .i64 k ∧ v = .int .i64 r ∧ r ≤ 1048576 ∧ Hid (r + (n + ((hs.take k).map szE).sum) = l) ∧ Below w.heap.size w wr) (fun _ i _ => n - (intOf i).toNat)
    case atStart => exact ⟨0, l - n, by omega, rfl, by go_num, by omega, show _ = _ by simp; omega, Below.refl _ _⟩
    case round =>
      obtain ⟨k, r, hk, rfl, rfl, hr, HR, hb⟩ := hrel
      have HB := Lib.hid hb
      clear hb
      by_cases hlt : k < n
      · obtain ⟨b, off, rfl, hbB, hc⟩ := en_get HS.out (by omega)
        obtain ⟨hc0, hc1, hc2, hc3, hc4, hc5, hc6, hc7⟩ := hc k (by omega)
        have c0 := (HB.out.cell (p := ⟨b, off + k * 8, none⟩) (Nat.lt_of_lt_of_le hbB hB)).trans hc0
        have c1 := (HB.out.cell (p := ⟨b, off + k * 8 + 1, none⟩) (Nat.lt_of_lt_of_le hbB hB)).trans hc1
        have c2 := (HB.out.cell (p := ⟨b, off + k * 8 + 2, none⟩) (Nat.lt_of_lt_of_le hbB hB)).trans hc2
        have c3 := (HB.out.cell (p := ⟨b, off + k * 8 + 3, none⟩) (Nat.lt_of_lt_of_le hbB hB)).trans hc3
        have c4 := (HB.out.cell (p := ⟨b, off + k * 8 + 4, none⟩) (Nat.lt_of_lt_of_le hbB hB)).trans hc4
        have c5 := (HB.out.cell (p := ⟨b, off + k * 8 + 5, none⟩) (Nat.lt_of_lt_of_le hbB hB)).trans hc5
        have c6 := (HB.out.cell (p := ⟨b, off + k * 8 + 6, none⟩) (Nat.lt_of_lt_of_le hbB hB)).trans hc6
        have c7 := (HB.out.cell (p := ⟨b, off + k * 8 + 7, none⟩) (Nat.lt_of_lt_of_le hbB hB)).trans hc7
        obtain ⟨y, hy⟩ : ∃ y, y = hs[k]'(by omega) := ⟨_, rfl⟩
        have hrd := KE.rd_below (HS.out.at k (by omega)) (HB.out.mono hB)
        have HSum := Lib.hid (sum_take_succ szE hs k (by omega))
        have hsz := HM.out _ (List.getElem_mem (show k < hs.length by omega))
        have HLe := Lib.hid (sum_take_le szE hs (k + 1))
        rw [← hy] at c0 c1 c2 c3 c4 c5 c6 c7 hsz hrd
        rw [← hy] at HSum
        obtain ⟨s, hs'⟩ : ∃ s, s = szE y := ⟨_, rfl⟩
        rw [← hs'] at HSum
        have hs2 : szSs y.d.rs + szWs y.d.ws = s := by rw [hs']; rfl
        have HC := Lib.hid (fun W (hW : Below wr.heap.size wr W) => szEntry_any y.d.tm y.d.k y.d.t y.d.x y.d.l y.d.y y.Ar y.d.rs.length y.cr y.d.rs y.Aw y.d.ws.length y.cw y.d.ws r B W rfl (hrd.1.below (hW.mono (Nat.le_trans hB HB.out.size))) rfl (hrd.2.below (hW.mono (Nat.le_trans hB HB.out.size))) (Nat.le_trans (Nat.le_trans hB HB.out.size) hW.size) hsz.1 hsz.2 hr)
        clear hs'
        obtain ⟨⟨tm, kk, tt, xx, ll, yy, rs, ws⟩, Ar, cr, Aw, cw, elo, em, ehi⟩ := y
        simp only at c0 c1 c2 c3 c4 c5 c6 c7 hsz hrd hs2 HC
        rw [hs2] at HC
        obtain ⟨nr, hvnr⟩ : ∃ nr, nr = rs.length := ⟨_, rfl⟩
        rw [← hvnr] at c5 HC
        obtain ⟨nw, hvnw⟩ : ∃ nw, nw = ws.length := ⟨_, rfl⟩
        rw [← hvnw] at c6 HC
        clear hc hc0 hc1 hc2 hc3 hc4 hc5 hc6 hc7 hy hsz hrd hs2 hvnr hvnw
        by_cases hfit : s ≤ r
        · rw [remI_yes hfit] at HC
          have hf : (0 : Int) ≤ (r : Int) - (s : Int) := by omega
          go_wp2_with fail
          refine (HC.out _ (Below.refl _ _)).mono ?_
          rintro e w4 ⟨rfl, hb4⟩
          have HB4 := Lib.hid (HB.out.trans (hb4.mono HB.out.size))
          clear hb4 c0 c1 c2 c3 c4 c5 c6 c7
          go_wp2
          go_roundw
          case rel => exact ⟨k + 1, r - s, by omega, by go_num, by go_num, by omega, show _ = _ by have h1 := HSum.out; have h2 := HR.out; rw [h1]; omega, HB4.out⟩
          case measure => simp [intOf]; omega
        · rw [remI_no (by omega)] at HC
          have HNO := Lib.hid (ret_int (k := .i64) (show (-1 : Int) = remI (szAll szE hs) l by
            have h1 := HSum.out
            have h2 := HR.out
            have h3 := HLe.out
            rw [remI_no (by rw [HT.out]; omega)]))
          go_wp2_with fail
          refine (HC.out _ (Below.refl _ _)).mono ?_
          rintro e w4 ⟨rfl, hb4⟩
          have HB4 := Lib.hid (HB.out.trans (hb4.mono HB.out.size))
          clear hb4 c0 c1 c2 c3 c4 c5 c6 c7
          go_wp2
          go_ret
          exact ⟨HNO.out, HB4.out⟩
      · have HYES := Lib.hid (ret_int (k := .i64) (show (r : Int) = remI (szAll szE hs) l by
          have h2 := HR.out
          rw [List.take_of_length_le (by omega), ← HT.out] at h2
          rw [remI_yes (by omega)]; omega))
        go_wp2
        go_ret
        exact ⟨HYES.out, HB.out⟩
  · have HNO := Lib.hid (ret_int (k := .i64) (show (-1 : Int) = remI (szAll szE hs) l by rw [remI_no (by rw [HT.out]; omega)]))
    go_enter Try.func117, Try.ntmps117
    go_wp2
    go_ret
    exact ⟨HNO.out, Below.refl _ _⟩

set_option maxHeartbeats 1000000 in
theorem szReplica_any (up : Bool) (su : Int) (Al : Option Addr) (nl cl : Nat) (es : List EH) (l B : Nat) (w : World) (hn : es.length = nl) (h : RowsB KE w B Al es) (hB : B ≤ w.heap.size) (hm : LgMax es) (hl : l ≤ 1048576) :
    Calls Try.prog 94 #[.agg #[.bool up, .slice Al nl cl, .int .i64 su], .int .i64 (l : Int)] w fun e w' => e = .returned (.int .i64 (remI (szAll szE es) l)) ∧ Below w.heap.size w w' := by
  have HZ := Lib.hid (fun W (hW : Below w.heap.size w W) => szEntryS_any Al nl cl es l B W hn (h.below (hW.mono hB)) (Nat.le_trans hB hW.size) hm hl)
  have hb1 := below1 w (.cells #[.bool up, .slice Al nl cl, .int .i64 su] 97)
  obtain ⟨s, hs⟩ : ∃ s, s = szAll szE es := ⟨_, rfl⟩
  rw [← hs] at HZ ⊢
  clear hs hn h hm
  by_cases h : s ≤ l
  · rw [remI_yes h] at HZ ⊢
    have h4 : (0 : Int) ≤ (l : Int) - (s : Int) := by omega
    obtain ⟨z, hz⟩ : ∃ z, z = (l : Int) - (s : Int) := ⟨_, rfl⟩
    rw [← hz] at HZ h4 ⊢
    clear hz h
    go_enter Try.func94, Try.ntmps94
    go_wp2_with fail
    refine (HZ.out _ hb1).mono ?_
    rintro e w1 ⟨rfl, hb2⟩
    go_wp2
    go_ret
    exact ⟨rfl, hb1.trans (hb2.mono hb1.size)⟩
  · rw [remI_no (by omega)] at HZ ⊢
    clear h
    go_enter Try.func94, Try.ntmps94
    go_wp2_with fail
    refine (HZ.out _ hb1).mono ?_
    rintro e w1 ⟨rfl, hb2⟩
    go_wp2
    go_ret
    exact ⟨rfl, hb1.trans (hb2.mono hb1.size)⟩

set_option maxRecDepth 100000 in
set_option maxHeartbeats 1000000 in
theorem szReplicaS_any (A : Option Addr) (n c : Nat) (hs : List RH) (l B : Nat) (w : World) (hn : hs.length = n) (h : RowsB KR w B A hs) (hB : B ≤ w.heap.size) (hm : RpMax hs) (hl : l ≤ 1048576) :
    Calls Try.prog 50 #[.slice A n c, .int .i64 (l : Int)] w fun e w' => e = .returned (.int .i64 (remI (szAll szR hs) l)) ∧ Below w.heap.size w w' := by
  obtain ⟨hmn, hms⟩ := hm
  have hnn := Nat.le_of_eq hn
  have hnn' := Nat.le_of_eq hn.symm
  have HN := Lib.hid hn
  have HS := Lib.hid h
  have HM := Lib.hid hms
  have HT := Lib.hid (show szAll szR hs = n + (hs.map szR).sum by rw [← hn]; rfl)
  have hnm : n ≤ maxLen := by omega
  unfold maxLen at hnm
  clear h hms hmn hn
  by_cases hln : n ≤ l
  · go_enter Try.func50, Try.ntmps50
    go_wp2
    go_loopw [1, 5] (fun v i wr => ∃ k r : Nat, k ≤ n ∧ i = .int .i64 k ∧ v = .int .i64 r ∧ r ≤ 1048576 ∧ Hid (r + (n + ((hs.take k).map szR).sum) = l) ∧ Below w.heap.size w wr) (fun _ i _ => n - (intOf i).toNat)
    case atStart => exact ⟨0, l - n, by omega, rfl, by go_num, by omega, show _ = _ by simp; omega, Below.refl _ _⟩
    case round =>
      obtain ⟨k, r, hk, rfl, rfl, hr, HR, hb⟩ := hrel
      have HB := Lib.hid hb
      clear hb
      by_cases hlt : k < n
      · obtain ⟨b, off, rfl, hbB, hc⟩ := rp_get HS.out (by omega)
        obtain ⟨hc0, hc1, hc2⟩ := hc k (by omega)
        have c0 := (HB.out.cell (p := ⟨b, off + k * 3, none⟩) (Nat.lt_of_lt_of_le hbB hB)).trans hc0
        have c1 := (HB.out.cell (p := ⟨b, off + k * 3 + 1, none⟩) (Nat.lt_of_lt_of_le hbB hB)).trans hc1
        have c2 := (HB.out.cell (p := ⟨b, off + k * 3 + 2, none⟩) (Nat.lt_of_lt_of_le hbB hB)).trans hc2
        obtain ⟨y, hy⟩ : ∃ y, y = hs[k]'(by omega) := ⟨_, rfl⟩
        have hrd := KR.rd_below (HS.out.at k (by omega)) (HB.out.mono hB)
        have HSum := Lib.hid (sum_take_succ szR hs k (by omega))
        have hsz := HM.out _ (List.getElem_mem (show k < hs.length by omega))
        have HLe := Lib.hid (sum_take_le szR hs (k + 1))
        rw [← hy] at c0 c1 c2 hsz hrd
        rw [← hy] at HSum
        obtain ⟨s, hs'⟩ : ∃ s, s = szR y := ⟨_, rfl⟩
        rw [← hs'] at HSum
        have hs2 : szAll szE y.es = s := by rw [hs']; rfl
        have HC := Lib.hid (fun W (hW : Below wr.heap.size wr W) => szReplica_any y.up y.su y.A y.es.length y.c y.es r B W rfl (RowsB.below (K := KE) hrd (hW.mono (Nat.le_trans hB HB.out.size))) (Nat.le_trans (Nat.le_trans hB HB.out.size) hW.size) hsz hr)
        clear hs'
        obtain ⟨up, su, Al, cl, es, rlo, rhi⟩ := y
        simp only at c0 c1 c2 hsz hrd hs2 HC
        rw [hs2] at HC
        obtain ⟨nl, hvnl⟩ : ∃ nl, nl = es.length := ⟨_, rfl⟩
        rw [← hvnl] at c1 HC
        clear hc hc0 hc1 hc2 hy hsz hrd hs2 hvnl
        by_cases hfit : s ≤ r
        · rw [remI_yes hfit] at HC
          have hf : (0 : Int) ≤ (r : Int) - (s : Int) := by omega
          go_wp2_with fail
          refine (HC.out _ (Below.refl _ _)).mono ?_
          rintro e w4 ⟨rfl, hb4⟩
          have HB4 := Lib.hid (HB.out.trans (hb4.mono HB.out.size))
          clear hb4 c0 c1 c2
          go_wp2
          go_roundw
          case rel => exact ⟨k + 1, r - s, by omega, by go_num, by go_num, by omega, show _ = _ by have h1 := HSum.out; have h2 := HR.out; rw [h1]; omega, HB4.out⟩
          case measure => simp [intOf]; omega
        · rw [remI_no (by omega)] at HC
          have HNO := Lib.hid (ret_int (k := .i64) (show (-1 : Int) = remI (szAll szR hs) l by
            have h1 := HSum.out
            have h2 := HR.out
            have h3 := HLe.out
            rw [remI_no (by rw [HT.out]; omega)]))
          go_wp2_with fail
          refine (HC.out _ (Below.refl _ _)).mono ?_
          rintro e w4 ⟨rfl, hb4⟩
          have HB4 := Lib.hid (HB.out.trans (hb4.mono HB.out.size))
          clear hb4 c0 c1 c2
          go_wp2
          go_ret
          exact ⟨HNO.out, HB4.out⟩
      · have HYES := Lib.hid (ret_int (k := .i64) (show (r : Int) = remI (szAll szR hs) l by
          have h2 := HR.out
          rw [List.take_of_length_le (by omega), ← HT.out] at h2
          rw [remI_yes (by omega)]; omega))
        go_wp2
        go_ret
        exact ⟨HYES.out, HB.out⟩
  · have HNO := Lib.hid (ret_int (k := .i64) (show (-1 : Int) = remI (szAll szR hs) l by rw [remI_no (by rw [HT.out]; omega)]))
    go_enter Try.func50, Try.ntmps50
    go_wp2
    go_ret
    exact ⟨HNO.out, Below.refl _ _⟩

set_option maxHeartbeats 1000000 in
theorem szGroup_any (A : Option Addr) (n c : Nat) (tm ld : Int) (hs : List RH) (B : Nat) (w : World) (hn : hs.length = n) (h : RowsB KR w B A hs) (hB : B ≤ w.heap.size) (hm : RpMax hs) :
    Calls Try.prog 18 #[.agg #[.slice A n c, .int .i64 tm, .int .i64 ld], .int .i64 1048576] w fun e w' => e = .returned (.int .i64 (remI (szAll szR hs) 1048576)) ∧ Below w.heap.size w w' := by
  have HZ := Lib.hid (fun W (hW : Below w.heap.size w W) => szReplicaS_any A n c hs 1048576 B W hn (h.below (hW.mono hB)) (Nat.le_trans hB hW.size) hm (Nat.le_refl _))
  have hb1 := below1 w (.cells #[.slice A n c, .int .i64 tm, .int .i64 ld] 32)
  rw [show (((1048576 : Nat) : Int)) = 1048576 from rfl] at HZ
  obtain ⟨s, hs⟩ : ∃ s, s = szAll szR hs := ⟨_, rfl⟩
  rw [← hs] at HZ ⊢
  clear hs hn h hm
  by_cases h : s ≤ 1048576
  · rw [remI_yes h] at HZ ⊢
    have h4 : (0 : Int) ≤ ((1048576 : Nat) : Int) - (s : Int) := by omega
    obtain ⟨z, hz⟩ : ∃ z, z = ((1048576 : Nat) : Int) - (s : Int) := ⟨_, rfl⟩
    rw [← hz] at HZ h4 ⊢
    clear hz h
    go_enter Try.func18, Try.ntmps18
    go_wp2_with fail
    refine (HZ.out _ hb1).mono ?_
    rintro e w1 ⟨rfl, hb2⟩
    go_wp2
    go_ret
    exact ⟨rfl, hb1.trans (hb2.mono hb1.size)⟩
  · rw [remI_no (by omega)] at HZ ⊢
    clear h
    go_enter Try.func18, Try.ntmps18
    go_wp2_with fail
    refine (HZ.out _ hb1).mono ?_
    rintro e w1 ⟨rfl, hb2⟩
    go_wp2
    go_ret
    exact ⟨rfl, hb1.trans (hb2.mono hb1.size)⟩
end Go.Proofs.Ytnmhigbnlpcedaa.Gr
