/-
  Contracts for the laws' helpers on entries, replicas and groups: sizes, copies, comparisons, marks.
-/
import Derived.Test.YtcelbnemblnabaaGrMem
import Derived.Test.YtcelbnemblnabaaHeld
namespace Go.Proofs.Ytcelbnemblnabaa.Gr
open Go.RowKit CM
set_option linter.unusedVariables false
set_option linter.unusedSimpArgs false

set_option maxHeartbeats 1000000 in
theorem szEntry_any (tm kk tt xx ll : Int) (yy : Bool) (Ar : Option Addr) (nr cr : Nat) (rs : List ByteArray) (Aw : Option Addr) (nw cw : Nat) (ws : List (ByteArray × ByteArray × Bool)) (l B : Nat) (w : World) (hnr : rs.length = nr) (hr : StrsB w B Ar rs) (hnw : ws.length = nw) (hw : WritesB w B Aw ws) (hB : B ≤ w.heap.size) (hmr : SMax rs) (hmw : WMax ws) (hl : l ≤ 1048576) :
    Calls Try.prog 36 #[.agg #[.int .i64 tm, .int .i64 kk, .int .i64 tt, .int .i64 xx, .int .i64 ll, .slice Ar nr cr, .slice Aw nw cw, .bool yy], .int .i64 (l : Int)] w fun e w' => e = .returned (.int .i64 (remI (szSs rs + szWs ws) l)) ∧ Below w.heap.size w w' := by
  have HZ := Lib.hid (fun W (hW : Below w.heap.size w W) => szRec_any kk tt xx ll yy Ar nr cr rs Aw nw cw ws l B W hnr (hr.below (hW.mono hB)) hnw (hw.below (hW.mono hB)) (Nat.le_trans hB hW.size) hmr hmw hl)
  have hb1 := below1 w (.cells #[.int .i64 tm, .int .i64 kk, .int .i64 tt, .int .i64 xx, .int .i64 ll, .slice Ar nr cr, .slice Aw nw cw, .bool yy] 73)
  obtain ⟨s, hs⟩ : ∃ s, s = szSs rs + szWs ws := ⟨_, rfl⟩
  rw [← hs] at HZ ⊢
  clear hs hnr hnw hr hw hmr hmw
  by_cases h : s ≤ l
  · rw [remI_yes h] at HZ ⊢
    have h4 : (0 : Int) ≤ (l : Int) - (s : Int) := by omega
    obtain ⟨z, hz⟩ : ∃ z, z = (l : Int) - (s : Int) := ⟨_, rfl⟩
    rw [← hz] at HZ h4 ⊢
    clear hz h
    go_enter Try.func36, Try.ntmps36
    go_wp2_with fail
    refine (HZ.out _ hb1).mono ?_
    rintro e w1 ⟨rfl, hb2⟩
    go_wp2
    go_ret
    exact ⟨rfl, hb1.trans (hb2.mono hb1.size)⟩
  · rw [remI_no (by omega)] at HZ ⊢
    clear h
    go_enter Try.func36, Try.ntmps36
    go_wp2_with fail
    refine (HZ.out _ hb1).mono ?_
    rintro e w1 ⟨rfl, hb2⟩
    go_wp2
    go_ret
    exact ⟨rfl, hb1.trans (hb2.mono hb1.size)⟩

set_option maxRecDepth 100000 in
set_option maxHeartbeats 1000000 in
theorem szEntryS_any (A : Option Addr) (n c : Nat) (hs : List EH) (l B : Nat) (w : World) (hn : hs.length = n) (h : RowsB KE w B A hs) (hB : B ≤ w.heap.size) (hm : LgMax hs) (hl : l ≤ 1048576) :
    Calls Try.prog 29 #[.slice A n c, .int .i64 (l : Int)] w fun e w' => e = .returned (.int .i64 (remI (szAll szE hs) l)) ∧ Below w.heap.size w w' := by
  obtain ⟨hmn, hms⟩ := hm
  have hnn := Nat.le_of_eq hn
  have hnn' := Nat.le_of_eq hn.symm
  have HN := Lib.hid hn
  have HS := Lib.hid h
  have HM := Lib.hid hms
  have HT := Lib.hid (show szAll szE hs = n + (hs.map szE).sum by rw [← hn]; rfl)
  have hnm : n ≤ maxLen := by omega
  unfold maxLen at hnm
  clear h hms hmn hn
  by_cases hln : n ≤ l
  · go_enter Try.func29, Try.ntmps29
    go_wp2
    go_loopw [1, 5] (fun v i wr => ∃ k r : Nat, k ≤ n ∧ i = .int .i64 k ∧ v = .int .i64 r ∧ r ≤ 1048576 ∧ Hid (r + (n + ((hs.take k).map szE).sum) = l) ∧ Below w.heap.size w wr) (fun _ i _ => n - (intOf i).toNat)
    case atStart => exact ⟨0, l - n, by omega, rfl, by go_num, by omega, show _ = _ by simp; omega, Below.refl _ _⟩
    case round =>
      obtain ⟨k, r, hk, rfl, rfl, hr, HR, hb⟩ := hrel
      have HB := Lib.hid hb
      clear hb
      by_cases hlt : k < n
      · obtain ⟨b, off, rfl, hbB, hc⟩ := en_get HS.out (by omega)
        obtain ⟨hc0, hc1, hc2, hc3, hc4, hc5, hc6, hc7⟩ := hc k (by omega)
        have c0 := (HB.out.cell (p := ⟨b, off + k * 8, none⟩) (Nat.lt_of_lt_of_le hbB hB)).trans hc0
        have c1 := (HB.out.cell (p := ⟨b, off + k * 8 + 1, none⟩) (Nat.lt_of_lt_of_le hbB hB)).trans hc1
        have c2 := (HB.out.cell (p := ⟨b, off + k * 8 + 2, none⟩) (Nat.lt_of_lt_of_le hbB hB)).trans hc2
        have c3 := (HB.out.cell (p := ⟨b, off + k * 8 + 3, none⟩) (Nat.lt_of_lt_of_le hbB hB)).trans hc3
        have c4 := (HB.out.cell (p := ⟨b, off + k * 8 + 4, none⟩) (Nat.lt_of_lt_of_le hbB hB)).trans hc4
        have c5 := (HB.out.cell (p := ⟨b, off + k * 8 + 5, none⟩) (Nat.lt_of_lt_of_le hbB hB)).trans hc5
        have c6 := (HB.out.cell (p := ⟨b, off + k * 8 + 6, none⟩) (Nat.lt_of_lt_of_le hbB hB)).trans hc6
        have c7 := (HB.out.cell (p := ⟨b, off + k * 8 + 7, none⟩) (Nat.lt_of_lt_of_le hbB hB)).trans hc7
        obtain ⟨y, hy⟩ : ∃ y, y = hs[k]'(by omega) := ⟨_, rfl⟩
        have hrd := KE.rd_below (HS.out.at k (by omega)) (HB.out.mono hB)
        have HSum := Lib.hid (sum_take_succ szE hs k (by omega))
        have hsz := HM.out _ (List.getElem_mem (show k < hs.length by omega))
        have HLe := Lib.hid (sum_take_le szE hs (k + 1))
        rw [← hy] at c0 c1 c2 c3 c4 c5 c6 c7 hsz hrd
        rw [← hy] at HSum
        obtain ⟨s, hs'⟩ : ∃ s, s = szE y := ⟨_, rfl⟩
        rw [← hs'] at HSum
        have hs2 : szSs y.d.rs + szWs y.d.ws = s := by rw [hs']; rfl
        have HC := Lib.hid (fun W (hW : Below wr.heap.size wr W) => szEntry_any y.d.tm y.d.k y.d.t y.d.x y.d.l y.d.y y.Ar y.d.rs.length y.cr y.d.rs y.Aw y.d.ws.length y.cw y.d.ws r B W rfl (hrd.1.below (hW.mono (Nat.le_trans hB HB.out.size))) rfl (hrd.2.below (hW.mono (Nat.le_trans hB HB.out.size))) (Nat.le_trans (Nat.le_trans hB HB.out.size) hW.size) hsz.1 hsz.2 hr)
        clear hs'
        obtain ⟨⟨tm, kk, tt, xx, ll, yy, rs, ws⟩, Ar, cr, Aw, cw, elo, em, ehi⟩ := y
        simp only at c0 c1 c2 c3 c4 c5 c6 c7 hsz hrd hs2 HC
        rw [hs2] at HC
        obtain ⟨nr, hvnr⟩ : ∃ nr, nr = rs.length := ⟨_, rfl⟩
        rw [← hvnr] at c5 HC
        obtain ⟨nw, hvnw⟩ : ∃ nw, nw = ws.length := ⟨_, rfl⟩
        rw [← hvnw] at c6 HC
        clear hc hc0 hc1 hc2 hc3 hc4 hc5 hc6 hc7 hy hsz hrd hs2 hvnr hvnw
        by_cases hfit : s ≤ r
        · rw [remI_yes hfit] at HC
          have hf : (0 : Int) ≤ (r : Int) - (s : Int) := by omega
          go_wp2_with fail
          refine (HC.out _ (Below.refl _ _)).mono ?_
          rintro e w4 ⟨rfl, hb4⟩
          have HB4 := Lib.hid (HB.out.trans (hb4.mono HB.out.size))
          clear hb4 c0 c1 c2 c3 c4 c5 c6 c7
          go_wp2
          go_roundw
          case rel => exact ⟨k + 1, r - s, by omega, by go_num, by go_num, by omega, show _ = _ by have h1 := HSum.out; have h2 := HR.out; rw [h1]; omega, HB4.out⟩
          case measure => simp [intOf]; omega
        · rw [remI_no (by omega)] at HC
          have HNO := Lib.hid (ret_int (k := .i64) (show (-1 : Int) = remI (szAll szE hs) l by
            have h1 := HSum.out
            have h2 := HR.out
            have h3 := HLe.out
            rw [remI_no (by rw [HT.out]; omega)]))
          go_wp2_with fail
          refine (HC.out _ (Below.refl _ _)).mono ?_
          rintro e w4 ⟨rfl, hb4⟩
          have HB4 := Lib.hid (HB.out.trans (hb4.mono HB.out.size))
          clear hb4 c0 c1 c2 c3 c4 c5 c6 c7
          go_wp2
          go_ret
          exact ⟨HNO.out, HB4.out⟩
      · have HYES := Lib.hid (ret_int (k := .i64) (show (r : Int) = remI (szAll szE hs) l by
          have h2 := HR.out
          rw [List.take_of_length_le (by omega), ← HT.out] at h2
          rw [remI_yes (by omega)]; omega))
        go_wp2
        go_ret
        exact ⟨HYES.out, HB.out⟩
  · have HNO := Lib.hid (ret_int (k := .i64) (show (-1 : Int) = remI (szAll szE hs) l by rw [remI_no (by rw [HT.out]; omega)]))
    go_enter Try.func29, Try.ntmps29
    go_wp2
    go_ret
    exact ⟨HNO.out, Below.refl _ _⟩

set_option maxHeartbeats 1000000 in
theorem szReplica_any (up : Bool) (su : Int) (Al : Option Addr) (nl cl : Nat) (es : List EH) (l B : Nat) (w : World) (hn : es.length = nl) (h : RowsB KE w B Al es) (hB : B ≤ w.heap.size) (hm : LgMax es) (hl : l ≤ 1048576) :
    Calls Try.prog 19 #[.agg #[.bool up, .slice Al nl cl, .int .i64 su], .int .i64 (l : Int)] w fun e w' => e = .returned (.int .i64 (remI (szAll szE es) l)) ∧ Below w.heap.size w w' := by
  have HZ := Lib.hid (fun W (hW : Below w.heap.size w W) => szEntryS_any Al nl cl es l B W hn (h.below (hW.mono hB)) (Nat.le_trans hB hW.size) hm hl)
  have hb1 := below1 w (.cells #[.bool up, .slice Al nl cl, .int .i64 su] 46)
  obtain ⟨s, hs⟩ : ∃ s, s = szAll szE es := ⟨_, rfl⟩
  rw [← hs] at HZ ⊢
  clear hs hn h hm
  by_cases h : s ≤ l
  · rw [remI_yes h] at HZ ⊢
    have h4 : (0 : Int) ≤ (l : Int) - (s : Int) := by omega
    obtain ⟨z, hz⟩ : ∃ z, z = (l : Int) - (s : Int) := ⟨_, rfl⟩
    rw [← hz] at HZ h4 ⊢
    clear hz h
    go_enter Try.func19, Try.ntmps19
    go_wp2_with fail
    refine (HZ.out _ hb1).mono ?_
    rintro e w1 ⟨rfl, hb2⟩
    go_wp2
    go_ret
    exact ⟨rfl, hb1.trans (hb2.mono hb1.size)⟩
  · rw [remI_no (by omega)] at HZ ⊢
    clear h
    go_enter Try.func19, Try.ntmps19
    go_wp2_with fail
    refine (HZ.out _ hb1).mono ?_
    rintro e w1 ⟨rfl, hb2⟩
    go_wp2
    go_ret
    exact ⟨rfl, hb1.trans (hb2.mono hb1.size)⟩

set_option maxRecDepth 100000 in
set_option maxHeartbeats 1000000 in
theorem szReplicaS_any (A : Option Addr) (n c : Nat) (hs : List RH) (l B : Nat) (w : World) (hn : hs.length = n) (h : RowsB KR w B A hs) (hB : B ≤ w.heap.size) (hm : RpMax hs) (hl : l ≤ 1048576) :
    Calls Try.prog 9 #[.slice A n c, .int .i64 (l : Int)] w fun e w' => e = .returned (.int .i64 (remI (szAll szR hs) l)) ∧ Below w.heap.size w w' := by
  obtain ⟨hmn, hms⟩ := hm
  have hnn := Nat.le_of_eq hn
  have hnn' := Nat.le_of_eq hn.symm
  have HN := Lib.hid hn
  have HS := Lib.hid h
  have HM := Lib.hid hms
  have HT := Lib.hid (show szAll szR hs = n + (hs.map szR).sum by rw [← hn]; rfl)
  have hnm : n ≤ maxLen := by omega
  unfold maxLen at hnm
  clear h hms hmn hn
  by_cases hln : n ≤ l
  · go_enter Try.func9, Try.ntmps9
    go_wp2
    go_loopw [1, 5] (fun v i wr => ∃ k r : Nat, k ≤ n ∧ i = .int .i64 k ∧ v = .int .i64 r ∧ r ≤ 1048576 ∧ Hid (r + (n + ((hs.take k).map szR).sum) = l) ∧ Below w.heap.size w wr) (fun _ i _ => n - (intOf i).toNat)
    case atStart => exact ⟨0, l - n, by omega, rfl, by go_num, by omega, show _ = _ by simp; omega, Below.refl _ _⟩
    case round =>
      obtain ⟨k, r, hk, rfl, rfl, hr, HR, hb⟩ := hrel
      have HB := Lib.hid hb
      clear hb
      by_cases hlt : k < n
      · obtain ⟨b, off, rfl, hbB, hc⟩ := rp_get HS.out (by omega)
        obtain ⟨hc0, hc1, hc2⟩ := hc k (by omega)
        have c0 := (HB.out.cell (p := ⟨b, off + k * 3, none⟩) (Nat.lt_of_lt_of_le hbB hB)).trans hc0
        have c1 := (HB.out.cell (p := ⟨b, off + k * 3 + 1, none⟩) (Nat.lt_of_lt_of_le hbB hB)).trans hc1
        have c2 := (HB.out.cell (p := ⟨b, off + k * 3 + 2, none⟩) (Nat.lt_of_lt_of_le hbB hB)).trans hc2
        obtain ⟨y, hy⟩ : ∃ y, y = hs[k]'(by omega) := ⟨_, rfl⟩
        have hrd := KR.rd_below (HS.out.at k (by omega)) (HB.out.mono hB)
        have HSum := Lib.hid (sum_take_succ szR hs k (by omega))
        have hsz := HM.out _ (List.getElem_mem (show k < hs.length by omega))
        have HLe := Lib.hid (sum_take_le szR hs (k + 1))
        rw [← hy] at c0 c1 c2 hsz hrd
        rw [← hy] at HSum
        obtain ⟨s, hs'⟩ : ∃ s, s = szR y := ⟨_, rfl⟩
        rw [← hs'] at HSum
        have hs2 : szAll szE y.es = s := by rw [hs']; rfl
        have HC := Lib.hid (fun W (hW : Below wr.heap.size wr W) => szReplica_any y.up y.su y.A y.es.length y.c y.es r B W rfl (RowsB.below (K := KE) hrd (hW.mono (Nat.le_trans hB HB.out.size))) (Nat.le_trans (Nat.le_trans hB HB.out.size) hW.size) hsz hr)
        clear hs'
        obtain ⟨up, su, Al, cl, es, rlo, rhi⟩ := y
        simp only at c0 c1 c2 hsz hrd hs2 HC
        rw [hs2] at HC
        obtain ⟨nl, hvnl⟩ : ∃ nl, nl = es.length := ⟨_, rfl⟩
        rw [← hvnl] at c1 HC
        clear hc hc0 hc1 hc2 hy hsz hrd hs2 hvnl
        by_cases hfit : s ≤ r
        · rw [remI_yes hfit] at HC
          have hf : (0 : Int) ≤ (r : Int) - (s : Int) := by omega
          go_wp2_with fail
          refine (HC.out _ (Below.refl _ _)).mono ?_
          rintro e w4 ⟨rfl, hb4⟩
          have HB4 := Lib.hid (HB.out.trans (hb4.mono HB.out.size))
          clear hb4 c0 c1 c2
          go_wp2
          go_roundw
          case rel => exact ⟨k + 1, r - s, by omega, by go_num, by go_num, by omega, show _ = _ by have h1 := HSum.out; have h2 := HR.out; rw [h1]; omega, HB4.out⟩
          case measure => simp [intOf]; omega
        · rw [remI_no (by omega)] at HC
          have HNO := Lib.hid (ret_int (k := .i64) (show (-1 : Int) = remI (szAll szR hs) l by
            have h1 := HSum.out
            have h2 := HR.out
            have h3 := HLe.out
            rw [remI_no (by rw [HT.out]; omega)]))
          go_wp2_with fail
          refine (HC.out _ (Below.refl _ _)).mono ?_
          rintro e w4 ⟨rfl, hb4⟩
          have HB4 := Lib.hid (HB.out.trans (hb4.mono HB.out.size))
          clear hb4 c0 c1 c2
          go_wp2
          go_ret
          exact ⟨HNO.out, HB4.out⟩
      · have HYES := Lib.hid (ret_int (k := .i64) (show (r : Int) = remI (szAll szR hs) l by
          have h2 := HR.out
          rw [List.take_of_length_le (by omega), ← HT.out] at h2
          rw [remI_yes (by omega)]; omega))
        go_wp2
        go_ret
        exact ⟨HYES.out, HB.out⟩
  · have HNO := Lib.hid (ret_int (k := .i64) (show (-1 : Int) = remI (szAll szR hs) l by rw [remI_no (by rw [HT.out]; omega)]))
    go_enter Try.func9, Try.ntmps9
    go_wp2
    go_ret
    exact ⟨HNO.out, Below.refl _ _⟩

set_option maxHeartbeats 1000000 in
theorem szGroup_any (A : Option Addr) (n c : Nat) (tm ld : Int) (hs : List RH) (B : Nat) (w : World) (hn : hs.length = n) (h : RowsB KR w B A hs) (hB : B ≤ w.heap.size) (hm : RpMax hs) :
    Calls Try.prog 4 #[.agg #[.slice A n c, .int .i64 tm, .int .i64 ld], .int .i64 1048576] w fun e w' => e = .returned (.int .i64 (remI (szAll szR hs) 1048576)) ∧ Below w.heap.size w w' := by
  have HZ := Lib.hid (fun W (hW : Below w.heap.size w W) => szReplicaS_any A n c hs 1048576 B W hn (h.below (hW.mono hB)) (Nat.le_trans hB hW.size) hm (Nat.le_refl _))
  have hb1 := below1 w (.cells #[.slice A n c, .int .i64 tm, .int .i64 ld] 24)
  rw [show (((1048576 : Nat) : Int)) = 1048576 from rfl] at HZ
  obtain ⟨s, hs⟩ : ∃ s, s = szAll szR hs := ⟨_, rfl⟩
  rw [← hs] at HZ ⊢
  clear hs hn h hm
  by_cases h : s ≤ 1048576
  · rw [remI_yes h] at HZ ⊢
    have h4 : (0 : Int) ≤ ((1048576 : Nat) : Int) - (s : Int) := by omega
    obtain ⟨z, hz⟩ : ∃ z, z = ((1048576 : Nat) : Int) - (s : Int) := ⟨_, rfl⟩
    rw [← hz] at HZ h4 ⊢
    clear hz h
    go_enter Try.func4, Try.ntmps4
    go_wp2_with fail
    refine (HZ.out _ hb1).mono ?_
    rintro e w1 ⟨rfl, hb2⟩
    go_wp2
    go_ret
    exact ⟨rfl, hb1.trans (hb2.mono hb1.size)⟩
  · rw [remI_no (by omega)] at HZ ⊢
    clear h
    go_enter Try.func4, Try.ntmps4
    go_wp2_with fail
    refine (HZ.out _ hb1).mono ?_
    rintro e w1 ⟨rfl, hb2⟩
    go_wp2
    go_ret
    exact ⟨rfl, hb1.trans (hb2.mono hb1.size)⟩

def ToEPost (tm kk tt xx ll : Int) (yy : Bool) (rs : List ByteArray) (ws : List (ByteArray × ByteArray × Bool)) (w : World) (e : Ending) (w' : World) : Prop :=
  ∃ Ar2 cr2 Aw2 cw2 lo2 m2 hi2, e = .returned (.agg #[.int .i64 tm, .int .i64 kk, .int .i64 tt, .int .i64 xx, .int .i64 ll, .slice Ar2 rs.length cr2, .slice Aw2 ws.length cw2, .bool yy]) ∧ EnO w' ⟨⟨tm, kk, tt, xx, ll, yy, rs, ws⟩, Ar2, cr2, Aw2, cw2, lo2, m2, hi2⟩ ∧ w.heap.size ≤ lo2 ∧ hi2 ≤ w'.heap.size ∧ Below w.heap.size w w'
set_option maxRecDepth 100000 in
set_option maxHeartbeats 2000000 in
theorem toEntry_any (tm kk tt xx ll : Int) (yy : Bool) (Ar : Option Addr) (nr cr : Nat) (rs : List ByteArray) (Aw : Option Addr) (nw cw : Nat) (ws : List (ByteArray × ByteArray × Bool)) (B : Nat) (w : World) (hnr : rs.length = nr) (hr : StrsB w B Ar rs) (hnw : ws.length = nw) (hw : WritesB w B Aw ws) (hB : B ≤ w.heap.size) (hlr : nr ≤ 1048576) (hlw : nw ≤ 1048576) :
    Calls Try.prog 38 #[.agg #[.int .i64 tm, .int .i64 kk, .int .i64 tt, .int .i64 xx, .int .i64 ll, .slice Ar nr cr, .slice Aw nw cw, .bool yy]] w (ToEPost tm kk tt xx ll yy rs ws w) := by
  have HR := Lib.hid (fun W (hW : Below w.heap.size w W) => toRec_any kk tt xx ll yy Ar nr cr rs Aw nw cw ws B W hnr (hr.below (hW.mono hB)) hnw (hw.below (hW.mono hB)) (Nat.le_trans hB hW.size) hlr hlw)
  unfold ToEPost
  rw [hnr, hnw]
  clear hr hw hnr hnw hB hlr hlw
  go_enter Try.func38, Try.ntmps38
  go_wp2_with fail
  have hb0 := below3 w (.cells #[.int .i64 tm, .int .i64 kk, .int .i64 tt, .int .i64 xx, .int .i64 ll, .slice Ar nr cr, .slice Aw nw cw, .bool yy] 73) (.cells #[.int .i64 0, .int .i64 0, .int .i64 0, .int .i64 0, .int .i64 0, .slice none 0 0, .slice none 0 0, .bool false] 54) (.cells #[.int .i64 tm, .int .i64 0, .int .i64 0, .int .i64 0, .int .i64 0, .slice none 0 0, .slice none 0 0, .bool false] 54)
  refine (HR.out _ hb0).mono ?_
  rintro e w1 ⟨g1, g2, m, rfl, ho1, ho2, hm1, hm2, hb1⟩
  have HB1 := Lib.hid (hb0.trans (hb1.mono hb0.size))
  obtain ⟨hc, hf⟩ := bcell hb1
  have hz := hb1.size
  simp only [World.size_alloc] at hz hc hf ho1 hm1
  have hz0 : w.heap.size < w1.heap.size := by omega
  have hz1 : w.heap.size + 1 < w1.heap.size := by omega
  have hz2 : w.heap.size + 1 + 1 < w1.heap.size := by omega
  have HO := Lib.hid (show EnO w1 ⟨⟨tm, kk, tt, xx, ll, yy, rs, ws⟩, some ⟨g1, 0, none⟩, nr, some ⟨g2, 0, none⟩, nw, w.heap.size + 1 + 1 + 1, m, w1.heap.size⟩ from ⟨hm1, hm2, ho1, ho2⟩)
  clear hb0 hb1 ho1 ho2 hm1 hm2
  go_wp2
  exact bodyPost_ret (v := .agg #[.int .i64 tm, .int .i64 kk, .int .i64 tt, .int .i64 xx, .int .i64 ll, .slice (some ⟨g1, 0, none⟩) nr nr, .slice (some ⟨g2, 0, none⟩) nw nw, .bool yy]) (by simp [results, Try.results38, go_sem, hc, hf, hz1]) rfl ⟨some ⟨g1, 0, none⟩, nr, some ⟨g2, 0, none⟩, nw, w.heap.size + 1 + 1 + 1, m, w1.heap.size, rfl,
    KE.ow_keep (x := ⟨⟨tm, kk, tt, xx, ll, yy, rs, ws⟩, some ⟨g1, 0, none⟩, nr, some ⟨g2, 0, none⟩, nw, w.heap.size + 1 + 1 + 1, m, w1.heap.size⟩) HO.out ((keep_putN (w := w1) (g := w.heap.size + 1 + 1) (.inl (Nat.lt_succ_self _)) 1 [.int .i64 kk, .int .i64 tt, .int .i64 xx, .int .i64 ll, .slice (some ⟨g1, 0, none⟩) nr nr, .slice (some ⟨g2, 0, none⟩) nw nw, .bool yy]).trans (keep_putN (g := w.heap.size + 1) (.inl (show w.heap.size + 1 < w.heap.size + 1 + 1 + 1 by omega)) 0 [.int .i64 tm, .int .i64 kk, .int .i64 tt, .int .i64 xx, .int .i64 ll, .slice (some ⟨g1, 0, none⟩) nr nr, .slice (some ⟨g2, 0, none⟩) nw nw, .bool yy]) (Nat.le_of_eq (putN_size _ _ _ _).symm)),
    by omega, by simp [World.setCell], below_putN (below_putN (g := w.heap.size + 1 + 1) HB1.out (by omega) 1 [.int .i64 kk, .int .i64 tt, .int .i64 xx, .int .i64 ll, .slice (some ⟨g1, 0, none⟩) nr nr, .slice (some ⟨g2, 0, none⟩) nw nw, .bool yy]) (g := w.heap.size + 1) (by omega) 0 [.int .i64 tm, .int .i64 kk, .int .i64 tt, .int .i64 xx, .int .i64 ll, .slice (some ⟨g1, 0, none⟩) nr nr, .slice (some ⟨g2, 0, none⟩) nw nw, .bool yy]⟩

/-- What toEntryS hands back: the same data, in blocks of their own. -/
def ToEntrySPost (hs : List EH) (n : Nat) (w : World) (e : Ending) (w' : World) : Prop :=
  ∃ (g : Nat) (gs : List EH), e = .returned (.slice (some ⟨g, 0, none⟩) n n) ∧ gs.map EH.d = hs.map EH.d ∧ OwnK KE w' w.heap.size w'.heap.size (some ⟨g, 0, none⟩) n gs ∧ Below w.heap.size w w'
set_option maxRecDepth 100000 in
set_option maxHeartbeats 1000000 in
theorem toEntryS_any (A : Option Addr) (n c : Nat) (hs : List EH) (B : Nat) (w : World) (hn : hs.length = n) (h : RowsB KE w B A hs) (hB : B ≤ w.heap.size) (hm : LgSmall (hs.map EH.d)) :
    Calls Try.prog 31 #[.slice A n c] w (ToEntrySPost hs n w) := by
  obtain ⟨i0, hi, hz0, hz1, hz2⟩ := info_parts infoEnt
  obtain ⟨hl, hms⟩ := hm
  have HN := Lib.hid hn
  have hge := Nat.le_of_eq hn
  have hle := Nat.le_of_eq hn.symm
  have hnl : n ≤ 1048576 := by simp at hl; omega
  have HS := Lib.hid h
  have HM := Lib.hid hms
  clear hn h hms hl
  go_enter Try.func31, Try.ntmps31
  go_wp2_with (at_make; refine wpList_make_full _ rfl (.tmp 6) (.tmp 6) 34 rfl w.heap.size 54 i0 _ 8 Try.underlying34 hi hz0 hz1 .i64 .i64 _ _ n rfl rfl rfl rfl (by rw [hz2]; omega) (by unfold maxLen; omega) (Nat.le_refl _) ?_; intro w1 hown hgr)
  have hb1 : Below w.heap.size w w1 := (Below.refl _ _).grown hgr (Nat.le_refl _) (by simp)
  have hf0 := fill_made (by omega) hown
  clear hown hgr
  go_loopw [4] (fun i wr => ∃ (k : Nat) (gs : List EH), k ≤ n ∧ i = .int .i64 k ∧ Hid (gs.length = k) ∧ Hid (gs.map EH.d = (hs.map EH.d).take k) ∧ Fill wr w.heap.size n 8 54 (gs.map KE.cs) k ∧ Nst KE wr (w.heap.size + 1) wr.heap.size (some ⟨w.heap.size, 0, none⟩) gs ∧ Below w.heap.size w wr) (fun i _ => n - (intOf i).toNat)
  case atStart => exact ⟨0, [], by omega, rfl, rfl, by simp [Hid], by simpa using hf0, Nst.nil, hb1⟩
  case round =>
    clear hf0 hb1
    obtain ⟨k, gs, hk, rfl, HGL, HGD, hf, hv, hb⟩ := hrel
    by_cases hlt : k < n
    · obtain ⟨b, off, rfl, hbB, hc⟩ := en_get HS.out (by omega)
      obtain ⟨hc0, hc1, hc2, hc3, hc4, hc5, hc6, hc7⟩ := hc k (by omega)
      have c0 := (hb.cell (p := ⟨b, off + k * 8, none⟩) (Nat.lt_of_lt_of_le hbB hB)).trans hc0
      have c1 := (hb.cell (p := ⟨b, off + k * 8 + 1, none⟩) (Nat.lt_of_lt_of_le hbB hB)).trans hc1
      have c2 := (hb.cell (p := ⟨b, off + k * 8 + 2, none⟩) (Nat.lt_of_lt_of_le hbB hB)).trans hc2
      have c3 := (hb.cell (p := ⟨b, off + k * 8 + 3, none⟩) (Nat.lt_of_lt_of_le hbB hB)).trans hc3
      have c4 := (hb.cell (p := ⟨b, off + k * 8 + 4, none⟩) (Nat.lt_of_lt_of_le hbB hB)).trans hc4
      have c5 := (hb.cell (p := ⟨b, off + k * 8 + 5, none⟩) (Nat.lt_of_lt_of_le hbB hB)).trans hc5
      have c6 := (hb.cell (p := ⟨b, off + k * 8 + 6, none⟩) (Nat.lt_of_lt_of_le hbB hB)).trans hc6
      have c7 := (hb.cell (p := ⟨b, off + k * 8 + 7, none⟩) (Nat.lt_of_lt_of_le hbB hB)).trans hc7
      have hrd := KE.rd_below (HS.out.at k (by omega)) (hb.mono hB)
      have HD1 := Lib.hid (fun (x2 : EH) (hx2 : EH.d x2 = EH.d (hs[k]'(by omega))) => take_dats HGD.out (show k < hs.length by omega) x2 hx2)
      have hsm := HM.out (EH.d (hs[k]'(by omega))) (List.mem_map.2 ⟨_, List.getElem_mem (show k < hs.length by omega), rfl⟩)
      obtain ⟨y, hy⟩ : ∃ y, y = hs[k]'(by omega) := ⟨_, rfl⟩
      rw [← hy] at c0 c1 c2 c3 c4 c5 c6 c7 hrd HD1 hsm
      obtain ⟨⟨tm, kk, tt, xx, ll, yy, rs, ws⟩, Ar, cr, Aw, cw, elo, em, ehi⟩ := y
      simp only at c0 c1 c2 c3 c4 c5 c6 c7 hrd hsm
      have HBr := Nat.le_trans hB hb.size
      have HC := Lib.hid (toEntry_any tm kk tt xx ll yy Ar rs.length cr rs Aw ws.length cw ws B wr rfl hrd.1 rfl hrd.2 HBr hsm.1.1 hsm.2.1)
      have HF := Lib.hid hf
      have HB := Lib.hid hb
      have HVO := Lib.hid hv
      have hgw := hf.lt
      clear hc hc0 hc1 hc2 hc3 hc4 hc5 hc6 hc7 hy hf hb hv hsm hrd HBr
      go_wp2_with fail
      refine HC.out.mono ?_
      rintro e w4 ⟨Ar2, cr2, Aw2, cw2, lo2, m2, hi2, rfl, how2, hlo2, hhi2, hb4⟩
      have hf := HF.out.below hb4
      have HST := Lib.hid (Fill.snocK (K := KE) (w := w4) (g := w.heap.size) (n := n) (k := k) (t := 54) (xs := gs) hf HGL.out hlt ⟨⟨tm, kk, tt, xx, ll, yy, rs, ws⟩, Ar2, cr2, Aw2, cw2, lo2, m2, hi2⟩)
      obtain ⟨v0, hv0⟩ := hf.cell (k * 8) (by omega)
      have hfr0 := hf.free (k * 8)
      obtain ⟨v1, hv1⟩ := hf.cell (k * 8 + 1) (by omega)
      have hfr1 := hf.free (k * 8 + 1)
      obtain ⟨v2, hv2⟩ := hf.cell (k * 8 + 2) (by omega)
      have hfr2 := hf.free (k * 8 + 2)
      obtain ⟨v3, hv3⟩ := hf.cell (k * 8 + 3) (by omega)
      have hfr3 := hf.free (k * 8 + 3)
      obtain ⟨v4, hv4⟩ := hf.cell (k * 8 + 4) (by omega)
      have hfr4 := hf.free (k * 8 + 4)
      obtain ⟨v5, hv5⟩ := hf.cell (k * 8 + 5) (by omega)
      have hfr5 := hf.free (k * 8 + 5)
      obtain ⟨v6, hv6⟩ := hf.cell (k * 8 + 6) (by omega)
      have hfr6 := hf.free (k * 8 + 6)
      obtain ⟨v7, hv7⟩ := hf.cell (k * 8 + 7) (by omega)
      have hfr7 := hf.free (k * 8 + 7)
      have HB4 := Lib.hid (HB.out.trans (hb4.mono HB.out.size))
      have HVN := Lib.hid ((HVO.out.since hb4).snoc ⟨⟨tm, kk, tt, xx, ll, yy, rs, ws⟩, Ar2, cr2, Aw2, cw2, lo2, m2, hi2⟩ how2 hlo2 hhi2 (by omega) (fun p hp => by injection hp with hp; subst hp; exact Nat.lt_succ_self _))
      clear hf hb4 c0 c1 c2 c3 c4 c5 c6 c7 how2 hlo2 hhi2
      go_wp2
      go_roundw
      case rel =>
        refine ⟨k + 1, gs ++ [(⟨⟨tm, kk, tt, xx, ll, yy, rs, ws⟩, Ar2, cr2, Aw2, cw2, lo2, m2, hi2⟩ : EH)], by omega, by go_num, ?_, HD1.out _ (rfl), HST.out, ?_, below_putN HB4.out (Nat.le_refl _) (k * 8) (KE.cs ⟨⟨tm, kk, tt, xx, ll, yy, rs, ws⟩, Ar2, cr2, Aw2, cw2, lo2, m2, hi2⟩)⟩
        · show _ = _
          rw [List.length_append, HGL.out]; rfl
        · have h1 := HVN.out.keep (keep_putN (w := w4) (g := w.heap.size) (.inl (Nat.lt_succ_self _)) (k * 8) (KE.cs ⟨⟨tm, kk, tt, xx, ll, yy, rs, ws⟩, Ar2, cr2, Aw2, cw2, lo2, m2, hi2⟩))
          have h2 := putN_size w4 w.heap.size (k * 8) (KE.cs ⟨⟨tm, kk, tt, xx, ll, yy, rs, ws⟩, Ar2, cr2, Aw2, cw2, lo2, m2, hi2⟩)
          rw [← h2] at h1
          exact h1
      case measure => simp [intOf]; omega
    · have hkn : k = n := by omega
      subst hkn
      have hd := HGD.out
      rw [List.take_of_length_le (by simp; omega)] at hd
      have HD2 := Lib.hid hd
      clear hd
      go_wp2
      go_ret
      exact ⟨w.heap.size, gs, rfl, HD2.out, ⟨Fill.own (by rw [List.length_map, HGL.out]; exact hf) (by rw [List.length_map]; exact HGL.out) (by unfold maxLen; omega) (Nat.le_refl _) hf.lt, hv.wider (by omega) (Nat.le_refl _)⟩, hb⟩

def ToRpPost (up : Bool) (su : Int) (es : List EH) (w : World) (e : Ending) (w' : World) : Prop :=
  ∃ A2 c2 es2 lo2 hi2, e = .returned (.agg #[.bool up, .slice A2 es2.length c2, .int .i64 su]) ∧ es2.map EH.d = es.map EH.d ∧ KR.ow w' ⟨up, su, A2, c2, es2, lo2, hi2⟩ ∧ w.heap.size ≤ lo2 ∧ hi2 ≤ w'.heap.size ∧ Below w.heap.size w w'
set_option maxRecDepth 100000 in
set_option maxHeartbeats 2000000 in
theorem toReplica_any (up : Bool) (su : Int) (Al : Option Addr) (nl cl : Nat) (es : List EH) (B : Nat) (w : World) (hn : es.length = nl) (h : RowsB KE w B Al es) (hB : B ≤ w.heap.size) (hm : LgSmall (es.map EH.d)) :
    Calls Try.prog 23 #[.agg #[.bool up, .slice Al nl cl, .int .i64 su]] w (ToRpPost up su es w) := by
  have HR := Lib.hid (fun W (hW : Below w.heap.size w W) => toEntryS_any Al nl cl es B W hn (h.below (hW.mono hB)) (Nat.le_trans hB hW.size) hm)
  have HN := Lib.hid hn
  clear h hn hB hm
  go_enter Try.func23, Try.ntmps23
  go_wp2_with fail
  have hb0 := below3 w (.cells #[.bool up, .slice Al nl cl, .int .i64 su] 46) (.cells #[.bool false, .slice none 0 0, .int .i64 0] 36) (.cells #[.bool up, .slice none 0 0, .int .i64 0] 36)
  refine (HR.out _ hb0).mono ?_
  rintro e w1 ⟨g1, gs, rfl, hgd, ho1, hb1⟩
  have HB1 := Lib.hid (hb0.trans (hb1.mono hb0.size))
  obtain ⟨hc, hf⟩ := bcell hb1
  have hz := hb1.size
  simp only [World.size_alloc] at hz hc hf ho1
  have hz0 : w.heap.size < w1.heap.size := by omega
  have hz1 : w.heap.size + 1 < w1.heap.size := by omega
  have hz2 : w.heap.size + 1 + 1 < w1.heap.size := by omega
  have HO := Lib.hid (show KR.ow w1 ⟨up, su, some ⟨g1, 0, none⟩, nl, gs, w.heap.size + 1 + 1 + 1, w1.heap.size⟩ from ⟨by show w.heap.size + 1 + 1 + 1 ≤ w1.heap.size; omega, ho1⟩)
  have HGD := Lib.hid hgd
  have HGL := Lib.hid (show gs.length = nl by rw [dats_len hgd]; exact HN.out)
  clear hb0 hb1 ho1 hgd
  go_wp2
  exact bodyPost_ret (v := .agg #[.bool up, .slice (some ⟨g1, 0, none⟩) nl nl, .int .i64 su]) (by simp [results, Try.results23, go_sem, hc, hf, hz1]) rfl ⟨some ⟨g1, 0, none⟩, nl, gs, w.heap.size + 1 + 1 + 1, w1.heap.size, by rw [HGL.out], HGD.out,
    KR.ow_keep (x := ⟨up, su, some ⟨g1, 0, none⟩, nl, gs, w.heap.size + 1 + 1 + 1, w1.heap.size⟩) HO.out ((keep_putN (w := w1) (g := w.heap.size + 1 + 1) (.inl (Nat.lt_succ_self _)) 1 [.slice (some ⟨g1, 0, none⟩) nl nl, .int .i64 su]).trans (keep_putN (g := w.heap.size + 1) (.inl (show w.heap.size + 1 < w.heap.size + 1 + 1 + 1 by omega)) 0 [.bool up, .slice (some ⟨g1, 0, none⟩) nl nl, .int .i64 su]) (Nat.le_of_eq (putN_size _ _ _ _).symm)),
    by omega, by simp [World.setCell], below_putN (below_putN (g := w.heap.size + 1 + 1) HB1.out (by omega) 1 [.slice (some ⟨g1, 0, none⟩) nl nl, .int .i64 su]) (g := w.heap.size + 1) (by omega) 0 [.bool up, .slice (some ⟨g1, 0, none⟩) nl nl, .int .i64 su]⟩

/-- What toReplicaS hands back: the same data, in blocks of their own. -/
def ToReplicaSPost (hs : List RH) (n : Nat) (w : World) (e : Ending) (w' : World) : Prop :=
  ∃ (g : Nat) (gs : List RH), e = .returned (.slice (some ⟨g, 0, none⟩) n n) ∧ gs.map rdat = hs.map rdat ∧ OwnK KR w' w.heap.size w'.heap.size (some ⟨g, 0, none⟩) n gs ∧ Below w.heap.size w w'
set_option maxRecDepth 100000 in
set_option maxHeartbeats 1000000 in
theorem toReplicaS_any (A : Option Addr) (n c : Nat) (hs : List RH) (B : Nat) (w : World) (hn : hs.length = n) (h : RowsB KR w B A hs) (hB : B ≤ w.heap.size) (hm : RpSmall (hs.map rdat)) :
    Calls Try.prog 13 #[.slice A n c] w (ToReplicaSPost hs n w) := by
  obtain ⟨i0, hi, hz0, hz1, hz2⟩ := info_parts infoRep
  obtain ⟨hl, hms⟩ := hm
  have HN := Lib.hid hn
  have hge := Nat.le_of_eq hn
  have hle := Nat.le_of_eq hn.symm
  have hnl : n ≤ 1048576 := by simp at hl; omega
  have HS := Lib.hid h
  have HM := Lib.hid hms
  clear hn h hms hl
  go_enter Try.func13, Try.ntmps13
  go_wp2_with (at_make; refine wpList_make_full _ rfl (.tmp 6) (.tmp 6) 27 rfl w.heap.size 36 i0 _ 3 Try.underlying27 hi hz0 hz1 .i64 .i64 _ _ n rfl rfl rfl rfl (by rw [hz2]; omega) (by unfold maxLen; omega) (Nat.le_refl _) ?_; intro w1 hown hgr)
  have hb1 : Below w.heap.size w w1 := (Below.refl _ _).grown hgr (Nat.le_refl _) (by simp)
  have hf0 := fill_made (by omega) hown
  clear hown hgr
  go_loopw [4] (fun i wr => ∃ (k : Nat) (gs : List RH), k ≤ n ∧ i = .int .i64 k ∧ Hid (gs.length = k) ∧ Hid (gs.map rdat = (hs.map rdat).take k) ∧ Fill wr w.heap.size n 3 36 (gs.map KR.cs) k ∧ Nst KR wr (w.heap.size + 1) wr.heap.size (some ⟨w.heap.size, 0, none⟩) gs ∧ Below w.heap.size w wr) (fun i _ => n - (intOf i).toNat)
  case atStart => exact ⟨0, [], by omega, rfl, rfl, by simp [Hid], by simpa using hf0, Nst.nil, hb1⟩
  case round =>
    clear hf0 hb1
    obtain ⟨k, gs, hk, rfl, HGL, HGD, hf, hv, hb⟩ := hrel
    by_cases hlt : k < n
    · obtain ⟨b, off, rfl, hbB, hc⟩ := rp_get HS.out (by omega)
      obtain ⟨hc0, hc1, hc2⟩ := hc k (by omega)
      have c0 := (hb.cell (p := ⟨b, off + k * 3, none⟩) (Nat.lt_of_lt_of_le hbB hB)).trans hc0
      have c1 := (hb.cell (p := ⟨b, off + k * 3 + 1, none⟩) (Nat.lt_of_lt_of_le hbB hB)).trans hc1
      have c2 := (hb.cell (p := ⟨b, off + k * 3 + 2, none⟩) (Nat.lt_of_lt_of_le hbB hB)).trans hc2
      have hrd := KR.rd_below (HS.out.at k (by omega)) (hb.mono hB)
      have HD1 := Lib.hid (fun (x2 : RH) (hx2 : rdat x2 = rdat (hs[k]'(by omega))) => take_dats HGD.out (show k < hs.length by omega) x2 hx2)
      have hsm := HM.out (rdat (hs[k]'(by omega))) (List.mem_map.2 ⟨_, List.getElem_mem (show k < hs.length by omega), rfl⟩)
      obtain ⟨y, hy⟩ : ∃ y, y = hs[k]'(by omega) := ⟨_, rfl⟩
      rw [← hy] at c0 c1 c2 hrd HD1 hsm
      obtain ⟨up, su, Al, cl, es, rlo, rhi⟩ := y
      simp only at c0 c1 c2 hrd hsm
      have HBr := Nat.le_trans hB hb.size
      have HC := Lib.hid (toReplica_any up su Al es.length cl es B wr rfl hrd HBr hsm)
      have HF := Lib.hid hf
      have HB := Lib.hid hb
      have HVO := Lib.hid hv
      have hgw := hf.lt
      clear hc hc0 hc1 hc2 hy hf hb hv hsm hrd HBr
      go_wp2_with fail
      refine HC.out.mono ?_
      rintro e w4 ⟨A2, cp2, es2, lo2, hi2, rfl, hes2, how2, hlo2, hhi2, hb4⟩
      have hf := HF.out.below hb4
      have HST := Lib.hid (Fill.snocK (K := KR) (w := w4) (g := w.heap.size) (n := n) (k := k) (t := 36) (xs := gs) hf HGL.out hlt ⟨up, su, A2, cp2, es2, lo2, hi2⟩)
      obtain ⟨v0, hv0⟩ := hf.cell (k * 3) (by omega)
      have hfr0 := hf.free (k * 3)
      obtain ⟨v1, hv1⟩ := hf.cell (k * 3 + 1) (by omega)
      have hfr1 := hf.free (k * 3 + 1)
      obtain ⟨v2, hv2⟩ := hf.cell (k * 3 + 2) (by omega)
      have hfr2 := hf.free (k * 3 + 2)
      have HB4 := Lib.hid (HB.out.trans (hb4.mono HB.out.size))
      have HVN := Lib.hid ((HVO.out.since hb4).snoc ⟨up, su, A2, cp2, es2, lo2, hi2⟩ how2 hlo2 hhi2 (by omega) (fun p hp => by injection hp with hp; subst hp; exact Nat.lt_succ_self _))
      have HX2 := Lib.hid hes2
      clear hf hb4 c0 c1 c2 how2 hlo2 hhi2 hes2
      go_wp2
      go_roundw
      case rel =>
        refine ⟨k + 1, gs ++ [(⟨up, su, A2, cp2, es2, lo2, hi2⟩ : RH)], by omega, by go_num, ?_, HD1.out _ (by simp only [rdat, HX2.out]), HST.out, ?_, below_putN HB4.out (Nat.le_refl _) (k * 3) (KR.cs ⟨up, su, A2, cp2, es2, lo2, hi2⟩)⟩
        · show _ = _
          rw [List.length_append, HGL.out]; rfl
        · have h1 := HVN.out.keep (keep_putN (w := w4) (g := w.heap.size) (.inl (Nat.lt_succ_self _)) (k * 3) (KR.cs ⟨up, su, A2, cp2, es2, lo2, hi2⟩))
          have h2 := putN_size w4 w.heap.size (k * 3) (KR.cs ⟨up, su, A2, cp2, es2, lo2, hi2⟩)
          rw [← h2] at h1
          exact h1
      case measure => simp [intOf]; omega
    · have hkn : k = n := by omega
      subst hkn
      have hd := HGD.out
      rw [List.take_of_length_le (by simp; omega)] at hd
      have HD2 := Lib.hid hd
      clear hd
      go_wp2
      go_ret
      exact ⟨w.heap.size, gs, rfl, HD2.out, ⟨Fill.own (by rw [List.length_map, HGL.out]; exact hf) (by rw [List.length_map]; exact HGL.out) (by unfold maxLen; omega) (Nat.le_refl _) hf.lt, hv.wider (by omega) (Nat.le_refl _)⟩, hb⟩

def ToGPost (hs : List RH) (n : Nat) (tm ld : Int) (w : World) (e : Ending) (w' : World) : Prop :=
  ∃ (g : Nat) (gs : List RH), e = .returned (.agg #[.slice (some ⟨g, 0, none⟩) n n, .int .i64 tm, .int .i64 ld]) ∧ gs.map rdat = hs.map rdat ∧ OwnK KR w' w.heap.size w'.heap.size (some ⟨g, 0, none⟩) n gs ∧ Below w.heap.size w w'
set_option maxRecDepth 100000 in
set_option maxHeartbeats 2000000 in
theorem toGroup_any (A : Option Addr) (n c : Nat) (tm ld : Int) (hs : List RH) (B : Nat) (w : World) (hn : hs.length = n) (h : RowsB KR w B A hs) (hB : B ≤ w.heap.size) (hm : RpSmall (hs.map rdat)) :
    Calls Try.prog 6 #[.agg #[.slice A n c, .int .i64 tm, .int .i64 ld]] w (ToGPost hs n tm ld w) := by
  have HR := Lib.hid (fun W (hW : Below w.heap.size w W) => toReplicaS_any A n c hs B W hn (h.below (hW.mono hB)) (Nat.le_trans hB hW.size) hm)
  clear h hn hB hm
  go_enter Try.func6, Try.ntmps6
  go_wp2_with fail
  have hb0 := below3 w (.cells #[.slice A n c, .int .i64 tm, .int .i64 ld] 24) (.cells #[.slice none 0 0, .int .i64 0, .int .i64 0] 29) (.cells #[.slice none 0 0, .int .i64 0, .int .i64 0] 29)
  refine (HR.out _ hb0).mono ?_
  rintro e w1 ⟨g1, gs, rfl, hgd, ho1, hb1⟩
  have HB1 := Lib.hid (hb0.trans (hb1.mono hb0.size))
  obtain ⟨hc, hf⟩ := bcell hb1
  have hz := hb1.size
  simp only [World.size_alloc] at hz hc hf ho1
  have hz0 : w.heap.size < w1.heap.size := by omega
  have hz1 : w.heap.size + 1 < w1.heap.size := by omega
  have hz2 : w.heap.size + 1 + 1 < w1.heap.size := by omega
  have HO := Lib.hid ho1
  have HGD := Lib.hid hgd
  clear hb0 hb1 ho1 hgd
  go_wp2
  exact bodyPost_ret (v := .agg #[.slice (some ⟨g1, 0, none⟩) n n, .int .i64 tm, .int .i64 ld]) (by simp [results, Try.results6, go_sem, hc, hf, hz1]) rfl ⟨g1, gs, rfl, HGD.out,
    (HO.out.keep ((keep_putN (w := w1) (g := w.heap.size + 1 + 1) (.inl (Nat.lt_succ_self _)) 0 [.slice (some ⟨g1, 0, none⟩) n n, .int .i64 tm, .int .i64 ld]).trans (keep_putN (g := w.heap.size + 1) (.inl (show w.heap.size + 1 < w.heap.size + 1 + 1 + 1 by omega)) 0 [.slice (some ⟨g1, 0, none⟩) n n, .int .i64 tm, .int .i64 ld]) (Nat.le_of_eq (putN_size _ _ _ _).symm))).wider (by omega) (by simp [World.setCell]),
    below_putN (below_putN (g := w.heap.size + 1 + 1) HB1.out (by omega) 0 [.slice (some ⟨g1, 0, none⟩) n n, .int .i64 tm, .int .i64 ld]) (g := w.heap.size + 1) (by omega) 0 [.slice (some ⟨g1, 0, none⟩) n n, .int .i64 tm, .int .i64 ld]⟩

set_option maxHeartbeats 2000000 in
theorem eqEntry_same (tm kk tt xx ll : Int) (yy : Bool) (Ar Ar' : Option Addr) (nr cr cr' : Nat) (rs : List ByteArray) (Aw Aw' : Option Addr) (nw cw cw' : Nat) (ws : List (ByteArray × ByteArray × Bool)) (B : Nat) (w : World) (hnr : rs.length = nr) (hr : StrsB w B Ar rs) (hr' : StrsB w B Ar' rs) (hnw : ws.length = nw) (hw : WritesB w B Aw ws) (hw' : WritesB w B Aw' ws) (hlr : nr ≤ 1048576) (hlw : nw ≤ 1048576) (hB : B ≤ w.heap.size) :
    Calls Try.prog 42 #[.agg #[.int .i64 tm, .int .i64 kk, .int .i64 tt, .int .i64 xx, .int .i64 ll, .slice Ar nr cr, .slice Aw nw cw, .bool yy], .agg #[.int .i64 tm, .int .i64 kk, .int .i64 tt, .int .i64 xx, .int .i64 ll, .slice Ar' nr cr', .slice Aw' nw cw', .bool yy]] w fun e w' => e = .returned (.bool true) ∧ Below w.heap.size w w' := by
  have HI := Lib.hid (fun W (hW : Below w.heap.size w W) => eqRec_same kk tt xx ll yy nr nw rs ws Ar Ar' Aw Aw' cr cr' cw cw' B W hnr (hr.below (hW.mono hB)) (hr'.below (hW.mono hB)) hnw (hw.below (hW.mono hB)) (hw'.below (hW.mono hB)) (Nat.le_trans hB hW.size) hlr hlw)
  have hb0 := below2 w (.cells #[.int .i64 tm, .int .i64 kk, .int .i64 tt, .int .i64 xx, .int .i64 ll, .slice Ar nr cr, .slice Aw nw cw, .bool yy] 54) (.cells #[.int .i64 tm, .int .i64 kk, .int .i64 tt, .int .i64 xx, .int .i64 ll, .slice Ar' nr cr', .slice Aw' nw cw', .bool yy] 54)
  clear hnr hr hr' hnw hw hw' hlr hlw hB
  go_enter Try.func42, Try.ntmps42
  go_wp2_with fail
  refine (HI.out _ hb0).mono ?_
  rintro e w1 ⟨rfl, hb1⟩
  have hb2 := hb0.trans (hb1.mono hb0.size)
  obtain ⟨hc, hf⟩ := bcell hb1
  have hz := hb1.size
  simp only [World.size_alloc] at hz hc hf
  have hz0 : w.heap.size < w1.heap.size := by omega
  have hz1 : w.heap.size + 1 < w1.heap.size := by omega
  clear hb0 hb1
  go_wp2
  go_ret
  exact ⟨rfl, hb2⟩

set_option maxRecDepth 100000 in
set_option maxHeartbeats 2000000 in
theorem eqEntryS_same (A A' : Option Addr) (n c c' : Nat) (hs gs : List EH) (B : Nat) (w : World) (hn : hs.length = n) (hd : gs.map EH.d = hs.map EH.d) (h : RowsB KE w B A hs) (h' : RowsB KE w B A' gs) (hB : B ≤ w.heap.size) (hm : LgSmall (hs.map EH.d)) :
    Calls Try.prog 35 #[.slice A n c, .slice A' n c'] w fun e w' => e = .returned (.bool true) ∧ Below w.heap.size w w' := by
  obtain ⟨hl, hms⟩ := hm
  have hge := Nat.le_of_eq hn
  have hle := Nat.le_of_eq hn.symm
  have hle2 : n ≤ gs.length := by rw [dats_len hd]; omega
  have hnl : n ≤ 1048576 := by simp at hl; omega
  have HS := Lib.hid h
  have HS' := Lib.hid h'
  have HDD := Lib.hid hd
  have HM := Lib.hid hms
  clear hn h h' hd hms hl
  go_enter Try.func35, Try.ntmps35
  go_wp2
  go_loopw [5] (fun i wr => ∃ k : Nat, k ≤ n ∧ i = .int .i64 k ∧ Below w.heap.size w wr) (fun i _ => n - (intOf i).toNat)
  case atStart => exact ⟨0, by omega, rfl, Below.refl _ _⟩
  case round =>
    obtain ⟨k, hk, rfl, hb⟩ := hrel
    by_cases hlt : k < n
    · obtain ⟨b, off, rfl, hbB, hc⟩ := en_get HS.out (by omega)
      obtain ⟨b', off', rfl, hbB', hc'⟩ := en_get HS'.out (by omega)
      obtain ⟨hc0, hc1, hc2, hc3, hc4, hc5, hc6, hc7⟩ := hc k (by omega)
      obtain ⟨hd0, hd1, hd2, hd3, hd4, hd5, hd6, hd7⟩ := hc' k (by omega)
      have hde := (dats_at HDD.out k (by omega) (by omega)).symm
      have c0 := (hb.cell (p := ⟨b, off + k * 8, none⟩) (Nat.lt_of_lt_of_le hbB hB)).trans hc0
      have c1 := (hb.cell (p := ⟨b, off + k * 8 + 1, none⟩) (Nat.lt_of_lt_of_le hbB hB)).trans hc1
      have c2 := (hb.cell (p := ⟨b, off + k * 8 + 2, none⟩) (Nat.lt_of_lt_of_le hbB hB)).trans hc2
      have c3 := (hb.cell (p := ⟨b, off + k * 8 + 3, none⟩) (Nat.lt_of_lt_of_le hbB hB)).trans hc3
      have c4 := (hb.cell (p := ⟨b, off + k * 8 + 4, none⟩) (Nat.lt_of_lt_of_le hbB hB)).trans hc4
      have c5 := (hb.cell (p := ⟨b, off + k * 8 + 5, none⟩) (Nat.lt_of_lt_of_le hbB hB)).trans hc5
      have c6 := (hb.cell (p := ⟨b, off + k * 8 + 6, none⟩) (Nat.lt_of_lt_of_le hbB hB)).trans hc6
      have c7 := (hb.cell (p := ⟨b, off + k * 8 + 7, none⟩) (Nat.lt_of_lt_of_le hbB hB)).trans hc7
      have d0 := (hb.cell (p := ⟨b', off' + k * 8, none⟩) (Nat.lt_of_lt_of_le hbB' hB)).trans hd0
      have d1 := (hb.cell (p := ⟨b', off' + k * 8 + 1, none⟩) (Nat.lt_of_lt_of_le hbB' hB)).trans hd1
      have d2 := (hb.cell (p := ⟨b', off' + k * 8 + 2, none⟩) (Nat.lt_of_lt_of_le hbB' hB)).trans hd2
      have d3 := (hb.cell (p := ⟨b', off' + k * 8 + 3, none⟩) (Nat.lt_of_lt_of_le hbB' hB)).trans hd3
      have d4 := (hb.cell (p := ⟨b', off' + k * 8 + 4, none⟩) (Nat.lt_of_lt_of_le hbB' hB)).trans hd4
      have d5 := (hb.cell (p := ⟨b', off' + k * 8 + 5, none⟩) (Nat.lt_of_lt_of_le hbB' hB)).trans hd5
      have d6 := (hb.cell (p := ⟨b', off' + k * 8 + 6, none⟩) (Nat.lt_of_lt_of_le hbB' hB)).trans hd6
      have d7 := (hb.cell (p := ⟨b', off' + k * 8 + 7, none⟩) (Nat.lt_of_lt_of_le hbB' hB)).trans hd7
      have hv := KE.rd_below (HS.out.at k (by omega)) (hb.mono hB)
      have hv' := KE.rd_below (HS'.out.at k (by omega)) (hb.mono hB)
      have hsm := HM.out (EH.d (hs[k]'(by omega))) (List.mem_map.2 ⟨_, List.getElem_mem (show k < hs.length by omega), rfl⟩)
      obtain ⟨x, hx⟩ : ∃ x, x = hs[k]'(by omega) := ⟨_, rfl⟩
      obtain ⟨y, hy⟩ : ∃ y, y = gs[k]'(by omega) := ⟨_, rfl⟩
      rw [← hx] at c0 c1 c2 c3 c4 c5 c6 c7 hv hsm hde
      rw [← hy] at d0 d1 d2 d3 d4 d5 d6 d7 hv' hde
      obtain ⟨⟨tm, kk, tt, xx, ll, yy, rs, ws⟩, Ar, cr, Aw, cw, elo, em, ehi⟩ := x
      obtain ⟨⟨tm2, kk2, tt2, xx2, ll2, yy2, rs2, ws2⟩, Ar2, cr2, Aw2, cw2, elo2, em2, ehi2⟩ := y
      simp only at c0 c1 c2 c3 c4 c5 c6 c7 d0 d1 d2 d3 d4 d5 d6 d7 hv hv' hsm hde
      simp only [ED.mk.injEq] at hde
      obtain ⟨rfl, rfl, rfl, rfl, rfl, rfl, rfl, rfl⟩ := hde
      have hk0 : (0 : Int) ≤ (k : Int) := by omega
      have hkn : (k : Int) < (n : Int) := by omega
      have hb1 : b < wr.heap.size := Nat.lt_of_lt_of_le hbB (Nat.le_trans hB hb.size)
      have hb2 : b' < wr.heap.size := Nat.lt_of_lt_of_le hbB' (Nat.le_trans hB hb.size)
      have HB := Lib.hid hb
      have HBr := Nat.le_trans hB hb.size
      have HCall := Lib.hid (eqEntry_same tm kk tt xx ll yy Ar Ar2 rs.length cr cr2 rs Aw Aw2 ws.length cw cw2 ws B wr.drew rfl hv.1 hv'.1 rfl hv.2 hv'.2 hsm.1.1 hsm.2.1 HBr)
      obtain ⟨nr, hvnr⟩ : ∃ nr, nr = rs.length := ⟨_, rfl⟩
      rw [← hvnr] at c5 d5 HCall
      obtain ⟨nw, hvnw⟩ : ∃ nw, nw = ws.length := ⟨_, rfl⟩
      rw [← hvnw] at c6 d6 HCall
      clear hc hc' hc0 hd0 hc1 hd1 hc2 hd2 hc3 hd3 hc4 hd4 hc5 hd5 hc6 hd6 hc7 hd7 hx hy hb hv hv' hsm HBr hvnr hvnw
      go_wp2_with fail
      go_region_held3 (fun w' => w'.cell? ⟨b, off + k * 8, none⟩ = some (.int .i64 tm) ∧ w'.cell? ⟨b, off + k * 8 + 1, none⟩ = some (.int .i64 kk) ∧ w'.cell? ⟨b, off + k * 8 + 2, none⟩ = some (.int .i64 tt) ∧ w'.cell? ⟨b, off + k * 8 + 3, none⟩ = some (.int .i64 xx) ∧ w'.cell? ⟨b, off + k * 8 + 4, none⟩ = some (.int .i64 ll) ∧ w'.cell? ⟨b, off + k * 8 + 5, none⟩ = some (.slice Ar nr cr) ∧ w'.cell? ⟨b, off + k * 8 + 6, none⟩ = some (.slice Aw nw cw) ∧ w'.cell? ⟨b, off + k * 8 + 7, none⟩ = some (.bool yy) ∧ w'.cell? ⟨b', off' + k * 8, none⟩ = some (.int .i64 tm) ∧ w'.cell? ⟨b', off' + k * 8 + 1, none⟩ = some (.int .i64 kk) ∧ w'.cell? ⟨b', off' + k * 8 + 2, none⟩ = some (.int .i64 tt) ∧ w'.cell? ⟨b', off' + k * 8 + 3, none⟩ = some (.int .i64 xx) ∧ w'.cell? ⟨b', off' + k * 8 + 4, none⟩ = some (.int .i64 ll) ∧ w'.cell? ⟨b', off' + k * 8 + 5, none⟩ = some (.slice Ar2 nr cr2) ∧ w'.cell? ⟨b', off' + k * 8 + 6, none⟩ = some (.slice Aw2 nw cw2) ∧ w'.cell? ⟨b', off' + k * 8 + 7, none⟩ = some (.bool yy))
        (first | exact ⟨c0, c1, c2, c3, c4, c5, c6, c7, d0, d1, d2, d3, d4, d5, d6, d7⟩ | (go_split_ands; exact ⟨kept2 hb4 c0 hb1, kept2 hb4 c1 hb1, kept2 hb4 c2 hb1, kept2 hb4 c3 hb1, kept2 hb4 c4 hb1, kept2 hb4 c5 hb1, kept2 hb4 c6 hb1, kept2 hb4 c7 hb1, kept2 hb4 d0 hb2, kept2 hb4 d1 hb2, kept2 hb4 d2 hb2, kept2 hb4 d3 hb2, kept2 hb4 d4 hb2, kept2 hb4 d5 hb2, kept2 hb4 d6 hb2, kept2 hb4 d7 hb2⟩))
        ((go_at_call 42; (with_reducible refine HCall.out.mono ?_); rintro e w4 ⟨rfl, hb4⟩))
      have HBB := Lib.hid (Below.trans (b := wr.drew) HB.out.drew (hb4.mono HB.out.size))
      clear hb4
      go_wp2
      go_roundw
      case rel => exact ⟨k + 1, by omega, by go_num, HBB.out⟩
      case measure => simp [intOf]; omega
    · go_wp2
      go_ret
      exact ⟨rfl, hb⟩

set_option maxHeartbeats 2000000 in
theorem eqReplica_same (up : Bool) (su : Int) (Al Al' : Option Addr) (nl cl cl' : Nat) (es es' : List EH) (B : Nat) (w : World) (hn : es.length = nl) (hd : es'.map EH.d = es.map EH.d) (h : RowsB KE w B Al es) (h' : RowsB KE w B Al' es') (hm : LgSmall (es.map EH.d)) (hB : B ≤ w.heap.size) :
    Calls Try.prog 28 #[.agg #[.bool up, .slice Al nl cl, .int .i64 su], .agg #[.bool up, .slice Al' nl cl', .int .i64 su]] w fun e w' => e = .returned (.bool true) ∧ Below w.heap.size w w' := by
  have HI := Lib.hid (fun W (hW : Below w.heap.size w W) => eqEntryS_same Al Al' nl cl cl' es es' B W hn hd (h.below (hW.mono hB)) (h'.below (hW.mono hB)) (Nat.le_trans hB hW.size) hm)
  have hb0 := below2 w (.cells #[.bool up, .slice Al nl cl, .int .i64 su] 36) (.cells #[.bool up, .slice Al' nl cl', .int .i64 su] 36)
  clear hn hd h h' hm hB
  go_enter Try.func28, Try.ntmps28
  go_wp2_with fail
  refine (HI.out _ hb0).mono ?_
  rintro e w1 ⟨rfl, hb1⟩
  have hb2 := hb0.trans (hb1.mono hb0.size)
  obtain ⟨hc, hf⟩ := bcell hb1
  have hz := hb1.size
  simp only [World.size_alloc] at hz hc hf
  have hz0 : w.heap.size < w1.heap.size := by omega
  have hz1 : w.heap.size + 1 < w1.heap.size := by omega
  clear hb0 hb1
  go_wp2
  go_ret
  exact ⟨rfl, hb2⟩

set_option maxRecDepth 100000 in
set_option maxHeartbeats 2000000 in
theorem eqReplicaS_same (A A' : Option Addr) (n c c' : Nat) (hs gs : List RH) (B : Nat) (w : World) (hn : hs.length = n) (hd : gs.map rdat = hs.map rdat) (h : RowsB KR w B A hs) (h' : RowsB KR w B A' gs) (hB : B ≤ w.heap.size) (hm : RpSmall (hs.map rdat)) :
    Calls Try.prog 18 #[.slice A n c, .slice A' n c'] w fun e w' => e = .returned (.bool true) ∧ Below w.heap.size w w' := by
  obtain ⟨hl, hms⟩ := hm
  have hge := Nat.le_of_eq hn
  have hle := Nat.le_of_eq hn.symm
  have hle2 : n ≤ gs.length := by rw [dats_len hd]; omega
  have hnl : n ≤ 1048576 := by simp at hl; omega
  have HS := Lib.hid h
  have HS' := Lib.hid h'
  have HDD := Lib.hid hd
  have HM := Lib.hid hms
  clear hn h h' hd hms hl
  go_enter Try.func18, Try.ntmps18
  go_wp2
  go_loopw [5] (fun i wr => ∃ k : Nat, k ≤ n ∧ i = .int .i64 k ∧ Below w.heap.size w wr) (fun i _ => n - (intOf i).toNat)
  case atStart => exact ⟨0, by omega, rfl, Below.refl _ _⟩
  case round =>
    obtain ⟨k, hk, rfl, hb⟩ := hrel
    by_cases hlt : k < n
    · obtain ⟨b, off, rfl, hbB, hc⟩ := rp_get HS.out (by omega)
      obtain ⟨b', off', rfl, hbB', hc'⟩ := rp_get HS'.out (by omega)
      obtain ⟨hc0, hc1, hc2⟩ := hc k (by omega)
      obtain ⟨hd0, hd1, hd2⟩ := hc' k (by omega)
      have hde := (dats_at HDD.out k (by omega) (by omega)).symm
      have c0 := (hb.cell (p := ⟨b, off + k * 3, none⟩) (Nat.lt_of_lt_of_le hbB hB)).trans hc0
      have c1 := (hb.cell (p := ⟨b, off + k * 3 + 1, none⟩) (Nat.lt_of_lt_of_le hbB hB)).trans hc1
      have c2 := (hb.cell (p := ⟨b, off + k * 3 + 2, none⟩) (Nat.lt_of_lt_of_le hbB hB)).trans hc2
      have d0 := (hb.cell (p := ⟨b', off' + k * 3, none⟩) (Nat.lt_of_lt_of_le hbB' hB)).trans hd0
      have d1 := (hb.cell (p := ⟨b', off' + k * 3 + 1, none⟩) (Nat.lt_of_lt_of_le hbB' hB)).trans hd1
      have d2 := (hb.cell (p := ⟨b', off' + k * 3 + 2, none⟩) (Nat.lt_of_lt_of_le hbB' hB)).trans hd2
      have hv := KR.rd_below (HS.out.at k (by omega)) (hb.mono hB)
      have hv' := KR.rd_below (HS'.out.at k (by omega)) (hb.mono hB)
      have hsm := HM.out (rdat (hs[k]'(by omega))) (List.mem_map.2 ⟨_, List.getElem_mem (show k < hs.length by omega), rfl⟩)
      obtain ⟨x, hx⟩ : ∃ x, x = hs[k]'(by omega) := ⟨_, rfl⟩
      obtain ⟨y, hy⟩ : ∃ y, y = gs[k]'(by omega) := ⟨_, rfl⟩
      rw [← hx] at c0 c1 c2 hv hsm hde
      rw [← hy] at d0 d1 d2 hv' hde
      obtain ⟨up, su, Al, cl, es, rlo, rhi⟩ := x
      obtain ⟨up2, su2, Al2, cl2, es2, rlo2, rhi2⟩ := y
      simp only at c0 c1 c2 d0 d1 d2 hv hv' hsm hde
      simp only [rdat, RD.mk.injEq] at hde
      obtain ⟨rfl, rfl, hde2⟩ := hde
      have hln := dats_len hde2.symm
      rw [hln] at d1
      have hk0 : (0 : Int) ≤ (k : Int) := by omega
      have hkn : (k : Int) < (n : Int) := by omega
      have hb1 : b < wr.heap.size := Nat.lt_of_lt_of_le hbB (Nat.le_trans hB hb.size)
      have hb2 : b' < wr.heap.size := Nat.lt_of_lt_of_le hbB' (Nat.le_trans hB hb.size)
      have HB := Lib.hid hb
      have HBr := Nat.le_trans hB hb.size
      have HCall := Lib.hid (eqReplica_same up su Al Al2 es.length cl cl2 es es2 B wr.drew rfl hde2.symm hv hv' hsm HBr)
      obtain ⟨nl, hvnl⟩ : ∃ nl, nl = es.length := ⟨_, rfl⟩
      rw [← hvnl] at c1 d1 HCall
      clear hc hc' hc0 hd0 hc1 hd1 hc2 hd2 hx hy hb hde2 hln hv hv' hsm HBr hvnl
      go_wp2_with fail
      go_region_held3 (fun w' => w'.cell? ⟨b, off + k * 3, none⟩ = some (.bool up) ∧ w'.cell? ⟨b, off + k * 3 + 1, none⟩ = some (.slice Al nl cl) ∧ w'.cell? ⟨b, off + k * 3 + 2, none⟩ = some (.int .i64 su) ∧ w'.cell? ⟨b', off' + k * 3, none⟩ = some (.bool up) ∧ w'.cell? ⟨b', off' + k * 3 + 1, none⟩ = some (.slice Al2 nl cl2) ∧ w'.cell? ⟨b', off' + k * 3 + 2, none⟩ = some (.int .i64 su))
        (first | exact ⟨c0, c1, c2, d0, d1, d2⟩ | (go_split_ands; exact ⟨kept2 hb4 c0 hb1, kept2 hb4 c1 hb1, kept2 hb4 c2 hb1, kept2 hb4 d0 hb2, kept2 hb4 d1 hb2, kept2 hb4 d2 hb2⟩))
        ((go_at_call 28; (with_reducible refine HCall.out.mono ?_); rintro e w4 ⟨rfl, hb4⟩))
      have HBB := Lib.hid (Below.trans (b := wr.drew) HB.out.drew (hb4.mono HB.out.size))
      clear hb4
      go_wp2
      go_roundw
      case rel => exact ⟨k + 1, by omega, by go_num, HBB.out⟩
      case measure => simp [intOf]; omega
    · go_wp2
      go_ret
      exact ⟨rfl, hb⟩

set_option maxHeartbeats 2000000 in
theorem eqGroup_same (A A' : Option Addr) (n c c' : Nat) (tm ld : Int) (hs gs : List RH) (B : Nat) (w : World) (hn : hs.length = n) (hd : gs.map rdat = hs.map rdat) (h : RowsB KR w B A hs) (h' : RowsB KR w B A' gs) (hm : RpSmall (hs.map rdat)) (hB : B ≤ w.heap.size) :
    Calls Try.prog 8 #[.agg #[.slice A n c, .int .i64 tm, .int .i64 ld], .agg #[.slice A' n c', .int .i64 tm, .int .i64 ld]] w fun e w' => e = .returned (.bool true) ∧ Below w.heap.size w w' := by
  have HI := Lib.hid (fun W (hW : Below w.heap.size w W) => eqReplicaS_same A A' n c c' hs gs B W hn hd (h.below (hW.mono hB)) (h'.below (hW.mono hB)) (Nat.le_trans hB hW.size) hm)
  have hb0 := below2 w (.cells #[.slice A n c, .int .i64 tm, .int .i64 ld] 29) (.cells #[.slice A' n c', .int .i64 tm, .int .i64 ld] 29)
  clear hn hd h h' hm hB
  go_enter Try.func8, Try.ntmps8
  go_wp2_with fail
  refine (HI.out _ hb0).mono ?_
  rintro e w1 ⟨rfl, hb1⟩
  have hb2 := hb0.trans (hb1.mono hb0.size)
  obtain ⟨hc, hf⟩ := bcell hb1
  have hz := hb1.size
  simp only [World.size_alloc] at hz hc hf
  have hz0 : w.heap.size < w1.heap.size := by omega
  have hz1 : w.heap.size + 1 < w1.heap.size := by omega
  clear hb0 hb1
  go_wp2
  go_ret
  exact ⟨rfl, hb2⟩

def thr (z : Int) : Bool := decide (z % 3 = 0)
/-- What the laws write over an entry from the number q on: the blocks stay. -/
def mkE (q : Nat) (e : EH) : EH := ⟨⟨(q : Int), (q : Int) + 1, (q : Int) + 1 + 1, (q : Int) + 1 + 1 + 1, (q : Int) + 1 + 1 + 1 + 1, thr ((q + 5 + e.d.rs.length + 3 * e.d.ws.length : Nat) : Int), mStrs (q + 5) e.d.rs.length, mWrs (q + 5 + e.d.rs.length) e.d.ws.length⟩, e.Ar, e.cr, e.Aw, e.cw, e.lo, e.m, e.hi⟩
def nxE (q : Nat) (e : EH) : Nat := q + 6 + e.d.rs.length + 3 * e.d.ws.length
theorem nxE_up (q : Nat) (e : EH) : q + 1 ≤ nxE q e := by unfold nxE; omega
theorem nxE_le (q : Nat) (e : EH) : nxE q e ≤ q + 6 * (1 + szE e) := by
  unfold nxE szE szSs szWs
  omega
theorem nxE_dat (q : Nat) (x y : EH) (h : x.d = y.d) : nxE q x = nxE q y := by unfold nxE; rw [h]
def mkR (q : Nat) (r : RH) : RH := ⟨thr (q : Int), ((aft nxE (q + 1) r.es : Nat) : Int), r.A, r.c, mkAll mkE nxE (q + 1) r.es, r.lo, r.hi⟩
def nxR (q : Nat) (r : RH) : Nat := aft nxE (q + 1) r.es + 1
theorem nxR_up (q : Nat) (r : RH) : q + 1 ≤ nxR q r := by have := aft_up (fun k x => Nat.le_trans (Nat.le_succ k) (nxE_up k x)) (q + 1) r.es; unfold nxR; omega
theorem nxR_le (q : Nat) (r : RH) : nxR q r ≤ q + 6 * (1 + szR r) := by
  have := aft_sz (sz := szE) (C := 6) nxE_le (q + 1) r.es
  unfold nxR szR szAll
  omega
theorem nxR_dat (q : Nat) (x y : RH) (h : rdat x = rdat y) : nxR q x = nxR q y := by
  unfold nxR
  simp only [rdat, RD.mk.injEq] at h
  rw [aft_dat (dat := EH.d) nxE_dat _ _ _ h.2.2]

section
variable {w w' : World} {lo hi cap : Nat} {A : Option Addr} {ms rt : List EH}
/-- The reads of an entry written over. -/
theorem own_reads {d : ED} {Ar Aw : Option Addr} {cr cw elo em ehi : Nat} {rs' : List ByteArray} (h : OwnK KE w lo hi A cap (ms ++ ⟨d, Ar, cr, Aw, cw, elo, em, ehi⟩ :: rt)) (hm : MidA Ar w w') (ho : OwnS w' elo em Ar cr rs') (hl : rs'.length = d.rs.length) :
    OwnK KE w' lo hi A cap (ms ++ ⟨⟨d.tm, d.k, d.t, d.x, d.l, d.y, rs', d.ws⟩, Ar, cr, Aw, cw, elo, em, ehi⟩ :: rt) ∧ Mid elo ehi w w' := by
  have hx := (h.2.1 _ (List.mem_append_right _ (List.mem_cons_self ..))).1
  obtain ⟨h1, h2, h3, h4⟩ := hx
  simp only at h1 h2 h3 h4
  have hmid : Mid elo ehi w w' := hm.mid fun x hx => by have := Own.block h3 x hx; omega
  refine ⟨h.inAt _ hmid ⟨h1, h2, ho, ?_⟩ (by show enCs _ = enCs _; simp [enCs, hl]) rfl rfl, hmid⟩
  exact Own.midA h4 hm fun x y hx hy => by have e1 := (Own.block h3 x hx).2.1; have e2 := (Own.block h4 y hy).1; omega
theorem own_writes {d : ED} {Ar Aw : Option Addr} {cr cw elo em ehi : Nat} {ws' : List (ByteArray × ByteArray × Bool)} (h : OwnK KE w lo hi A cap (ms ++ ⟨d, Ar, cr, Aw, cw, elo, em, ehi⟩ :: rt)) (hm : MidA Aw w w') (ho : OwnW w' em ehi Aw cw ws') (hl : ws'.length = d.ws.length) :
    OwnK KE w' lo hi A cap (ms ++ ⟨⟨d.tm, d.k, d.t, d.x, d.l, d.y, d.rs, ws'⟩, Ar, cr, Aw, cw, elo, em, ehi⟩ :: rt) ∧ Mid elo ehi w w' := by
  have hx := (h.2.1 _ (List.mem_append_right _ (List.mem_cons_self ..))).1
  obtain ⟨h1, h2, h3, h4⟩ := hx
  simp only at h1 h2 h3 h4
  have hmid : Mid elo ehi w w' := hm.mid fun x hx => by have := Own.block h4 x hx; omega
  refine ⟨h.inAt _ hmid ⟨h1, h2, ?_, ho⟩ (by show enCs _ = enCs _; simp [enCs, hl]) rfl rfl, hmid⟩
  exact Own.midA h3 hm fun x y hx hy => by have e1 := (Own.block h4 x hx).1; have e2 := (Own.block h3 y hy).2.1; omega
end

end Go.Proofs.Ytcelbnemblnabaa.Gr
