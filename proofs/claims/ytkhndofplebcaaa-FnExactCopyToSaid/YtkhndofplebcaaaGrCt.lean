/-
  Contracts for the laws' helpers on entries, replicas and groups: sizes, copies, comparisons, marks.
-/
import Derived.Test.YtkhndofplebcaaaGrMem
import Derived.Test.YtkhndofplebcaaaHeld
namespace Go.Proofs.Ytkhndofplebcaaa.Gr
open Go.RowKit CM
set_option linter.unusedVariables false
set_option linter.unusedSimpArgs false

set_option maxHeartbeats 1000000 in
theorem szEntry_any (tm kk tt xx ll : Int) (yy : Bool) (Ar : Option Addr) (nr cr : Nat) (rs : List ByteArray) (Aw : Option Addr) (nw cw : Nat) (ws : List (ByteArray × ByteArray × Bool)) (l B : Nat) (w : World) (hnr : rs.length = nr) (hr : StrsB w B Ar rs) (hnw : ws.length = nw) (hw : WritesB w B Aw ws) (hB : B ≤ w.heap.size) (hmr : SMax rs) (hmw : WMax ws) (hl : l ≤ 1048576) :
    Calls Try.prog 9 #[.agg #[.int .i64 tm, .int .i64 kk, .int .i64 tt, .int .i64 xx, .int .i64 ll, .slice Ar nr cr, .slice Aw nw cw, .bool yy], .int .i64 (l : Int)] w fun e w' => e = .returned (.int .i64 (remI (szSs rs + szWs ws) l)) ∧ Below w.heap.size w w' := by
  have HZ := Lib.hid (fun W (hW : Below w.heap.size w W) => szRec_any kk tt xx ll yy Ar nr cr rs Aw nw cw ws l B W hnr (hr.below (hW.mono hB)) hnw (hw.below (hW.mono hB)) (Nat.le_trans hB hW.size) hmr hmw hl)
  have hb1 := below1 w (.cells #[.int .i64 tm, .int .i64 kk, .int .i64 tt, .int .i64 xx, .int .i64 ll, .slice Ar nr cr, .slice Aw nw cw, .bool yy] 27)
  obtain ⟨s, hs⟩ : ∃ s, s = szSs rs + szWs ws := ⟨_, rfl⟩
  rw [← hs] at HZ ⊢
  clear hs hnr hnw hr hw hmr hmw
  by_cases h : s ≤ l
  · rw [remI_yes h] at HZ ⊢
    have h4 : (0 : Int) ≤ (l : Int) - (s : Int) := by omega
    obtain ⟨z, hz⟩ : ∃ z, z = (l : Int) - (s : Int) := ⟨_, rfl⟩
    rw [← hz] at HZ h4 ⊢
    clear hz h
    go_enter Try.func9, Try.ntmps9
    go_wp2_with fail
    refine (HZ.out _ hb1).mono ?_
    rintro e w1 ⟨rfl, hb2⟩
    go_wp2
    go_ret
    exact ⟨rfl, hb1.trans (hb2.mono hb1.size)⟩
  · rw [remI_no (by omega)] at HZ ⊢
    clear h
    go_enter Try.func9, Try.ntmps9
    go_wp2_with fail
    refine (HZ.out _ hb1).mono ?_
    rintro e w1 ⟨rfl, hb2⟩
    go_wp2
    go_ret
    exact ⟨rfl, hb1.trans (hb2.mono hb1.size)⟩

set_option maxRecDepth 100000 in
set_option maxHeartbeats 1000000 in
theorem szEntryS_any (A : Option Addr) (n c : Nat) (hs : List EH) (l B : Nat) (w : World) (hn : hs.length = n) (h : RowsB KE w B A hs) (hB : B ≤ w.heap.size) (hm : LgMax hs) (hl : l ≤ 1048576) :
    Calls Try.prog 146 #[.slice A n c, .int .i64 (l : Int)] w fun e w' => e = .returned (.int .i64 (remI (szAll szE hs) l)) ∧ Below w.heap.size w w' := by
  obtain ⟨hmn, hms⟩ := hm
  have hnn := Nat.le_of_eq hn
  have hnn' := Nat.le_of_eq hn.symm
  have HN := Lib.hid hn
  have HS := Lib.hid h
  have HM := Lib.hid hms
  have HT := Lib.hid (show szAll szE hs = n + (hs.map szE).sum by rw [← hn]; rfl)
  have hnm : n ≤ maxLen := by omega
  unfold maxLen at hnm
  clear h hms hmn hn
  by_cases hln : n ≤ l
  · go_enter Try.func146, Try.ntmps146
    go_wp2
    go_loopw [1, 5] (fun v i wr => ∃ k r : Nat, k ≤ n ∧ i = .int .i64 k ∧ v = .int .i64 r ∧ r ≤ 1048576 ∧ Hid (r + (n + ((hs.take k).map szE).sum) = l) ∧ Below w.heap.size w wr) (fun _ i _ => n - (intOf i).toNat)
    case atStart => exact ⟨0, l - n, by omega, rfl, by go_num, by omega, show _ = _ by simp; omega, Below.refl _ _⟩
    case round =>
      obtain ⟨k, r, hk, rfl, rfl, hr, HR, hb⟩ := hrel
      have HB := Lib.hid hb
      clear hb
      by_cases hlt : k < n
      · obtain ⟨b, off, rfl, hbB, hc⟩ := en_get HS.out (by omega)
        obtain ⟨hc0, hc1, hc2, hc3, hc4, hc5, hc6, hc7⟩ := hc k (by omega)
        have c0 := (HB.out.cell (p := ⟨b, off + k * 8, none⟩) (Nat.lt_of_lt_of_le hbB hB)).trans hc0
        have c1 := (HB.out.cell (p := ⟨b, off + k * 8 + 1, none⟩) (Nat.lt_of_lt_of_le hbB hB)).trans hc1
        have c2 := (HB.out.cell (p := ⟨b, off + k * 8 + 2, none⟩) (Nat.lt_of_lt_of_le hbB hB)).trans hc2
        have c3 := (HB.out.cell (p := ⟨b, off + k * 8 + 3, none⟩) (Nat.lt_of_lt_of_le hbB hB)).trans hc3
        have c4 := (HB.out.cell (p := ⟨b, off + k * 8 + 4, none⟩) (Nat.lt_of_lt_of_le hbB hB)).trans hc4
        have c5 := (HB.out.cell (p := ⟨b, off + k * 8 + 5, none⟩) (Nat.lt_of_lt_of_le hbB hB)).trans hc5
        have c6 := (HB.out.cell (p := ⟨b, off + k * 8 + 6, none⟩) (Nat.lt_of_lt_of_le hbB hB)).trans hc6
        have c7 := (HB.out.cell (p := ⟨b, off + k * 8 + 7, none⟩) (Nat.lt_of_lt_of_le hbB hB)).trans hc7
        obtain ⟨y, hy⟩ : ∃ y, y = hs[k]'(by omega) := ⟨_, rfl⟩
        have hrd := KE.rd_below (HS.out.at k (by omega)) (HB.out.mono hB)
        have HSum := Lib.hid (sum_take_succ szE hs k (by omega))
        have hsz := HM.out _ (List.getElem_mem (show k < hs.length by omega))
        have HLe := Lib.hid (sum_take_le szE hs (k + 1))
        rw [← hy] at c0 c1 c2 c3 c4 c5 c6 c7 hsz hrd
        rw [← hy] at HSum
        obtain ⟨s, hs'⟩ : ∃ s, s = szE y := ⟨_, rfl⟩
        rw [← hs'] at HSum
        have hs2 : szSs y.d.rs + szWs y.d.ws = s := by rw [hs']; rfl
        have HC := Lib.hid (fun W (hW : Below wr.heap.size wr W) => szEntry_any y.d.tm y.d.k y.d.t y.d.x y.d.l y.d.y y.Ar y.d.rs.length y.cr y.d.rs y.Aw y.d.ws.length y.cw y.d.ws r B W rfl (hrd.1.below (hW.mono (Nat.le_trans hB HB.out.size))) rfl (hrd.2.below (hW.mono (Nat.le_trans hB HB.out.size))) (Nat.le_trans (Nat.le_trans hB HB.out.size) hW.size) hsz.1 hsz.2 hr)
        clear hs'
        obtain ⟨⟨tm, kk, tt, xx, ll, yy, rs, ws⟩, Ar, cr, Aw, cw, elo, em, ehi⟩ := y
        simp only at c0 c1 c2 c3 c4 c5 c6 c7 hsz hrd hs2 HC
        rw [hs2] at HC
        obtain ⟨nr, hvnr⟩ : ∃ nr, nr = rs.length := ⟨_, rfl⟩
        rw [← hvnr] at c5 HC
        obtain ⟨nw, hvnw⟩ : ∃ nw, nw = ws.length := ⟨_, rfl⟩
        rw [← hvnw] at c6 HC
        clear hc hc0 hc1 hc2 hc3 hc4 hc5 hc6 hc7 hy hsz hrd hs2 hvnr hvnw
        by_cases hfit : s ≤ r
        · rw [remI_yes hfit] at HC
          have hf : (0 : Int) ≤ (r : Int) - (s : Int) := by omega
          go_wp2_with fail
          refine (HC.out _ (Below.refl _ _)).mono ?_
          rintro e w4 ⟨rfl, hb4⟩
          have HB4 := Lib.hid (HB.out.trans (hb4.mono HB.out.size))
          clear hb4 c0 c1 c2 c3 c4 c5 c6 c7
          go_wp2
          go_roundw
          case rel => exact ⟨k + 1, r - s, by omega, by go_num, by go_num, by omega, show _ = _ by have h1 := HSum.out; have h2 := HR.out; rw [h1]; omega, HB4.out⟩
          case measure => simp [intOf]; omega
        · rw [remI_no (by omega)] at HC
          have HNO := Lib.hid (ret_int (k := .i64) (show (-1 : Int) = remI (szAll szE hs) l by
            have h1 := HSum.out
            have h2 := HR.out
            have h3 := HLe.out
            rw [remI_no (by rw [HT.out]; omega)]))
          go_wp2_with fail
          refine (HC.out _ (Below.refl _ _)).mono ?_
          rintro e w4 ⟨rfl, hb4⟩
          have HB4 := Lib.hid (HB.out.trans (hb4.mono HB.out.size))
          clear hb4 c0 c1 c2 c3 c4 c5 c6 c7
          go_wp2
          go_ret
          exact ⟨HNO.out, HB4.out⟩
      · have HYES := Lib.hid (ret_int (k := .i64) (show (r : Int) = remI (szAll szE hs) l by
          have h2 := HR.out
          rw [List.take_of_length_le (by omega), ← HT.out] at h2
          rw [remI_yes (by omega)]; omega))
        go_wp2
        go_ret
        exact ⟨HYES.out, HB.out⟩
  · have HNO := Lib.hid (ret_int (k := .i64) (show (-1 : Int) = remI (szAll szE hs) l by rw [remI_no (by rw [HT.out]; omega)]))
    go_enter Try.func146, Try.ntmps146
    go_wp2
    go_ret
    exact ⟨HNO.out, Below.refl _ _⟩

set_option maxHeartbeats 1000000 in
theorem szReplica_any (up : Bool) (su : Int) (Al : Option Addr) (nl cl : Nat) (es : List EH) (l B : Nat) (w : World) (hn : es.length = nl) (h : RowsB KE w B Al es) (hB : B ≤ w.heap.size) (hm : LgMax es) (hl : l ≤ 1048576) :
    Calls Try.prog 109 #[.agg #[.bool up, .slice Al nl cl, .int .i64 su], .int .i64 (l : Int)] w fun e w' => e = .returned (.int .i64 (remI (szAll szE es) l)) ∧ Below w.heap.size w w' := by
  have HZ := Lib.hid (fun W (hW : Below w.heap.size w W) => szEntryS_any Al nl cl es l B W hn (h.below (hW.mono hB)) (Nat.le_trans hB hW.size) hm hl)
  have hb1 := below1 w (.cells #[.bool up, .slice Al nl cl, .int .i64 su] 139)
  obtain ⟨s, hs⟩ : ∃ s, s = szAll szE es := ⟨_, rfl⟩
  rw [← hs] at HZ ⊢
  clear hs hn h hm
  by_cases h : s ≤ l
  · rw [remI_yes h] at HZ ⊢
    have h4 : (0 : Int) ≤ (l : Int) - (s : Int) := by omega
    obtain ⟨z, hz⟩ : ∃ z, z = (l : Int) - (s : Int) := ⟨_, rfl⟩
    rw [← hz] at HZ h4 ⊢
    clear hz h
    go_enter Try.func109, Try.ntmps109
    go_wp2_with fail
    refine (HZ.out _ hb1).mono ?_
    rintro e w1 ⟨rfl, hb2⟩
    go_wp2
    go_ret
    exact ⟨rfl, hb1.trans (hb2.mono hb1.size)⟩
  · rw [remI_no (by omega)] at HZ ⊢
    clear h
    go_enter Try.func109, Try.ntmps109
    go_wp2_with fail
    refine (HZ.out _ hb1).mono ?_
    rintro e w1 ⟨rfl, hb2⟩
    go_wp2
    go_ret
    exact ⟨rfl, hb1.trans (hb2.mono hb1.size)⟩

set_option maxRecDepth 100000 in
set_option maxHeartbeats 1000000 in
theorem szReplicaS_any (A : Option Addr) (n c : Nat) (hs : List RH) (l B : Nat) (w : World) (hn : hs.length = n) (h : RowsB KR w B A hs) (hB : B ≤ w.heap.size) (hm : RpMax hs) (hl : l ≤ 1048576) :
    Calls Try.prog 54 #[.slice A n c, .int .i64 (l : Int)] w fun e w' => e = .returned (.int .i64 (remI (szAll szR hs) l)) ∧ Below w.heap.size w w' := by
  obtain ⟨hmn, hms⟩ := hm
  have hnn := Nat.le_of_eq hn
  have hnn' := Nat.le_of_eq hn.symm
  have HN := Lib.hid hn
  have HS := Lib.hid h
  have HM := Lib.hid hms
  have HT := Lib.hid (show szAll szR hs = n + (hs.map szR).sum by rw [← hn]; rfl)
  have hnm : n ≤ maxLen := by omega
  unfold maxLen at hnm
  clear h hms hmn hn
  by_cases hln : n ≤ l
  · go_enter Try.func54, Try.ntmps54
    go_wp2
    go_loopw [1, 5] (fun v i wr => ∃ k r : Nat, k ≤ n ∧ i = .int .i64 k ∧ v = .int .i64 r ∧ r ≤ 1048576 ∧ Hid (r + (n + ((hs.take k).map szR).sum) = l) ∧ Below w.heap.size w wr) (fun _ i _ => n - (intOf i).toNat)
    case atStart => exact ⟨0, l - n, by omega, rfl, by go_num, by omega, show _ = _ by simp; omega, Below.refl _ _⟩
    case round =>
      obtain ⟨k, r, hk, rfl, rfl, hr, HR, hb⟩ := hrel
      have HB := Lib.hid hb
      clear hb
      by_cases hlt : k < n
      · obtain ⟨b, off, rfl, hbB, hc⟩ := rp_get HS.out (by omega)
        obtain ⟨hc0, hc1, hc2⟩ := hc k (by omega)
        have c0 := (HB.out.cell (p := ⟨b, off + k * 3, none⟩) (Nat.lt_of_lt_of_le hbB hB)).trans hc0
        have c1 := (HB.out.cell (p := ⟨b, off + k * 3 + 1, none⟩) (Nat.lt_of_lt_of_le hbB hB)).trans hc1
        have c2 := (HB.out.cell (p := ⟨b, off + k * 3 + 2, none⟩) (Nat.lt_of_lt_of_le hbB hB)).trans hc2
        obtain ⟨y, hy⟩ : ∃ y, y = hs[k]'(by omega) := ⟨_, rfl⟩
        have hrd := KR.rd_below (HS.out.at k (by omega)) (HB.out.mono hB)
        have HSum := Lib.hid (sum_take_succ szR hs k (by omega))
        have hsz := HM.out _ (List.getElem_mem (show k < hs.length by omega))
        have HLe := Lib.hid (sum_take_le szR hs (k + 1))
        rw [← hy] at c0 c1 c2 hsz hrd
        rw [← hy] at HSum
        obtain ⟨s, hs'⟩ : ∃ s, s = szR y := ⟨_, rfl⟩
        rw [← hs'] at HSum
        have hs2 : szAll szE y.es = s := by rw [hs']; rfl
        have HC := Lib.hid (fun W (hW : Below wr.heap.size wr W) => szReplica_any y.up y.su y.A y.es.length y.c y.es r B W rfl (RowsB.below (K := KE) hrd (hW.mono (Nat.le_trans hB HB.out.size))) (Nat.le_trans (Nat.le_trans hB HB.out.size) hW.size) hsz hr)
        clear hs'
        obtain ⟨up, su, Al, cl, es, rlo, rhi⟩ := y
        simp only at c0 c1 c2 hsz hrd hs2 HC
        rw [hs2] at HC
        obtain ⟨nl, hvnl⟩ : ∃ nl, nl = es.length := ⟨_, rfl⟩
        rw [← hvnl] at c1 HC
        clear hc hc0 hc1 hc2 hy hsz hrd hs2 hvnl
        by_cases hfit : s ≤ r
        · rw [remI_yes hfit] at HC
          have hf : (0 : Int) ≤ (r : Int) - (s : Int) := by omega
          go_wp2_with fail
          refine (HC.out _ (Below.refl _ _)).mono ?_
          rintro e w4 ⟨rfl, hb4⟩
          have HB4 := Lib.hid (HB.out.trans (hb4.mono HB.out.size))
          clear hb4 c0 c1 c2
          go_wp2
          go_roundw
          case rel => exact ⟨k + 1, r - s, by omega, by go_num, by go_num, by omega, show _ = _ by have h1 := HSum.out; have h2 := HR.out; rw [h1]; omega, HB4.out⟩
          case measure => simp [intOf]; omega
        · rw [remI_no (by omega)] at HC
          have HNO := Lib.hid (ret_int (k := .i64) (show (-1 : Int) = remI (szAll szR hs) l by
            have h1 := HSum.out
            have h2 := HR.out
            have h3 := HLe.out
            rw [remI_no (by rw [HT.out]; omega)]))
          go_wp2_with fail
          refine (HC.out _ (Below.refl _ _)).mono ?_
          rintro e w4 ⟨rfl, hb4⟩
          have HB4 := Lib.hid (HB.out.trans (hb4.mono HB.out.size))
          clear hb4 c0 c1 c2
          go_wp2
          go_ret
          exact ⟨HNO.out, HB4.out⟩
      · have HYES := Lib.hid (ret_int (k := .i64) (show (r : Int) = remI (szAll szR hs) l by
          have h2 := HR.out
          rw [List.take_of_length_le (by omega), ← HT.out] at h2
          rw [remI_yes (by omega)]; omega))
        go_wp2
        go_ret
        exact ⟨HYES.out, HB.out⟩
  · have HNO := Lib.hid (ret_int (k := .i64) (show (-1 : Int) = remI (szAll szR hs) l by rw [remI_no (by rw [HT.out]; omega)]))
    go_enter Try.func54, Try.ntmps54
    go_wp2
    go_ret
    exact ⟨HNO.out, Below.refl _ _⟩

set_option maxHeartbeats 1000000 in
theorem szGroup_any (A : Option Addr) (n c : Nat) (tm ld : Int) (hs : List RH) (B : Nat) (w : World) (hn : hs.length = n) (h : RowsB KR w B A hs) (hB : B ≤ w.heap.size) (hm : RpMax hs) :
    Calls Try.prog 23 #[.agg #[.slice A n c, .int .i64 tm, .int .i64 ld], .int .i64 1048576] w fun e w' => e = .returned (.int .i64 (remI (szAll szR hs) 1048576)) ∧ Below w.heap.size w w' := by
  have HZ := Lib.hid (fun W (hW : Below w.heap.size w W) => szReplicaS_any A n c hs 1048576 B W hn (h.below (hW.mono hB)) (Nat.le_trans hB hW.size) hm (Nat.le_refl _))
  have hb1 := below1 w (.cells #[.slice A n c, .int .i64 tm, .int .i64 ld] 56)
  rw [show (((1048576 : Nat) : Int)) = 1048576 from rfl] at HZ
  obtain ⟨s, hs⟩ : ∃ s, s = szAll szR hs := ⟨_, rfl⟩
  rw [← hs] at HZ ⊢
  clear hs hn h hm
  by_cases h : s ≤ 1048576
  · rw [remI_yes h] at HZ ⊢
    have h4 : (0 : Int) ≤ ((1048576 : Nat) : Int) - (s : Int) := by omega
    obtain ⟨z, hz⟩ : ∃ z, z = ((1048576 : Nat) : Int) - (s : Int) := ⟨_, rfl⟩
    rw [← hz] at HZ h4 ⊢
    clear hz h
    go_enter Try.func23, Try.ntmps23
    go_wp2_with fail
    refine (HZ.out _ hb1).mono ?_
    rintro e w1 ⟨rfl, hb2⟩
    go_wp2
    go_ret
    exact ⟨rfl, hb1.trans (hb2.mono hb1.size)⟩
  · rw [remI_no (by omega)] at HZ ⊢
    clear h
    go_enter Try.func23, Try.ntmps23
    go_wp2_with fail
    refine (HZ.out _ hb1).mono ?_
    rintro e w1 ⟨rfl, hb2⟩
    go_wp2
    go_ret
    exact ⟨rfl, hb1.trans (hb2.mono hb1.size)⟩

def ToEPost (tm kk tt xx ll : Int) (yy : Bool) (rs : List ByteArray) (ws : List (ByteArray × ByteArray × Bool)) (w : World) (e : Ending) (w' : World) : Prop :=
  ∃ Ar2 cr2 Aw2 cw2 lo2 m2 hi2, e = .returned (.agg #[.int .i64 tm, .int .i64 kk, .int .i64 tt, .int .i64 xx, .int .i64 ll, .slice Ar2 rs.length cr2, .slice Aw2 ws.length cw2, .bool yy]) ∧ EnO w' ⟨⟨tm, kk, tt, xx, ll, yy, rs, ws⟩, Ar2, cr2, Aw2, cw2, lo2, m2, hi2⟩ ∧ w.heap.size ≤ lo2 ∧ hi2 ≤ w'.heap.size ∧ Below w.heap.size w w'
set_option maxRecDepth 100000 in
set_option maxHeartbeats 2000000 in
theorem toEntry_any (tm kk tt xx ll : Int) (yy : Bool) (Ar : Option Addr) (nr cr : Nat) (rs : List ByteArray) (Aw : Option Addr) (nw cw : Nat) (ws : List (ByteArray × ByteArray × Bool)) (B : Nat) (w : World) (hnr : rs.length = nr) (hr : StrsB w B Ar rs) (hnw : ws.length = nw) (hw : WritesB w B Aw ws) (hB : B ≤ w.heap.size) (hlr : nr ≤ 1048576) (hlw : nw ≤ 1048576) :
    Calls Try.prog 11 #[.agg #[.int .i64 tm, .int .i64 kk, .int .i64 tt, .int .i64 xx, .int .i64 ll, .slice Ar nr cr, .slice Aw nw cw, .bool yy]] w (ToEPost tm kk tt xx ll yy rs ws w) := by
  have HR := Lib.hid (fun W (hW : Below w.heap.size w W) => toRec_any kk tt xx ll yy Ar nr cr rs Aw nw cw ws B W hnr (hr.below (hW.mono hB)) hnw (hw.below (hW.mono hB)) (Nat.le_trans hB hW.size) hlr hlw)
  unfold ToEPost
  rw [hnr, hnw]
  clear hr hw hnr hnw hB hlr hlw
  go_enter Try.func11, Try.ntmps11
  go_wp2_with fail
  have hb0 := below3 w (.cells #[.int .i64 tm, .int .i64 kk, .int .i64 tt, .int .i64 xx, .int .i64 ll, .slice Ar nr cr, .slice Aw nw cw, .bool yy] 27) (.cells #[.int .i64 0, .int .i64 0, .int .i64 0, .int .i64 0, .int .i64 0, .slice none 0 0, .slice none 0 0, .bool false] 35) (.cells #[.int .i64 tm, .int .i64 0, .int .i64 0, .int .i64 0, .int .i64 0, .slice none 0 0, .slice none 0 0, .bool false] 35)
  refine (HR.out _ hb0).mono ?_
  rintro e w1 ⟨g1, g2, m, rfl, ho1, ho2, hm1, hm2, hb1⟩
  have HB1 := Lib.hid (hb0.trans (hb1.mono hb0.size))
  obtain ⟨hc, hf⟩ := bcell hb1
  have hz := hb1.size
  simp only [World.size_alloc] at hz hc hf ho1 hm1
  have hz0 : w.heap.size < w1.heap.size := by omega
  have hz1 : w.heap.size + 1 < w1.heap.size := by omega
  have hz2 : w.heap.size + 1 + 1 < w1.heap.size := by omega
  have HO := Lib.hid (show EnO w1 ⟨⟨tm, kk, tt, xx, ll, yy, rs, ws⟩, some ⟨g1, 0, none⟩, nr, some ⟨g2, 0, none⟩, nw, w.heap.size + 1 + 1 + 1, m, w1.heap.size⟩ from ⟨hm1, hm2, ho1, ho2⟩)
  clear hb0 hb1 ho1 ho2 hm1 hm2
  go_wp2
  exact bodyPost_ret (v := .agg #[.int .i64 tm, .int .i64 kk, .int .i64 tt, .int .i64 xx, .int .i64 ll, .slice (some ⟨g1, 0, none⟩) nr nr, .slice (some ⟨g2, 0, none⟩) nw nw, .bool yy]) (by simp [results, Try.results11, go_sem, hc, hf, hz1]) rfl ⟨some ⟨g1, 0, none⟩, nr, some ⟨g2, 0, none⟩, nw, w.heap.size + 1 + 1 + 1, m, w1.heap.size, rfl,
    KE.ow_keep (x := ⟨⟨tm, kk, tt, xx, ll, yy, rs, ws⟩, some ⟨g1, 0, none⟩, nr, some ⟨g2, 0, none⟩, nw, w.heap.size + 1 + 1 + 1, m, w1.heap.size⟩) HO.out ((keep_putN (w := w1) (g := w.heap.size + 1 + 1) (.inl (Nat.lt_succ_self _)) 1 [.int .i64 kk, .int .i64 tt, .int .i64 xx, .int .i64 ll, .slice (some ⟨g1, 0, none⟩) nr nr, .slice (some ⟨g2, 0, none⟩) nw nw, .bool yy]).trans (keep_putN (g := w.heap.size + 1) (.inl (show w.heap.size + 1 < w.heap.size + 1 + 1 + 1 by omega)) 0 [.int .i64 tm, .int .i64 kk, .int .i64 tt, .int .i64 xx, .int .i64 ll, .slice (some ⟨g1, 0, none⟩) nr nr, .slice (some ⟨g2, 0, none⟩) nw nw, .bool yy]) (Nat.le_of_eq (putN_size _ _ _ _).symm)),
    by omega, by simp [World.setCell], below_putN (below_putN (g := w.heap.size + 1 + 1) HB1.out (by omega) 1 [.int .i64 kk, .int .i64 tt, .int .i64 xx, .int .i64 ll, .slice (some ⟨g1, 0, none⟩) nr nr, .slice (some ⟨g2, 0, none⟩) nw nw, .bool yy]) (g := w.heap.size + 1) (by omega) 0 [.int .i64 tm, .int .i64 kk, .int .i64 tt, .int .i64 xx, .int .i64 ll, .slice (some ⟨g1, 0, none⟩) nr nr, .slice (some ⟨g2, 0, none⟩) nw nw, .bool yy]⟩

/-- What toEntryS hands back: the same data, in blocks of their own. -/
def ToEntrySPost (hs : List EH) (n : Nat) (w : World) (e : Ending) (w' : World) : Prop :=
  ∃ (g : Nat) (gs : List EH), e = .returned (.slice (some ⟨g, 0, none⟩) n n) ∧ gs.map EH.d = hs.map EH.d ∧ OwnK KE w' w.heap.size w'.heap.size (some ⟨g, 0, none⟩) n gs ∧ Below w.heap.size w w'
set_option maxRecDepth 100000 in
set_option maxHeartbeats 1000000 in
theorem toEntryS_any (A : Option Addr) (n c : Nat) (hs : List EH) (B : Nat) (w : World) (hn : hs.length = n) (h : RowsB KE w B A hs) (hB : B ≤ w.heap.size) (hm : LgSmall (hs.map EH.d)) :
    Calls Try.prog 147 #[.slice A n c] w (ToEntrySPost hs n w) := by
  obtain ⟨i0, hi, hz0, hz1, hz2⟩ := info_parts infoEnt
  obtain ⟨hl, hms⟩ := hm
  have HN := Lib.hid hn
  have hge := Nat.le_of_eq hn
  have hle := Nat.le_of_eq hn.symm
  have hnl : n ≤ 1048576 := by simp at hl; omega
  have HS := Lib.hid h
  have HM := Lib.hid hms
  clear hn h hms hl
  go_enter Try.func147, Try.ntmps147
  go_wp2_with (at_make; refine wpList_make_full _ rfl (.tmp 6) (.tmp 6) 89 rfl w.heap.size 35 i0 _ 8 Try.underlying89 hi hz0 hz1 .i64 .i64 _ _ n rfl rfl rfl rfl (by rw [hz2]; omega) (by unfold maxLen; omega) (Nat.le_refl _) ?_; intro w1 hown hgr)
  have hb1 : Below w.heap.size w w1 := (Below.refl _ _).grown hgr (Nat.le_refl _) (by simp)
  have hf0 := fill_made (by omega) hown
  clear hown hgr
  go_loopw [4] (fun i wr => ∃ (k : Nat) (gs : List EH), k ≤ n ∧ i = .int .i64 k ∧ Hid (gs.length = k) ∧ Hid (gs.map EH.d = (hs.map EH.d).take k) ∧ Fill wr w.heap.size n 8 35 (gs.map KE.cs) k ∧ Nst KE wr (w.heap.size + 1) wr.heap.size (some ⟨w.heap.size, 0, none⟩) gs ∧ Below w.heap.size w wr) (fun i _ => n - (intOf i).toNat)
  case atStart => exact ⟨0, [], by omega, rfl, rfl, by simp [Hid], by simpa using hf0, Nst.nil, hb1⟩
  case round =>
    clear hf0 hb1
    obtain ⟨k, gs, hk, rfl, HGL, HGD, hf, hv, hb⟩ := hrel
    by_cases hlt : k < n
    · obtain ⟨b, off, rfl, hbB, hc⟩ := en_get HS.out (by omega)
      obtain ⟨hc0, hc1, hc2, hc3, hc4, hc5, hc6, hc7⟩ := hc k (by omega)
      have c0 := (hb.cell (p := ⟨b, off + k * 8, none⟩) (Nat.lt_of_lt_of_le hbB hB)).trans hc0
      have c1 := (hb.cell (p := ⟨b, off + k * 8 + 1, none⟩) (Nat.lt_of_lt_of_le hbB hB)).trans hc1
      have c2 := (hb.cell (p := ⟨b, off + k * 8 + 2, none⟩) (Nat.lt_of_lt_of_le hbB hB)).trans hc2
      have c3 := (hb.cell (p := ⟨b, off + k * 8 + 3, none⟩) (Nat.lt_of_lt_of_le hbB hB)).trans hc3
      have c4 := (hb.cell (p := ⟨b, off + k * 8 + 4, none⟩) (Nat.lt_of_lt_of_le hbB hB)).trans hc4
      have c5 := (hb.cell (p := ⟨b, off + k * 8 + 5, none⟩) (Nat.lt_of_lt_of_le hbB hB)).trans hc5
      have c6 := (hb.cell (p := ⟨b, off + k * 8 + 6, none⟩) (Nat.lt_of_lt_of_le hbB hB)).trans hc6
      have c7 := (hb.cell (p := ⟨b, off + k * 8 + 7, none⟩) (Nat.lt_of_lt_of_le hbB hB)).trans hc7
      have hrd := KE.rd_below (HS.out.at k (by omega)) (hb.mono hB)
      have HD1 := Lib.hid (fun (x2 : EH) (hx2 : EH.d x2 = EH.d (hs[k]'(by omega))) => take_dats HGD.out (show k < hs.length by omega) x2 hx2)
      have hsm := HM.out (EH.d (hs[k]'(by omega))) (List.mem_map.2 ⟨_, List.getElem_mem (show k < hs.length by omega), rfl⟩)
      obtain ⟨y, hy⟩ : ∃ y, y = hs[k]'(by omega) := ⟨_, rfl⟩
      rw [← hy] at c0 c1 c2 c3 c4 c5 c6 c7 hrd HD1 hsm
      obtain ⟨⟨tm, kk, tt, xx, ll, yy, rs, ws⟩, Ar, cr, Aw, cw, elo, em, ehi⟩ := y
      simp only at c0 c1 c2 c3 c4 c5 c6 c7 hrd hsm
      have HBr := Nat.le_trans hB hb.size
      have HC := Lib.hid (toEntry_any tm kk tt xx ll yy Ar rs.length cr rs Aw ws.length cw ws B wr rfl hrd.1 rfl hrd.2 HBr hsm.1.1 hsm.2.1)
      have HF := Lib.hid hf
      have HB := Lib.hid hb
      have HVO := Lib.hid hv
      have hgw := hf.lt
      clear hc hc0 hc1 hc2 hc3 hc4 hc5 hc6 hc7 hy hf hb hv hsm hrd HBr
      go_wp2_with fail
      refine HC.out.mono ?_
      rintro e w4 ⟨Ar2, cr2, Aw2, cw2, lo2, m2, hi2, rfl, how2, hlo2, hhi2, hb4⟩
      have hf := HF.out.below hb4
      have HST := Lib.hid (Fill.snocK (K := KE) (w := w4) (g := w.heap.size) (n := n) (k := k) (t := 35) (xs := gs) hf HGL.out hlt ⟨⟨tm, kk, tt, xx, ll, yy, rs, ws⟩, Ar2, cr2, Aw2, cw2, lo2, m2, hi2⟩)
      obtain ⟨v0, hv0⟩ := hf.cell (k * 8) (by omega)
      have hfr0 := hf.free (k * 8)
      obtain ⟨v1, hv1⟩ := hf.cell (k * 8 + 1) (by omega)
      have hfr1 := hf.free (k * 8 + 1)
      obtain ⟨v2, hv2⟩ := hf.cell (k * 8 + 2) (by omega)
      have hfr2 := hf.free (k * 8 + 2)
      obtain ⟨v3, hv3⟩ := hf.cell (k * 8 + 3) (by omega)
      have hfr3 := hf.free (k * 8 + 3)
      obtain ⟨v4, hv4⟩ := hf.cell (k * 8 + 4) (by omega)
      have hfr4 := hf.free (k * 8 + 4)
      obtain ⟨v5, hv5⟩ := hf.cell (k * 8 + 5) (by omega)
      have hfr5 := hf.free (k * 8 + 5)
      obtain ⟨v6, hv6⟩ := hf.cell (k * 8 + 6) (by omega)
      have hfr6 := hf.free (k * 8 + 6)
      obtain ⟨v7, hv7⟩ := hf.cell (k * 8 + 7) (by omega)
      have hfr7 := hf.free (k * 8 + 7)
      have HB4 := Lib.hid (HB.out.trans (hb4.mono HB.out.size))
      have HVN := Lib.hid ((HVO.out.since hb4).snoc ⟨⟨tm, kk, tt, xx, ll, yy, rs, ws⟩, Ar2, cr2, Aw2, cw2, lo2, m2, hi2⟩ how2 hlo2 hhi2 (by omega) (fun p hp => by injection hp with hp; subst hp; exact Nat.lt_succ_self _))
      clear hf hb4 c0 c1 c2 c3 c4 c5 c6 c7 how2 hlo2 hhi2
      go_wp2
      go_roundw
      case rel =>
        refine ⟨k + 1, gs ++ [(⟨⟨tm, kk, tt, xx, ll, yy, rs, ws⟩, Ar2, cr2, Aw2, cw2, lo2, m2, hi2⟩ : EH)], by omega, by go_num, ?_, HD1.out _ (rfl), HST.out, ?_, below_putN HB4.out (Nat.le_refl _) (k * 8) (KE.cs ⟨⟨tm, kk, tt, xx, ll, yy, rs, ws⟩, Ar2, cr2, Aw2, cw2, lo2, m2, hi2⟩)⟩
        · show _ = _
          rw [List.length_append, HGL.out]; rfl
        · have h1 := HVN.out.keep (keep_putN (w := w4) (g := w.heap.size) (.inl (Nat.lt_succ_self _)) (k * 8) (KE.cs ⟨⟨tm, kk, tt, xx, ll, yy, rs, ws⟩, Ar2, cr2, Aw2, cw2, lo2, m2, hi2⟩))
          have h2 := putN_size w4 w.heap.size (k * 8) (KE.cs ⟨⟨tm, kk, tt, xx, ll, yy, rs, ws⟩, Ar2, cr2, Aw2, cw2, lo2, m2, hi2⟩)
          rw [← h2] at h1
          exact h1
      case measure => simp [intOf]; omega
    · have hkn : k = n := by omega
      subst hkn
      have hd := HGD.out
      rw [List.take_of_length_le (by simp; omega)] at hd
      have HD2 := Lib.hid hd
      clear hd
      go_wp2
      go_ret
      exact ⟨w.heap.size, gs, rfl, HD2.out, ⟨Fill.own (by rw [List.length_map, HGL.out]; exact hf) (by rw [List.length_map]; exact HGL.out) (by unfold maxLen; omega) (Nat.le_refl _) hf.lt, hv.wider (by omega) (Nat.le_refl _)⟩, hb⟩

def ToRpPost (up : Bool) (su : Int) (es : List EH) (w : World) (e : Ending) (w' : World) : Prop :=
  ∃ A2 c2 es2 lo2 hi2, e = .returned (.agg #[.bool up, .slice A2 es2.length c2, .int .i64 su]) ∧ es2.map EH.d = es.map EH.d ∧ KR.ow w' ⟨up, su, A2, c2, es2, lo2, hi2⟩ ∧ w.heap.size ≤ lo2 ∧ hi2 ≤ w'.heap.size ∧ Below w.heap.size w w'
set_option maxRecDepth 100000 in
set_option maxHeartbeats 2000000 in
theorem toReplica_any (up : Bool) (su : Int) (Al : Option Addr) (nl cl : Nat) (es : List EH) (B : Nat) (w : World) (hn : es.length = nl) (h : RowsB KE w B Al es) (hB : B ≤ w.heap.size) (hm : LgSmall (es.map EH.d)) :
    Calls Try.prog 112 #[.agg #[.bool up, .slice Al nl cl, .int .i64 su]] w (ToRpPost up su es w) := by
  have HR := Lib.hid (fun W (hW : Below w.heap.size w W) => toEntryS_any Al nl cl es B W hn (h.below (hW.mono hB)) (Nat.le_trans hB hW.size) hm)
  have HN := Lib.hid hn
  clear h hn hB hm
  go_enter Try.func112, Try.ntmps112
  go_wp2_with fail
  have hb0 := below3 w (.cells #[.bool up, .slice Al nl cl, .int .i64 su] 139) (.cells #[.bool false, .slice none 0 0, .int .i64 0] 91) (.cells #[.bool up, .slice none 0 0, .int .i64 0] 91)
  refine (HR.out _ hb0).mono ?_
  rintro e w1 ⟨g1, gs, rfl, hgd, ho1, hb1⟩
  have HB1 := Lib.hid (hb0.trans (hb1.mono hb0.size))
  obtain ⟨hc, hf⟩ := bcell hb1
  have hz := hb1.size
  simp only [World.size_alloc] at hz hc hf ho1
  have hz0 : w.heap.size < w1.heap.size := by omega
  have hz1 : w.heap.size + 1 < w1.heap.size := by omega
  have hz2 : w.heap.size + 1 + 1 < w1.heap.size := by omega
  have HO := Lib.hid (show KR.ow w1 ⟨up, su, some ⟨g1, 0, none⟩, nl, gs, w.heap.size + 1 + 1 + 1, w1.heap.size⟩ from ⟨by show w.heap.size + 1 + 1 + 1 ≤ w1.heap.size; omega, ho1⟩)
  have HGD := Lib.hid hgd
  have HGL := Lib.hid (show gs.length = nl by rw [dats_len hgd]; exact HN.out)
  clear hb0 hb1 ho1 hgd
  go_wp2
  exact bodyPost_ret (v := .agg #[.bool up, .slice (some ⟨g1, 0, none⟩) nl nl, .int .i64 su]) (by simp [results, Try.results112, go_sem, hc, hf, hz1]) rfl ⟨some ⟨g1, 0, none⟩, nl, gs, w.heap.size + 1 + 1 + 1, w1.heap.size, by rw [HGL.out], HGD.out,
    KR.ow_keep (x := ⟨up, su, some ⟨g1, 0, none⟩, nl, gs, w.heap.size + 1 + 1 + 1, w1.heap.size⟩) HO.out ((keep_putN (w := w1) (g := w.heap.size + 1 + 1) (.inl (Nat.lt_succ_self _)) 1 [.slice (some ⟨g1, 0, none⟩) nl nl, .int .i64 su]).trans (keep_putN (g := w.heap.size + 1) (.inl (show w.heap.size + 1 < w.heap.size + 1 + 1 + 1 by omega)) 0 [.bool up, .slice (some ⟨g1, 0, none⟩) nl nl, .int .i64 su]) (Nat.le_of_eq (putN_size _ _ _ _).symm)),
    by omega, by simp [World.setCell], below_putN (below_putN (g := w.heap.size + 1 + 1) HB1.out (by omega) 1 [.slice (some ⟨g1, 0, none⟩) nl nl, .int .i64 su]) (g := w.heap.size + 1) (by omega) 0 [.bool up, .slice (some ⟨g1, 0, none⟩) nl nl, .int .i64 su]⟩

/-- What toReplicaS hands back: the same data, in blocks of their own. -/
def ToReplicaSPost (hs : List RH) (n : Nat) (w : World) (e : Ending) (w' : World) : Prop :=
  ∃ (g : Nat) (gs : List RH), e = .returned (.slice (some ⟨g, 0, none⟩) n n) ∧ gs.map rdat = hs.map rdat ∧ OwnK KR w' w.heap.size w'.heap.size (some ⟨g, 0, none⟩) n gs ∧ Below w.heap.size w w'
set_option maxRecDepth 100000 in
set_option maxHeartbeats 1000000 in
theorem toReplicaS_any (A : Option Addr) (n c : Nat) (hs : List RH) (B : Nat) (w : World) (hn : hs.length = n) (h : RowsB KR w B A hs) (hB : B ≤ w.heap.size) (hm : RpSmall (hs.map rdat)) :
    Calls Try.prog 61 #[.slice A n c] w (ToReplicaSPost hs n w) := by
  obtain ⟨i0, hi, hz0, hz1, hz2⟩ := info_parts infoRep
  obtain ⟨hl, hms⟩ := hm
  have HN := Lib.hid hn
  have hge := Nat.le_of_eq hn
  have hle := Nat.le_of_eq hn.symm
  have hnl : n ≤ 1048576 := by simp at hl; omega
  have HS := Lib.hid h
  have HM := Lib.hid hms
  clear hn h hms hl
  go_enter Try.func61, Try.ntmps61
  go_wp2_with (at_make; refine wpList_make_full _ rfl (.tmp 6) (.tmp 6) 43 rfl w.heap.size 91 i0 _ 3 Try.underlying43 hi hz0 hz1 .i64 .i64 _ _ n rfl rfl rfl rfl (by rw [hz2]; omega) (by unfold maxLen; omega) (Nat.le_refl _) ?_; intro w1 hown hgr)
  have hb1 : Below w.heap.size w w1 := (Below.refl _ _).grown hgr (Nat.le_refl _) (by simp)
  have hf0 := fill_made (by omega) hown
  clear hown hgr
  go_loopw [4] (fun i wr => ∃ (k : Nat) (gs : List RH), k ≤ n ∧ i = .int .i64 k ∧ Hid (gs.length = k) ∧ Hid (gs.map rdat = (hs.map rdat).take k) ∧ Fill wr w.heap.size n 3 91 (gs.map KR.cs) k ∧ Nst KR wr (w.heap.size + 1) wr.heap.size (some ⟨w.heap.size, 0, none⟩) gs ∧ Below w.heap.size w wr) (fun i _ => n - (intOf i).toNat)
  case atStart => exact ⟨0, [], by omega, rfl, rfl, by simp [Hid], by simpa using hf0, Nst.nil, hb1⟩
  case round =>
    clear hf0 hb1
    obtain ⟨k, gs, hk, rfl, HGL, HGD, hf, hv, hb⟩ := hrel
    by_cases hlt : k < n
    · obtain ⟨b, off, rfl, hbB, hc⟩ := rp_get HS.out (by omega)
      obtain ⟨hc0, hc1, hc2⟩ := hc k (by omega)
      have c0 := (hb.cell (p := ⟨b, off + k * 3, none⟩) (Nat.lt_of_lt_of_le hbB hB)).trans hc0
      have c1 := (hb.cell (p := ⟨b, off + k * 3 + 1, none⟩) (Nat.lt_of_lt_of_le hbB hB)).trans hc1
      have c2 := (hb.cell (p := ⟨b, off + k * 3 + 2, none⟩) (Nat.lt_of_lt_of_le hbB hB)).trans hc2
      have hrd := KR.rd_below (HS.out.at k (by omega)) (hb.mono hB)
      have HD1 := Lib.hid (fun (x2 : RH) (hx2 : rdat x2 = rdat (hs[k]'(by omega))) => take_dats HGD.out (show k < hs.length by omega) x2 hx2)
      have hsm := HM.out (rdat (hs[k]'(by omega))) (List.mem_map.2 ⟨_, List.getElem_mem (show k < hs.length by omega), rfl⟩)
      obtain ⟨y, hy⟩ : ∃ y, y = hs[k]'(by omega) := ⟨_, rfl⟩
      rw [← hy] at c0 c1 c2 hrd HD1 hsm
      obtain ⟨up, su, Al, cl, es, rlo, rhi⟩ := y
      simp only at c0 c1 c2 hrd hsm
      have HBr := Nat.le_trans hB hb.size
      have HC := Lib.hid (toReplica_any up su Al es.length cl es B wr rfl hrd HBr hsm)
      have HF := Lib.hid hf
      have HB := Lib.hid hb
      have HVO := Lib.hid hv
      have hgw := hf.lt
      clear hc hc0 hc1 hc2 hy hf hb hv hsm hrd HBr
      go_wp2_with fail
      refine HC.out.mono ?_
      rintro e w4 ⟨A2, cp2, es2, lo2, hi2, rfl, hes2, how2, hlo2, hhi2, hb4⟩
      have hf := HF.out.below hb4
      have HST := Lib.hid (Fill.snocK (K := KR) (w := w4) (g := w.heap.size) (n := n) (k := k) (t := 91) (xs := gs) hf HGL.out hlt ⟨up, su, A2, cp2, es2, lo2, hi2⟩)
      obtain ⟨v0, hv0⟩ := hf.cell (k * 3) (by omega)
      have hfr0 := hf.free (k * 3)
      obtain ⟨v1, hv1⟩ := hf.cell (k * 3 + 1) (by omega)
      have hfr1 := hf.free (k * 3 + 1)
      obtain ⟨v2, hv2⟩ := hf.cell (k * 3 + 2) (by omega)
      have hfr2 := hf.free (k * 3 + 2)
      have HB4 := Lib.hid (HB.out.trans (hb4.mono HB.out.size))
      have HVN := Lib.hid ((HVO.out.since hb4).snoc ⟨up, su, A2, cp2, es2, lo2, hi2⟩ how2 hlo2 hhi2 (by omega) (fun p hp => by injection hp with hp; subst hp; exact Nat.lt_succ_self _))
      have HX2 := Lib.hid hes2
      clear hf hb4 c0 c1 c2 how2 hlo2 hhi2 hes2
      go_wp2
      go_roundw
      case rel =>
        refine ⟨k + 1, gs ++ [(⟨up, su, A2, cp2, es2, lo2, hi2⟩ : RH)], by omega, by go_num, ?_, HD1.out _ (by simp only [rdat, HX2.out]), HST.out, ?_, below_putN HB4.out (Nat.le_refl _) (k * 3) (KR.cs ⟨up, su, A2, cp2, es2, lo2, hi2⟩)⟩
        · show _ = _
          rw [List.length_append, HGL.out]; rfl
        · have h1 := HVN.out.keep (keep_putN (w := w4) (g := w.heap.size) (.inl (Nat.lt_succ_self _)) (k * 3) (KR.cs ⟨up, su, A2, cp2, es2, lo2, hi2⟩))
          have h2 := putN_size w4 w.heap.size (k * 3) (KR.cs ⟨up, su, A2, cp2, es2, lo2, hi2⟩)
          rw [← h2] at h1
          exact h1
      case measure => simp [intOf]; omega
    · have hkn : k = n := by omega
      subst hkn
      have hd := HGD.out
      rw [List.take_of_length_le (by simp; omega)] at hd
      have HD2 := Lib.hid hd
      clear hd
      go_wp2
      go_ret
      exact ⟨w.heap.size, gs, rfl, HD2.out, ⟨Fill.own (by rw [List.length_map, HGL.out]; exact hf) (by rw [List.length_map]; exact HGL.out) (by unfold maxLen; omega) (Nat.le_refl _) hf.lt, hv.wider (by omega) (Nat.le_refl _)⟩, hb⟩

def ToGPost (hs : List RH) (n : Nat) (tm ld : Int) (w : World) (e : Ending) (w' : World) : Prop :=
  ∃ (g : Nat) (gs : List RH), e = .returned (.agg #[.slice (some ⟨g, 0, none⟩) n n, .int .i64 tm, .int .i64 ld]) ∧ gs.map rdat = hs.map rdat ∧ OwnK KR w' w.heap.size w'.heap.size (some ⟨g, 0, none⟩) n gs ∧ Below w.heap.size w w'
set_option maxRecDepth 100000 in
set_option maxHeartbeats 2000000 in
theorem toGroup_any (A : Option Addr) (n c : Nat) (tm ld : Int) (hs : List RH) (B : Nat) (w : World) (hn : hs.length = n) (h : RowsB KR w B A hs) (hB : B ≤ w.heap.size) (hm : RpSmall (hs.map rdat)) :
    Calls Try.prog 26 #[.agg #[.slice A n c, .int .i64 tm, .int .i64 ld]] w (ToGPost hs n tm ld w) := by
  have HR := Lib.hid (fun W (hW : Below w.heap.size w W) => toReplicaS_any A n c hs B W hn (h.below (hW.mono hB)) (Nat.le_trans hB hW.size) hm)
  clear h hn hB hm
  go_enter Try.func26, Try.ntmps26
  go_wp2_with fail
  have hb0 := below3 w (.cells #[.slice A n c, .int .i64 tm, .int .i64 ld] 56) (.cells #[.slice none 0 0, .int .i64 0, .int .i64 0] 45) (.cells #[.slice none 0 0, .int .i64 0, .int .i64 0] 45)
  refine (HR.out _ hb0).mono ?_
  rintro e w1 ⟨g1, gs, rfl, hgd, ho1, hb1⟩
  have HB1 := Lib.hid (hb0.trans (hb1.mono hb0.size))
  obtain ⟨hc, hf⟩ := bcell hb1
  have hz := hb1.size
  simp only [World.size_alloc] at hz hc hf ho1
  have hz0 : w.heap.size < w1.heap.size := by omega
  have hz1 : w.heap.size + 1 < w1.heap.size := by omega
  have hz2 : w.heap.size + 1 + 1 < w1.heap.size := by omega
  have HO := Lib.hid ho1
  have HGD := Lib.hid hgd
  clear hb0 hb1 ho1 hgd
  go_wp2
  exact bodyPost_ret (v := .agg #[.slice (some ⟨g1, 0, none⟩) n n, .int .i64 tm, .int .i64 ld]) (by simp [results, Try.results26, go_sem, hc, hf, hz1]) rfl ⟨g1, gs, rfl, HGD.out,
    (HO.out.keep ((keep_putN (w := w1) (g := w.heap.size + 1 + 1) (.inl (Nat.lt_succ_self _)) 0 [.slice (some ⟨g1, 0, none⟩) n n, .int .i64 tm, .int .i64 ld]).trans (keep_putN (g := w.heap.size + 1) (.inl (show w.heap.size + 1 < w.heap.size + 1 + 1 + 1 by omega)) 0 [.slice (some ⟨g1, 0, none⟩) n n, .int .i64 tm, .int .i64 ld]) (Nat.le_of_eq (putN_size _ _ _ _).symm))).wider (by omega) (by simp [World.setCell]),
    below_putN (below_putN (g := w.heap.size + 1 + 1) HB1.out (by omega) 0 [.slice (some ⟨g1, 0, none⟩) n n, .int .i64 tm, .int .i64 ld]) (g := w.heap.size + 1) (by omega) 0 [.slice (some ⟨g1, 0, none⟩) n n, .int .i64 tm, .int .i64 ld]⟩

set_option maxHeartbeats 2000000 in
theorem eqEntry_same (tm kk tt xx ll : Int) (yy : Bool) (Ar Ar' : Option Addr) (nr cr cr' : Nat) (rs : List ByteArray) (Aw Aw' : Option Addr) (nw cw cw' : Nat) (ws : List (ByteArray × ByteArray × Bool)) (B : Nat) (w : World) (hnr : rs.length = nr) (hr : StrsB w B Ar rs) (hr' : StrsB w B Ar' rs) (hnw : ws.length = nw) (hw : WritesB w B Aw ws) (hw' : WritesB w B Aw' ws) (hlr : nr ≤ 1048576) (hlw : nw ≤ 1048576) (hB : B ≤ w.heap.size) :
    Calls Try.prog 13 #[.agg #[.int .i64 tm, .int .i64 kk, .int .i64 tt, .int .i64 xx, .int .i64 ll, .slice Ar nr cr, .slice Aw nw cw, .bool yy], .agg #[.int .i64 tm, .int .i64 kk, .int .i64 tt, .int .i64 xx, .int .i64 ll, .slice Ar' nr cr', .slice Aw' nw cw', .bool yy]] w fun e w' => e = .returned (.bool true) ∧ Below w.heap.size w w' := by
  have HI := Lib.hid (fun W (hW : Below w.heap.size w W) => eqRec_same kk tt xx ll yy nr nw rs ws Ar Ar' Aw Aw' cr cr' cw cw' B W hnr (hr.below (hW.mono hB)) (hr'.below (hW.mono hB)) hnw (hw.below (hW.mono hB)) (hw'.below (hW.mono hB)) (Nat.le_trans hB hW.size) hlr hlw)
  have hb0 := below2 w (.cells #[.int .i64 tm, .int .i64 kk, .int .i64 tt, .int .i64 xx, .int .i64 ll, .slice Ar nr cr, .slice Aw nw cw, .bool yy] 35) (.cells #[.int .i64 tm, .int .i64 kk, .int .i64 tt, .int .i64 xx, .int .i64 ll, .slice Ar' nr cr', .slice Aw' nw cw', .bool yy] 35)
  clear hnr hr hr' hnw hw hw' hlr hlw hB
  go_enter Try.func13, Try.ntmps13
  go_wp2_with fail
  refine (HI.out _ hb0).mono ?_
  rintro e w1 ⟨rfl, hb1⟩
  have hb2 := hb0.trans (hb1.mono hb0.size)
  obtain ⟨hc, hf⟩ := bcell hb1
  have hz := hb1.size
  simp only [World.size_alloc] at hz hc hf
  have hz0 : w.heap.size < w1.heap.size := by omega
  have hz1 : w.heap.size + 1 < w1.heap.size := by omega
  clear hb0 hb1
  go_wp2
  go_ret
  exact ⟨rfl, hb2⟩

set_option maxRecDepth 100000 in
set_option maxHeartbeats 2000000 in
theorem eqEntryS_same (A A' : Option Addr) (n c c' : Nat) (hs gs : List EH) (B : Nat) (w : World) (hn : hs.length = n) (hd : gs.map EH.d = hs.map EH.d) (h : RowsB KE w B A hs) (h' : RowsB KE w B A' gs) (hB : B ≤ w.heap.size) (hm : LgSmall (hs.map EH.d)) :
    Calls Try.prog 153 #[.slice A n c, .slice A' n c'] w fun e w' => e = .returned (.bool true) ∧ Below w.heap.size w w' := by
  obtain ⟨hl, hms⟩ := hm
  have hge := Nat.le_of_eq hn
  have hle := Nat.le_of_eq hn.symm
  have hle2 : n ≤ gs.length := by rw [dats_len hd]; omega
  have hnl : n ≤ 1048576 := by simp at hl; omega
  have HS := Lib.hid h
  have HS' := Lib.hid h'
  have HDD := Lib.hid hd
  have HM := Lib.hid hms
  clear hn h h' hd hms hl
  go_enter Try.func153, Try.ntmps153
  go_wp2
  go_loopw [5] (fun i wr => ∃ k : Nat, k ≤ n ∧ i = .int .i64 k ∧ Below w.heap.size w wr) (fun i _ => n - (intOf i).toNat)
  case atStart => exact ⟨0, by omega, rfl, Below.refl _ _⟩
  case round =>
    obtain ⟨k, hk, rfl, hb⟩ := hrel
    by_cases hlt : k < n
    · obtain ⟨b, off, rfl, hbB, hc⟩ := en_get HS.out (by omega)
      obtain ⟨b', off', rfl, hbB', hc'⟩ := en_get HS'.out (by omega)
      obtain ⟨hc0, hc1, hc2, hc3, hc4, hc5, hc6, hc7⟩ := hc k (by omega)
      obtain ⟨hd0, hd1, hd2, hd3, hd4, hd5, hd6, hd7⟩ := hc' k (by omega)
      have hde := (dats_at HDD.out k (by omega) (by omega)).symm
      have c0 := (hb.cell (p := ⟨b, off + k * 8, none⟩) (Nat.lt_of_lt_of_le hbB hB)).trans hc0
      have c1 := (hb.cell (p := ⟨b, off + k * 8 + 1, none⟩) (Nat.lt_of_lt_of_le hbB hB)).trans hc1
      have c2 := (hb.cell (p := ⟨b, off + k * 8 + 2, none⟩) (Nat.lt_of_lt_of_le hbB hB)).trans hc2
      have c3 := (hb.cell (p := ⟨b, off + k * 8 + 3, none⟩) (Nat.lt_of_lt_of_le hbB hB)).trans hc3
      have c4 := (hb.cell (p := ⟨b, off + k * 8 + 4, none⟩) (Nat.lt_of_lt_of_le hbB hB)).trans hc4
      have c5 := (hb.cell (p := ⟨b, off + k * 8 + 5, none⟩) (Nat.lt_of_lt_of_le hbB hB)).trans hc5
      have c6 := (hb.cell (p := ⟨b, off + k * 8 + 6, none⟩) (Nat.lt_of_lt_of_le hbB hB)).trans hc6
      have c7 := (hb.cell (p := ⟨b, off + k * 8 + 7, none⟩) (Nat.lt_of_lt_of_le hbB hB)).trans hc7
      have d0 := (hb.cell (p := ⟨b', off' + k * 8, none⟩) (Nat.lt_of_lt_of_le hbB' hB)).trans hd0
      have d1 := (hb.cell (p := ⟨b', off' + k * 8 + 1, none⟩) (Nat.lt_of_lt_of_le hbB' hB)).trans hd1
      have d2 := (hb.cell (p := ⟨b', off' + k * 8 + 2, none⟩) (Nat.lt_of_lt_of_le hbB' hB)).trans hd2
      have d3 := (hb.cell (p := ⟨b', off' + k * 8 + 3, none⟩) (Nat.lt_of_lt_of_le hbB' hB)).trans hd3
      have d4 := (hb.cell (p := ⟨b', off' + k * 8 + 4, none⟩) (Nat.lt_of_lt_of_le hbB' hB)).trans hd4
      have d5 := (hb.cell (p := ⟨b', off' + k * 8 + 5, none⟩) (Nat.lt_of_lt_of_le hbB' hB)).trans hd5
      have d6 := (hb.cell (p := ⟨b', off' + k * 8 + 6, none⟩) (Nat.lt_of_lt_of_le hbB' hB)).trans hd6
      have d7 := (hb.cell (p := ⟨b', off' + k * 8 + 7, none⟩) (Nat.lt_of_lt_of_le hbB' hB)).trans hd7
      have hv := KE.rd_below (HS.out.at k (by omega)) (hb.mono hB)
      have hv' := KE.rd_below (HS'.out.at k (by omega)) (hb.mono hB)
      have hsm := HM.out (EH.d (hs[k]'(by omega))) (List.mem_map.2 ⟨_, List.getElem_mem (show k < hs.length by omega), rfl⟩)
      obtain ⟨x, hx⟩ : ∃ x, x = hs[k]'(by omega) := ⟨_, rfl⟩
      obtain ⟨y, hy⟩ : ∃ y, y = gs[k]'(by omega) := ⟨_, rfl⟩
      rw [← hx] at c0 c1 c2 c3 c4 c5 c6 c7 hv hsm hde
      rw [← hy] at d0 d1 d2 d3 d4 d5 d6 d7 hv' hde
      obtain ⟨⟨tm, kk, tt, xx, ll, yy, rs, ws⟩, Ar, cr, Aw, cw, elo, em, ehi⟩ := x
      obtain ⟨⟨tm2, kk2, tt2, xx2, ll2, yy2, rs2, ws2⟩, Ar2, cr2, Aw2, cw2, elo2, em2, ehi2⟩ := y
      simp only at c0 c1 c2 c3 c4 c5 c6 c7 d0 d1 d2 d3 d4 d5 d6 d7 hv hv' hsm hde
      simp only [ED.mk.injEq] at hde
      obtain ⟨rfl, rfl, rfl, rfl, rfl, rfl, rfl, rfl⟩ := hde
      have hk0 : (0 : Int) ≤ (k : Int) := by omega
      have hkn : (k : Int) < (n : Int) := by omega
      have hb1 : b < wr.heap.size := Nat.lt_of_lt_of_le hbB (Nat.le_trans hB hb.size)
      have hb2 : b' < wr.heap.size := Nat.lt_of_lt_of_le hbB' (Nat.le_trans hB hb.size)
      have HB := Lib.hid hb
      have HBr := Nat.le_trans hB hb.size
      have HCall := Lib.hid (eqEntry_same tm kk tt xx ll yy Ar Ar2 rs.length cr cr2 rs Aw Aw2 ws.length cw cw2 ws B wr.drew rfl hv.1 hv'.1 rfl hv.2 hv'.2 hsm.1.1 hsm.2.1 HBr)
      obtain ⟨nr, hvnr⟩ : ∃ nr, nr = rs.length := ⟨_, rfl⟩
      rw [← hvnr] at c5 d5 HCall
      obtain ⟨nw, hvnw⟩ : ∃ nw, nw = ws.length := ⟨_, rfl⟩
      rw [← hvnw] at c6 d6 HCall
      clear hc hc' hc0 hd0 hc1 hd1 hc2 hd2 hc3 hd3 hc4 hd4 hc5 hd5 hc6 hd6 hc7 hd7 hx hy hb hv hv' hsm HBr hvnr hvnw
      go_wp2_with fail
      go_region_held3 (fun w' => w'.cell? ⟨b, off + k * 8, none⟩ = some (.int .i64 tm) ∧ w'.cell? ⟨b, off + k * 8 + 1, none⟩ = some (.int .i64 kk) ∧ w'.cell? ⟨b, off + k * 8 + 2, none⟩ = some (.int .i64 tt) ∧ w'.cell? ⟨b, off + k * 8 + 3, none⟩ = some (.int .i64 xx) ∧ w'.cell? ⟨b, off + k * 8 + 4, none⟩ = some (.int .i64 ll) ∧ w'.cell? ⟨b, off + k * 8 + 5, none⟩ = some (.slice Ar nr cr) ∧ w'.cell? ⟨b, off + k * 8 + 6, none⟩ = some (.slice Aw nw cw) ∧ w'.cell? ⟨b, off + k * 8 + 7, none⟩ = some (.bool yy) ∧ w'.cell? ⟨b', off' + k * 8, none⟩ = some (.int .i64 tm) ∧ w'.cell? ⟨b', off' + k * 8 + 1, none⟩ = some (.int .i64 kk) ∧ w'.cell? ⟨b', off' + k * 8 + 2, none⟩ = some (.int .i64 tt) ∧ w'.cell? ⟨b', off' + k * 8 + 3, none⟩ = some (.int .i64 xx) ∧ w'.cell? ⟨b', off' + k * 8 + 4, none⟩ = some (.int .i64 ll) ∧ w'.cell? ⟨b', off' + k * 8 + 5, none⟩ = some (.slice Ar2 nr cr2) ∧ w'.cell? ⟨b', off' + k * 8 + 6, none⟩ = some (.slice Aw2 nw cw2) ∧ w'.cell? ⟨b', off' + k * 8 + 7, none⟩ = some (.bool yy))
        (first | exact ⟨c0, c1, c2, c3, c4, c5, c6, c7, d0, d1, d2, d3, d4, d5, d6, d7⟩ | (go_split_ands; exact ⟨kept2 hb4 c0 hb1, kept2 hb4 c1 hb1, kept2 hb4 c2 hb1, kept2 hb4 c3 hb1, kept2 hb4 c4 hb1, kept2 hb4 c5 hb1, kept2 hb4 c6 hb1, kept2 hb4 c7 hb1, kept2 hb4 d0 hb2, kept2 hb4 d1 hb2, kept2 hb4 d2 hb2, kept2 hb4 d3 hb2, kept2 hb4 d4 hb2, kept2 hb4 d5 hb2, kept2 hb4 d6 hb2, kept2 hb4 d7 hb2⟩))
        ((go_at_call 13; (with_reducible refine HCall.out.mono ?_); rintro e w4 ⟨rfl, hb4⟩))
      have HBB := Lib.hid (Below.trans (b := wr.drew) HB.out.drew (hb4.mono HB.out.size))
      clear hb4
      go_wp2
      go_roundw
      case rel => exact ⟨k + 1, by omega, by go_num, HBB.out⟩
      case measure => simp [intOf]; omega
    · go_wp2
      go_ret
      exact ⟨rfl, hb⟩

set_option maxHeartbeats 2000000 in
theorem eqReplica_same (up : Bool) (su : Int) (Al Al' : Option Addr) (nl cl cl' : Nat) (es es' : List EH) (B : Nat) (w : World) (hn : es.length = nl) (hd : es'.map EH.d = es.map EH.d) (h : RowsB KE w B Al es) (h' : RowsB KE w B Al' es') (hm : LgSmall (es.map EH.d)) (hB : B ≤ w.heap.size) :
    Calls Try.prog 118 #[.agg #[.bool up, .slice Al nl cl, .int .i64 su], .agg #[.bool up, .slice Al' nl cl', .int .i64 su]] w fun e w' => e = .returned (.bool true) ∧ Below w.heap.size w w' := by
  have HI := Lib.hid (fun W (hW : Below w.heap.size w W) => eqEntryS_same Al Al' nl cl cl' es es' B W hn hd (h.below (hW.mono hB)) (h'.below (hW.mono hB)) (Nat.le_trans hB hW.size) hm)
  have hb0 := below2 w (.cells #[.bool up, .slice Al nl cl, .int .i64 su] 91) (.cells #[.bool up, .slice Al' nl cl', .int .i64 su] 91)
  clear hn hd h h' hm hB
  go_enter Try.func118, Try.ntmps118
  go_wp2_with fail
  refine (HI.out _ hb0).mono ?_
  rintro e w1 ⟨rfl, hb1⟩
  have hb2 := hb0.trans (hb1.mono hb0.size)
  obtain ⟨hc, hf⟩ := bcell hb1
  have hz := hb1.size
  simp only [World.size_alloc] at hz hc hf
  have hz0 : w.heap.size < w1.heap.size := by omega
  have hz1 : w.heap.size + 1 < w1.heap.size := by omega
  clear hb0 hb1
  go_wp2
  go_ret
  exact ⟨rfl, hb2⟩

set_option maxRecDepth 100000 in
set_option maxHeartbeats 2000000 in
theorem eqReplicaS_same (A A' : Option Addr) (n c c' : Nat) (hs gs : List RH) (B : Nat) (w : World) (hn : hs.length = n) (hd : gs.map rdat = hs.map rdat) (h : RowsB KR w B A hs) (h' : RowsB KR w B A' gs) (hB : B ≤ w.heap.size) (hm : RpSmall (hs.map rdat)) :
    Calls Try.prog 67 #[.slice A n c, .slice A' n c'] w fun e w' => e = .returned (.bool true) ∧ Below w.heap.size w w' := by
  obtain ⟨hl, hms⟩ := hm
  have hge := Nat.le_of_eq hn
  have hle := Nat.le_of_eq hn.symm
  have hle2 : n ≤ gs.length := by rw [dats_len hd]; omega
  have hnl : n ≤ 1048576 := by simp at hl; omega
  have HS := Lib.hid h
  have HS' := Lib.hid h'
  have HDD := Lib.hid hd
  have HM := Lib.hid hms
  clear hn h h' hd hms hl
  go_enter Try.func67, Try.ntmps67
  go_wp2
  go_loopw [5] (fun i wr => ∃ k : Nat, k ≤ n ∧ i = .int .i64 k ∧ Below w.heap.size w wr) (fun i _ => n - (intOf i).toNat)
  case atStart => exact ⟨0, by omega, rfl, Below.refl _ _⟩
  case round =>
    obtain ⟨k, hk, rfl, hb⟩ := hrel
    by_cases hlt : k < n
    · obtain ⟨b, off, rfl, hbB, hc⟩ := rp_get HS.out (by omega)
      obtain ⟨b', off', rfl, hbB', hc'⟩ := rp_get HS'.out (by omega)
      obtain ⟨hc0, hc1, hc2⟩ := hc k (by omega)
      obtain ⟨hd0, hd1, hd2⟩ := hc' k (by omega)
      have hde := (dats_at HDD.out k (by omega) (by omega)).symm
      have c0 := (hb.cell (p := ⟨b, off + k * 3, none⟩) (Nat.lt_of_lt_of_le hbB hB)).trans hc0
      have c1 := (hb.cell (p := ⟨b, off + k * 3 + 1, none⟩) (Nat.lt_of_lt_of_le hbB hB)).trans hc1
      have c2 := (hb.cell (p := ⟨b, off + k * 3 + 2, none⟩) (Nat.lt_of_lt_of_le hbB hB)).trans hc2
      have d0 := (hb.cell (p := ⟨b', off' + k * 3, none⟩) (Nat.lt_of_lt_of_le hbB' hB)).trans hd0
      have d1 := (hb.cell (p := ⟨b', off' + k * 3 + 1, none⟩) (Nat.lt_of_lt_of_le hbB' hB)).trans hd1
      have d2 := (hb.cell (p := ⟨b', off' + k * 3 + 2, none⟩) (Nat.lt_of_lt_of_le hbB' hB)).trans hd2
      have hv := KR.rd_below (HS.out.at k (by omega)) (hb.mono hB)
      have hv' := KR.rd_below (HS'.out.at k (by omega)) (hb.mono hB)
      have hsm := HM.out (rdat (hs[k]'(by omega))) (List.mem_map.2 ⟨_, List.getElem_mem (show k < hs.length by omega), rfl⟩)
      obtain ⟨x, hx⟩ : ∃ x, x = hs[k]'(by omega) := ⟨_, rfl⟩
      obtain ⟨y, hy⟩ : ∃ y, y = gs[k]'(by omega) := ⟨_, rfl⟩
      rw [← hx] at c0 c1 c2 hv hsm hde
      rw [← hy] at d0 d1 d2 hv' hde
      obtain ⟨up, su, Al, cl, es, rlo, rhi⟩ := x
      obtain ⟨up2, su2, Al2, cl2, es2, rlo2, rhi2⟩ := y
      simp only at c0 c1 c2 d0 d1 d2 hv hv' hsm hde
      simp only [rdat, RD.mk.injEq] at hde
      obtain ⟨rfl, rfl, hde2⟩ := hde
      have hln := dats_len hde2.symm
      rw [hln] at d1
      have hk0 : (0 : Int) ≤ (k : Int) := by omega
      have hkn : (k : Int) < (n : Int) := by omega
      have hb1 : b < wr.heap.size := Nat.lt_of_lt_of_le hbB (Nat.le_trans hB hb.size)
      have hb2 : b' < wr.heap.size := Nat.lt_of_lt_of_le hbB' (Nat.le_trans hB hb.size)
      have HB := Lib.hid hb
      have HBr := Nat.le_trans hB hb.size
      have HCall := Lib.hid (eqReplica_same up su Al Al2 es.length cl cl2 es es2 B wr.drew rfl hde2.symm hv hv' hsm HBr)
      obtain ⟨nl, hvnl⟩ : ∃ nl, nl = es.length := ⟨_, rfl⟩
      rw [← hvnl] at c1 d1 HCall
      clear hc hc' hc0 hd0 hc1 hd1 hc2 hd2 hx hy hb hde2 hln hv hv' hsm HBr hvnl
      go_wp2_with fail
      go_region_held3 (fun w' => w'.cell? ⟨b, off + k * 3, none⟩ = some (.bool up) ∧ w'.cell? ⟨b, off + k * 3 + 1, none⟩ = some (.slice Al nl cl) ∧ w'.cell? ⟨b, off + k * 3 + 2, none⟩ = some (.int .i64 su) ∧ w'.cell? ⟨b', off' + k * 3, none⟩ = some (.bool up) ∧ w'.cell? ⟨b', off' + k * 3 + 1, none⟩ = some (.slice Al2 nl cl2) ∧ w'.cell? ⟨b', off' + k * 3 + 2, none⟩ = some (.int .i64 su))
        (first | exact ⟨c0, c1, c2, d0, d1, d2⟩ | (go_split_ands; exact ⟨kept2 hb4 c0 hb1, kept2 hb4 c1 hb1, kept2 hb4 c2 hb1, kept2 hb4 d0 hb2, kept2 hb4 d1 hb2, kept2 hb4 d2 hb2⟩))
        ((go_at_call 118; (with_reducible refine HCall.out.mono ?_); rintro e w4 ⟨rfl, hb4⟩))
      have HBB := Lib.hid (Below.trans (b := wr.drew) HB.out.drew (hb4.mono HB.out.size))
      clear hb4
      go_wp2
      go_roundw
      case rel => exact ⟨k + 1, by omega, by go_num, HBB.out⟩
      case measure => simp [intOf]; omega
    · go_wp2
      go_ret
      exact ⟨rfl, hb⟩

set_option maxHeartbeats 2000000 in
theorem eqGroup_same (A A' : Option Addr) (n c c' : Nat) (tm ld : Int) (hs gs : List RH) (B : Nat) (w : World) (hn : hs.length = n) (hd : gs.map rdat = hs.map rdat) (h : RowsB KR w B A hs) (h' : RowsB KR w B A' gs) (hm : RpSmall (hs.map rdat)) (hB : B ≤ w.heap.size) :
    Calls Try.prog 29 #[.agg #[.slice A n c, .int .i64 tm, .int .i64 ld], .agg #[.slice A' n c', .int .i64 tm, .int .i64 ld]] w fun e w' => e = .returned (.bool true) ∧ Below w.heap.size w w' := by
  have HI := Lib.hid (fun W (hW : Below w.heap.size w W) => eqReplicaS_same A A' n c c' hs gs B W hn hd (h.below (hW.mono hB)) (h'.below (hW.mono hB)) (Nat.le_trans hB hW.size) hm)
  have hb0 := below2 w (.cells #[.slice A n c, .int .i64 tm, .int .i64 ld] 45) (.cells #[.slice A' n c', .int .i64 tm, .int .i64 ld] 45)
  clear hn hd h h' hm hB
  go_enter Try.func29, Try.ntmps29
  go_wp2_with fail
  refine (HI.out _ hb0).mono ?_
  rintro e w1 ⟨rfl, hb1⟩
  have hb2 := hb0.trans (hb1.mono hb0.size)
  obtain ⟨hc, hf⟩ := bcell hb1
  have hz := hb1.size
  simp only [World.size_alloc] at hz hc hf
  have hz0 : w.heap.size < w1.heap.size := by omega
  have hz1 : w.heap.size + 1 < w1.heap.size := by omega
  clear hb0 hb1
  go_wp2
  go_ret
  exact ⟨rfl, hb2⟩

def thr (z : Int) : Bool := decide (z % 3 = 0)
/-- What the laws write over an entry from the number q on: the blocks stay. -/
def mkE (q : Nat) (e : EH) : EH := ⟨⟨(q : Int), (q : Int) + 1, (q : Int) + 1 + 1, (q : Int) + 1 + 1 + 1, (q : Int) + 1 + 1 + 1 + 1, thr ((q + 5 + e.d.rs.length + 3 * e.d.ws.length : Nat) : Int), mStrs (q + 5) e.d.rs.length, mWrs (q + 5 + e.d.rs.length) e.d.ws.length⟩, e.Ar, e.cr, e.Aw, e.cw, e.lo, e.m, e.hi⟩
def nxE (q : Nat) (e : EH) : Nat := q + 6 + e.d.rs.length + 3 * e.d.ws.length
theorem nxE_up (q : Nat) (e : EH) : q + 1 ≤ nxE q e := by unfold nxE; omega
theorem nxE_le (q : Nat) (e : EH) : nxE q e ≤ q + 6 * (1 + szE e) := by
  unfold nxE szE szSs szWs
  omega
theorem nxE_dat (q : Nat) (x y : EH) (h : x.d = y.d) : nxE q x = nxE q y := by unfold nxE; rw [h]
def mkR (q : Nat) (r : RH) : RH := ⟨thr (q : Int), ((aft nxE (q + 1) r.es : Nat) : Int), r.A, r.c, mkAll mkE nxE (q + 1) r.es, r.lo, r.hi⟩
def nxR (q : Nat) (r : RH) : Nat := aft nxE (q + 1) r.es + 1
theorem nxR_up (q : Nat) (r : RH) : q + 1 ≤ nxR q r := by have := aft_up (fun k x => Nat.le_trans (Nat.le_succ k) (nxE_up k x)) (q + 1) r.es; unfold nxR; omega
theorem nxR_le (q : Nat) (r : RH) : nxR q r ≤ q + 6 * (1 + szR r) := by
  have := aft_sz (sz := szE) (C := 6) nxE_le (q + 1) r.es
  unfold nxR szR szAll
  omega
theorem nxR_dat (q : Nat) (x y : RH) (h : rdat x = rdat y) : nxR q x = nxR q y := by
  unfold nxR
  simp only [rdat, RD.mk.injEq] at h
  rw [aft_dat (dat := EH.d) nxE_dat _ _ _ h.2.2]

section
variable {w w' : World} {lo hi cap : Nat} {A : Option Addr} {ms rt : List EH}
/-- The reads of an entry written over. -/
theorem own_reads {d : ED} {Ar Aw : Option Addr} {cr cw elo em ehi : Nat} {rs' : List ByteArray} (h : OwnK KE w lo hi A cap (ms ++ ⟨d, Ar, cr, Aw, cw, elo, em, ehi⟩ :: rt)) (hm : MidA Ar w w') (ho : OwnS w' elo em Ar cr rs') (hl : rs'.length = d.rs.length) :
    OwnK KE w' lo hi A cap (ms ++ ⟨⟨d.tm, d.k, d.t, d.x, d.l, d.y, rs', d.ws⟩, Ar, cr, Aw, cw, elo, em, ehi⟩ :: rt) ∧ Mid elo ehi w w' := by
  have hx := (h.2.1 _ (List.mem_append_right _ (List.mem_cons_self ..))).1
  obtain ⟨h1, h2, h3, h4⟩ := hx
  simp only at h1 h2 h3 h4
  have hmid : Mid elo ehi w w' := hm.mid fun x hx => by have := Own.block h3 x hx; omega
  refine ⟨h.inAt _ hmid ⟨h1, h2, ho, ?_⟩ (by show enCs _ = enCs _; simp [enCs, hl]) rfl rfl, hmid⟩
  exact Own.midA h4 hm fun x y hx hy => by have e1 := (Own.block h3 x hx).2.1; have e2 := (Own.block h4 y hy).1; omega
theorem own_writes {d : ED} {Ar Aw : Option Addr} {cr cw elo em ehi : Nat} {ws' : List (ByteArray × ByteArray × Bool)} (h : OwnK KE w lo hi A cap (ms ++ ⟨d, Ar, cr, Aw, cw, elo, em, ehi⟩ :: rt)) (hm : MidA Aw w w') (ho : OwnW w' em ehi Aw cw ws') (hl : ws'.length = d.ws.length) :
    OwnK KE w' lo hi A cap (ms ++ ⟨⟨d.tm, d.k, d.t, d.x, d.l, d.y, d.rs, ws'⟩, Ar, cr, Aw, cw, elo, em, ehi⟩ :: rt) ∧ Mid elo ehi w w' := by
  have hx := (h.2.1 _ (List.mem_append_right _ (List.mem_cons_self ..))).1
  obtain ⟨h1, h2, h3, h4⟩ := hx
  simp only at h1 h2 h3 h4
  have hmid : Mid elo ehi w w' := hm.mid fun x hx => by have := Own.block h4 x hx; omega
  refine ⟨h.inAt _ hmid ⟨h1, h2, ?_, ho⟩ (by show enCs _ = enCs _; simp [enCs, hl]) rfl rfl, hmid⟩
  exact Own.midA h3 hm fun x y hx hy => by have e1 := (Own.block h4 x hx).1; have e2 := (Own.block h3 y hy).2.1; omega
end

set_option maxRecDepth 100000 in
set_option maxHeartbeats 4000000 in
theorem markEntryS_any (A : Option Addr) (n cap k lo hi : Nat) (hs : List EH) (w : World) (hn : hs.length = n) (h : OwnK KE w lo hi A cap hs) (hhi : hi ≤ w.heap.size) (hk1 : 1 ≤ k) (hk : aft nxE k hs ≤ 1000000000) :
    Calls Try.prog 120 #[.slice A n cap, .int .i64 (k : Int)] w fun e w' => e = .returned (.int .i64 ((aft nxE k hs : Nat) : Int)) ∧ OwnK KE w' lo hi A cap (mkAll mkE nxE k hs) ∧ Mid lo hi w w' := by
  have HN := Lib.hid hn
  have HO := Lib.hid h
  clear h
  go_enter Try.func120, Try.ntmps120
  go_wp2
  go_loopw [1, 5] (fun x i wr => ∃ (ds rt : List EH) (q : Nat), Hid (hs = ds ++ rt) ∧ Hid (q = aft nxE k ds) ∧ 1 ≤ q ∧ x = .int .i64 (q : Int) ∧ i = .int .i64 ds.length ∧ Hid (OwnK KE wr lo hi A cap (mkAll mkE nxE k ds ++ rt)) ∧ Hid (Mid lo hi w wr) ∧ hi ≤ wr.heap.size) (fun _ i _ => n - (intOf i).toNat)
  case atStart => exact ⟨[], hs, k, rfl, rfl, hk1, rfl, rfl, HO, Mid.refl _ _ _, hhi⟩
  case round =>
    clear HO
    obtain ⟨ds, rt, q, HS, HQ, hq1, rfl, rfl, HO, HM, hhr⟩ := hrel
    have hlen : ds.length + rt.length = n := by rw [← HN.out, HS.out, List.length_append]
    have HML := Lib.hid (mkAll_len (mk := mkE) (nx := nxE) k ds)
    obtain ⟨j, hj⟩ : ∃ j, j = ds.length := ⟨_, rfl⟩
    have HJ := Lib.hid hj
    rw [← hj] at hlen ⊢
    cases rt with
    | cons x t =>
      obtain ⟨⟨tm, kk, tt, xx, ll, yy, rs, ws⟩, Ar, cr, Aw, cw, elo, em, ehi⟩ := x
      have haf : q + 6 + rs.length + 3 * ws.length ≤ 1000000000 := by
        have h1 : aft nxE k hs = aft nxE (q + 6 + rs.length + 3 * ws.length) t := by rw [HS.out, aft_append, ← HQ.out]; rfl
        have h2 := aft_up (fun k x => Nat.le_trans (Nat.le_succ k) (nxE_up k x)) (q + 6 + rs.length + 3 * ws.length) t
        omega
      have hlt : j < n := by simp at hlen; omega
      have hjq : j ≤ q := by rw [HQ.out, HJ.out]; exact Nat.le_trans (Nat.le_add_left _ _) (aft_len nxE_up k ds)
      obtain ⟨g, cur, rfl, hg1, hg2, hh, hc1, hc2⟩ := HO.out.form (by simp; omega)
      have hjc : j < cap := by
        have h1 := hc1
        simp only [List.length_append, List.length_cons, HML.out] at h1
        rw [← HJ.out] at h1
        omega
      have HG := Lib.hid (show lo ≤ g ∧ g < hi from ⟨hg1, hg2⟩)
      have hj0 : (0 : Int) ≤ (j : Int) := by omega
      have hj1 : (j : Int) < (n : Int) := by omega
      have hsz : cur.size = cap * 8 := hc2
      have cell := fun i (hi8 : i < 8) => show ∃ v, wr.cell? ⟨g, j * 8 + i, none⟩ = some v from ⟨cur[j * 8 + i]'(by omega), by rw [cell_of_row wr g _ cur _ (0, 0) hh]; exact Array.getElem?_eq_getElem (by omega)⟩
      have hfr := fun i => show wr.frozen? ⟨g, j * 8 + i, none⟩ = false by simp [World.frozen?, hh]
      obtain ⟨v0, hv0⟩ := cell 0 (by omega)
      have hfr0 := hfr 0
      obtain ⟨v1, hv1⟩ := cell 1 (by omega)
      have hfr1 := hfr 1
      obtain ⟨v2, hv2⟩ := cell 2 (by omega)
      have hfr2 := hfr 2
      obtain ⟨v3, hv3⟩ := cell 3 (by omega)
      have hfr3 := hfr 3
      obtain ⟨v4, hv4⟩ := cell 4 (by omega)
      have hfr4 := hfr 4
      rw [Nat.add_zero] at hv0 hfr0
      have hcx := fun i (hi8 : i < 8) => OwnK.cell HO.out j (by simp [HML.out, ← HJ.out]) i hi8
      have ex : (mkAll mkE nxE k ds ++ ⟨⟨tm, kk, tt, xx, ll, yy, rs, ws⟩, Ar, cr, Aw, cw, elo, em, ehi⟩ :: t)[j]'(by simp [HML.out, ← HJ.out]) = ⟨⟨tm, kk, tt, xx, ll, yy, rs, ws⟩, Ar, cr, Aw, cw, elo, em, ehi⟩ := by
        rw [List.getElem_append_right (by rw [HML.out, ← HJ.out]; exact Nat.le_refl _)]
        simp [HML.out, HJ.out]
      rw [ex] at hcx
      have hcA : wr.cell? ⟨g, j * 8 + 5, none⟩ = some (.slice Ar rs.length cr) := hcx 5 (by omega)
      have hcW : wr.cell? ⟨g, j * 8 + 6, none⟩ = some (.slice Aw ws.length cw) := hcx 6 (by omega)
      have ho1 := (((((HO.out).cellAt (⟨⟨(q : Int), kk, tt, xx, ll, yy, rs, ws⟩, Ar, cr, Aw, cw, elo, em, ehi⟩ : EH) 0 (by decide) (.int .i64 ((q : Int))) rfl rfl rfl (fun _ h => h) (j * 8) (by rw [HML.out, HJ.out]; rfl)).cellAt (⟨⟨(q : Int), (q : Int) + 1, tt, xx, ll, yy, rs, ws⟩, Ar, cr, Aw, cw, elo, em, ehi⟩ : EH) 1 (by decide) (.int .i64 ((q : Int) + 1)) rfl rfl rfl (fun _ h => h) (j * 8 + 1) (by rw [HML.out, HJ.out]; rfl)).cellAt (⟨⟨(q : Int), (q : Int) + 1, (q : Int) + 1 + 1, xx, ll, yy, rs, ws⟩, Ar, cr, Aw, cw, elo, em, ehi⟩ : EH) 2 (by decide) (.int .i64 ((q : Int) + 1 + 1)) rfl rfl rfl (fun _ h => h) (j * 8 + 2) (by rw [HML.out, HJ.out]; rfl)).cellAt (⟨⟨(q : Int), (q : Int) + 1, (q : Int) + 1 + 1, (q : Int) + 1 + 1 + 1, ll, yy, rs, ws⟩, Ar, cr, Aw, cw, elo, em, ehi⟩ : EH) 3 (by decide) (.int .i64 ((q : Int) + 1 + 1 + 1)) rfl rfl rfl (fun _ h => h) (j * 8 + 3) (by rw [HML.out, HJ.out]; rfl)).cellAt (⟨⟨(q : Int), (q : Int) + 1, (q : Int) + 1 + 1, (q : Int) + 1 + 1 + 1, (q : Int) + 1 + 1 + 1 + 1, yy, rs, ws⟩, Ar, cr, Aw, cw, elo, em, ehi⟩ : EH) 4 (by decide) (.int .i64 ((q : Int) + 1 + 1 + 1 + 1)) rfl rfl rfl (fun _ h => h) (j * 8 + 4) (by rw [HML.out, HJ.out]; rfl)
      have hm1 := (((((HM.out).set (p := ⟨g, j * 8, none⟩) HG.out (.int .i64 ((q : Int)))).set (p := ⟨g, j * 8 + 1, none⟩) HG.out (.int .i64 ((q : Int) + 1))).set (p := ⟨g, j * 8 + 2, none⟩) HG.out (.int .i64 ((q : Int) + 1 + 1))).set (p := ⟨g, j * 8 + 3, none⟩) HG.out (.int .i64 ((q : Int) + 1 + 1 + 1))).set (p := ⟨g, j * 8 + 4, none⟩) HG.out (.int .i64 ((q : Int) + 1 + 1 + 1 + 1))
      obtain ⟨w2, hw2⟩ : ∃ w2, w2 = (((((wr).setCell ⟨g, j * 8, none⟩ (.int .i64 ((q : Int)))).setCell ⟨g, j * 8 + 1, none⟩ (.int .i64 ((q : Int) + 1))).setCell ⟨g, j * 8 + 2, none⟩ (.int .i64 ((q : Int) + 1 + 1))).setCell ⟨g, j * 8 + 3, none⟩ (.int .i64 ((q : Int) + 1 + 1 + 1))).setCell ⟨g, j * 8 + 4, none⟩ (.int .i64 ((q : Int) + 1 + 1 + 1 + 1)) := ⟨_, rfl⟩
      have hh2 : hi ≤ w2.heap.size := by rw [hw2]; simpa [World.setCell] using hhr
      have kg2 : w2.cell? ⟨g, j * 8 + 6, none⟩ = some (.slice Aw ws.length cw) := by
        have := (OwnK.cell ho1 j (by simp [HML.out, ← HJ.out]) 6 (by decide))
        rw [hw2]
        simpa [List.getElem_append_right, HML.out, HJ.out, KE, enCs] using this
      rw [← hw2] at ho1 hm1
      have hx2 := (ho1.2.1 _ (List.mem_append_right _ (List.mem_cons_self ..)))
      have HV := Lib.hid (markStringS_any Ar rs.length cr (q + 5) elo em rs w2 rfl hx2.1.2.2.1 (by omega) (by omega))
      have heb := Lib.hid (show lo ≤ elo ∧ ehi ≤ hi from ⟨hx2.2.1, hx2.2.2.1⟩)
      have heg := Lib.hid (show g < elo ∨ ehi ≤ g from hx2.2.2.2 ⟨g, 0, none⟩ rfl)
      have eq5 : ((q + 5 : Nat) : Int) = (q : Int) + 1 + 1 + 1 + 1 + 1 := by omega
      rw [eq5] at HV
      have HO2 := Lib.hid ho1
      have HM2 := Lib.hid hm1
      have HW2 := Lib.hid hw2
      clear hh hc1 hc2 hsz hg1 hg2 hj cell hfr ho1 hm1 hw2 eq5 hcx ex hx2 hcW
      go_wp2_with fail
      rw [← HW2.out]
      refine HV.out.mono ?_
      rintro e w3 ⟨rfl, ho3, hm3⟩
      obtain ⟨ho4, hmm4⟩ := own_reads HO2.out hm3 ho3 (mStrs_len _ _)
      have HM3 := Lib.hid (HM2.out.trans (mid_wide hmm4 heb.out))
      have hh3 := Nat.le_trans hh2 hm3.2.2.2.1
      have hx3 := (ho4.2.1 _ (List.mem_append_right _ (List.mem_cons_self ..)))
      have hcW : w3.cell? ⟨g, j * 8 + 6, none⟩ = some (.slice Aw ws.length cw) := by
        have := (OwnK.cell ho4 j (by simp [HML.out, ← HJ.out]) 6 (by decide))
        simpa [List.getElem_append_right, HML.out, HJ.out, KE, enCs] using this
      obtain ⟨m1, hm1⟩ : ∃ m, m = q + 5 + rs.length := ⟨_, rfl⟩
      have HV2 := Lib.hid (markWriteS_any Aw ws.length cw m1 em ehi ws w3 rfl hx3.1.2.2.2 (by omega) (by omega))
      have HO4 := Lib.hid ho4
      rw [← hm1]
      have hm10 : (0 : Int) ≤ (m1 : Int) := by omega
      have hm1b : m1 + 3 * ws.length + 1 ≤ 1000000000 := by omega
      have HM1 := Lib.hid hm1
      clear ho3 hm3 ho4 hmm4 hx3 hm1 hv0 hv1 hv2 hv3 hv4 hfr0 hfr1 hfr2 hfr3 hfr4 hcA kg2
      go_wp2_with fail
      refine HV2.out.mono ?_
      rintro e w4 ⟨rfl, ho5, hm5⟩
      obtain ⟨ho6, hmm6⟩ := own_writes HO4.out hm5 ho5 (mWrs_len _ _)
      have HM6 := Lib.hid (HM3.out.trans (mid_wide hmm6 heb.out))
      have hh6 := Nat.le_trans hh3 hm5.2.2.2.1
      obtain ⟨g', cur1, hA, _, _, hh7, _, hz1⟩ := ho6.form (by simp; omega)
      injection hA with hA
      injection hA with hgg
      subst hgg
      have hz2 : cur1.size = cap * 8 := hz1
      obtain ⟨v7, hv7⟩ : ∃ v, w4.cell? ⟨g, j * 8 + 7, none⟩ = some v := ⟨cur1[j * 8 + 7]'(by omega), by rw [cell_of_row w4 g _ cur1 _ (0, 0) hh7]; exact Array.getElem?_eq_getElem (by omega)⟩
      have hfr7 : w4.frozen? ⟨g, j * 8 + 7, none⟩ = false := by simp [World.frozen?, hh7]
      obtain ⟨m2, hm2⟩ : ∃ m, m = m1 + 3 * ws.length := ⟨_, rfl⟩
      have HO7 := Lib.hid (ho6.cellAt (⟨⟨(q : Int), (q : Int) + 1, (q : Int) + 1 + 1, (q : Int) + 1 + 1 + 1, (q : Int) + 1 + 1 + 1 + 1, thr (m2 : Int), mStrs (q + 5) rs.length, mWrs m1 ws.length⟩, Ar, cr, Aw, cw, elo, em, ehi⟩ : EH) 7 (by decide) (.bool (thr (m2 : Int))) rfl rfl rfl (fun _ h => h) (j * 8 + 7) (by rw [HML.out, HJ.out]; rfl))
      have HM7 := Lib.hid (HM6.out.set (p := ⟨g, j * 8 + 7, none⟩) HG.out (.bool (thr (m2 : Int))))
      rw [← hm2]
      have hm20 : (0 : Int) ≤ (m2 : Int) := by omega
      have hm2b : m2 + 1 ≤ 1000000000 := by omega
      have HM2' := Lib.hid hm2
      clear ho5 hm5 ho6 hmm6 hh7 hz1 hz2 hm2 hcW
      go_wp2
      go_roundw
      case rel =>
        refine ⟨ds ++ [⟨⟨tm, kk, tt, xx, ll, yy, rs, ws⟩, Ar, cr, Aw, cw, elo, em, ehi⟩], t, q + 6 + rs.length + 3 * ws.length, ?_, ?_, by omega, ?_, ?_, ?_, HM7, by simpa [World.setCell] using hh6⟩
        · show _ = _; rw [HS.out]; simp
        · show _ = _; rw [aft_snoc, ← HQ.out]; rfl
        · have h1 := HM1.out; have h2 := HM2'.out; go_num
        · rw [List.length_append, ← HJ.out]; go_num
        · show OwnK KE _ _ _ _ _ _
          rw [mkAll_snoc, ← HQ.out, List.append_assoc]
          have h7 := HO7.out
          rw [HM2'.out, HM1.out] at h7
          rw [HM2'.out, HM1.out]
          exact h7
      case measure => simp [intOf]; omega
    | nil =>
      have hjn : j = n := by simpa using hlen
      subst hjn
      have HR := Lib.hid (show q = aft nxE k hs ∧ OwnK KE wr lo hi A cap (mkAll mkE nxE k hs) from ⟨by rw [HQ.out, HS.out, List.append_nil], by have := HO.out; rw [HS.out, List.append_nil]; rwa [List.append_nil] at this⟩)
      clear hj
      go_wp2
      go_ret
      exact ⟨by rw [HR.out.1]; rfl, HR.out.2, HM.out⟩

set_option maxRecDepth 100000 in
set_option maxHeartbeats 4000000 in
theorem markReplicaS_any (A : Option Addr) (n cap k lo hi : Nat) (hs : List RH) (w : World) (hn : hs.length = n) (h : OwnK KR w lo hi A cap hs) (hhi : hi ≤ w.heap.size) (hk1 : 1 ≤ k) (hk : aft nxR k hs ≤ 1000000000) :
    Calls Try.prog 70 #[.slice A n cap, .int .i64 (k : Int)] w fun e w' => e = .returned (.int .i64 ((aft nxR k hs : Nat) : Int)) ∧ OwnK KR w' lo hi A cap (mkAll mkR nxR k hs) ∧ Mid lo hi w w' := by
  have HN := Lib.hid hn
  have HO := Lib.hid h
  clear h
  go_enter Try.func70, Try.ntmps70
  go_wp2
  go_loopw [1, 5] (fun x i wr => ∃ (ds rt : List RH) (q : Nat), Hid (hs = ds ++ rt) ∧ Hid (q = aft nxR k ds) ∧ 1 ≤ q ∧ x = .int .i64 (q : Int) ∧ i = .int .i64 ds.length ∧ Hid (OwnK KR wr lo hi A cap (mkAll mkR nxR k ds ++ rt)) ∧ Hid (Mid lo hi w wr) ∧ hi ≤ wr.heap.size) (fun _ i _ => n - (intOf i).toNat)
  case atStart => exact ⟨[], hs, k, rfl, rfl, hk1, rfl, rfl, HO, Mid.refl _ _ _, hhi⟩
  case round =>
    clear HO
    obtain ⟨ds, rt, q, HS, HQ, hq1, rfl, rfl, HO, HM, hhr⟩ := hrel
    have hlen : ds.length + rt.length = n := by rw [← HN.out, HS.out, List.length_append]
    have HML := Lib.hid (mkAll_len (mk := mkR) (nx := nxR) k ds)
    obtain ⟨j, hj⟩ : ∃ j, j = ds.length := ⟨_, rfl⟩
    have HJ := Lib.hid hj
    rw [← hj] at hlen ⊢
    cases rt with
    | cons x t =>
      obtain ⟨up, su, Al, cl, es, rlo, rhi⟩ := x
      have haf : aft nxE (q + 1) es + 1 ≤ 1000000000 := by
        have h1 : aft nxR k hs = aft nxR (aft nxE (q + 1) es + 1) t := by rw [HS.out, aft_append, ← HQ.out]; rfl
        have h2 := aft_up (fun k x => Nat.le_trans (Nat.le_succ k) (nxR_up k x)) (aft nxE (q + 1) es + 1) t
        omega
      have hlt : j < n := by simp at hlen; omega
      have hjq : j ≤ q := by rw [HQ.out, HJ.out]; exact Nat.le_trans (Nat.le_add_left _ _) (aft_len nxR_up k ds)
      obtain ⟨g, cur, rfl, hg1, hg2, hh, hc1, hc2⟩ := HO.out.form (by simp; omega)
      have hjc : j < cap := by
        have h1 := hc1
        simp only [List.length_append, List.length_cons, HML.out] at h1
        rw [← HJ.out] at h1
        omega
      have HG := Lib.hid (show lo ≤ g ∧ g < hi from ⟨hg1, hg2⟩)
      have hj0 : (0 : Int) ≤ (j : Int) := by omega
      have hj1 : (j : Int) < (n : Int) := by omega
      have hsz : cur.size = cap * 3 := hc2
      have cell := fun i (hi3 : i < 3) => show ∃ v, wr.cell? ⟨g, j * 3 + i, none⟩ = some v from ⟨cur[j * 3 + i]'(by omega), by rw [cell_of_row wr g _ cur _ (0, 0) hh]; exact Array.getElem?_eq_getElem (by omega)⟩
      have hfr := fun i => show wr.frozen? ⟨g, j * 3 + i, none⟩ = false by simp [World.frozen?, hh]
      obtain ⟨v0, hv0⟩ := cell 0 (by omega)
      have hfr0 := hfr 0
      rw [Nat.add_zero] at hv0 hfr0
      have hcx := fun i (hi3 : i < 3) => OwnK.cell HO.out j (by simp [HML.out, ← HJ.out]) i hi3
      have ex : (mkAll mkR nxR k ds ++ ⟨up, su, Al, cl, es, rlo, rhi⟩ :: t)[j]'(by simp [HML.out, ← HJ.out]) = ⟨up, su, Al, cl, es, rlo, rhi⟩ := by
        rw [List.getElem_append_right (by rw [HML.out, ← HJ.out]; exact Nat.le_refl _)]
        simp [HML.out, HJ.out]
      rw [ex] at hcx
      have hcA : wr.cell? ⟨g, j * 3 + 1, none⟩ = some (.slice Al es.length cl) := hcx 1 (by omega)
      have ho1 := HO.out.cellAt (⟨thr (q : Int), su, Al, cl, es, rlo, rhi⟩ : RH) 0 (by decide) (.bool (thr (q : Int))) rfl rfl rfl (fun _ h => h) (j * 3) (by rw [HML.out, HJ.out]; rfl)
      have hm1 := HM.out.set (p := ⟨g, j * 3, none⟩) HG.out (.bool (thr (q : Int)))
      obtain ⟨w2, hw2⟩ : ∃ w2, w2 = wr.setCell ⟨g, j * 3, none⟩ (.bool (thr (q : Int))) := ⟨_, rfl⟩
      have hh2 : hi ≤ w2.heap.size := by rw [hw2]; simpa [World.setCell] using hhr
      rw [← hw2] at ho1 hm1
      have hx2 := (ho1.2.1 _ (List.mem_append_right _ (List.mem_cons_self ..)))
      have heb := Lib.hid (show lo ≤ rlo ∧ rhi ≤ hi from ⟨hx2.2.1, hx2.2.2.1⟩)
      have hup := aft_up (fun k x => Nat.le_trans (Nat.le_succ k) (nxE_up k x)) (q + 1) es
      have HV := Lib.hid (markEntryS_any Al es.length cl (q + 1) rlo rhi es w2 rfl hx2.1.2 (Nat.le_trans heb.out.2 hh2) (by omega) (by omega))
      have eq1 : ((q + 1 : Nat) : Int) = (q : Int) + 1 := by omega
      rw [eq1] at HV
      have HO2 := Lib.hid ho1
      have HM2 := Lib.hid hm1
      have HW2 := Lib.hid hw2
      clear hh hc1 hc2 hsz hg1 hg2 hj cell hfr ho1 hm1 hw2 eq1 hcx ex hx2
      go_wp2_with fail
      rw [show ((q : Int) % 3 == 0) = thr (q : Int) from rfl, ← HW2.out]
      refine HV.out.mono ?_
      rintro e w3 ⟨rfl, ho3, hm3⟩
      have ho4 := HO2.out.inAt (⟨thr (q : Int), su, Al, cl, mkAll mkE nxE (q + 1) es, rlo, rhi⟩ : RH) hm3 ⟨(HO2.out.2.1 _ (List.mem_append_right _ (List.mem_cons_self ..))).1.1, ho3⟩ (by show rpCs _ = rpCs _; simp [rpCs, mkAll_len]) rfl rfl
      have HM3 := Lib.hid (HM2.out.trans (mid_wide hm3 heb.out))
      have hh3 := Nat.le_trans hh2 hm3.2.2.2.1
      obtain ⟨g', cur1, hA, _, _, hh7, _, hz1⟩ := ho4.form (by simp; omega)
      injection hA with hA
      injection hA with hgg
      subst hgg
      have hz2 : cur1.size = cap * 3 := hz1
      obtain ⟨v7, hv7⟩ : ∃ v, w3.cell? ⟨g, j * 3 + 2, none⟩ = some v := ⟨cur1[j * 3 + 2]'(by omega), by rw [cell_of_row w3 g _ cur1 _ (0, 0) hh7]; exact Array.getElem?_eq_getElem (by omega)⟩
      have hfr7 : w3.frozen? ⟨g, j * 3 + 2, none⟩ = false := by simp [World.frozen?, hh7]
      obtain ⟨m2, hm2⟩ : ∃ m, m = aft nxE (q + 1) es := ⟨_, rfl⟩
      have HO7 := Lib.hid (ho4.cellAt (⟨thr (q : Int), (m2 : Int), Al, cl, mkAll mkE nxE (q + 1) es, rlo, rhi⟩ : RH) 2 (by decide) (.int .i64 (m2 : Int)) rfl rfl rfl (fun _ h => h) (j * 3 + 2) (by rw [HML.out, HJ.out]; rfl))
      have HM7 := Lib.hid (HM3.out.set (p := ⟨g, j * 3 + 2, none⟩) HG.out (.int .i64 (m2 : Int)))
      rw [← hm2]
      have hm20 : (0 : Int) ≤ (m2 : Int) := by omega
      have hm2b : m2 + 1 ≤ 1000000000 := by omega
      have HM2' := Lib.hid hm2
      clear ho3 hm3 ho4 hh7 hz1 hz2 hm2 hcA hv0 hfr0
      go_wp2
      go_roundw
      case rel =>
        refine ⟨ds ++ [⟨up, su, Al, cl, es, rlo, rhi⟩], t, m2 + 1, ?_, ?_, by omega, ?_, ?_, ?_, HM7, by simpa [World.setCell] using hh3⟩
        · show _ = _; rw [HS.out]; simp
        · show _ = _; rw [aft_snoc, ← HQ.out, HM2'.out]; rfl
        · go_num
        · rw [List.length_append, ← HJ.out]; go_num
        · show OwnK KR _ _ _ _ _ _
          rw [mkAll_snoc, ← HQ.out, List.append_assoc]
          have h7 := HO7.out
          rw [HM2'.out] at h7
          rw [HM2'.out]
          exact h7
      case measure => simp [intOf]; omega
    | nil =>
      have hjn : j = n := by simpa using hlen
      subst hjn
      have HR := Lib.hid (show q = aft nxR k hs ∧ OwnK KR wr lo hi A cap (mkAll mkR nxR k hs) from ⟨by rw [HQ.out, HS.out, List.append_nil], by have := HO.out; rw [HS.out, List.append_nil]; rwa [List.append_nil] at this⟩)
      clear hj
      go_wp2
      go_ret
      exact ⟨by rw [HR.out.1]; rfl, HR.out.2, HM.out⟩

set_option maxHeartbeats 1000000 in
theorem markGroup_any (A : Option Addr) (n cap lo hi : Nat) (tm ld : Int) (hs : List RH) (w : World) (hn : hs.length = n) (h : OwnK KR w lo hi A cap hs) (hhi : hi ≤ w.heap.size) (hk : aft nxR 1 hs ≤ 1000000000) :
    Calls Try.prog 31 #[.agg #[.slice A n cap, .int .i64 tm, .int .i64 ld], .int .i64 1] w fun e w' => e = .returned (.int .i64 ((aft nxR 1 hs : Nat) : Int)) ∧ OwnK KR w' lo hi A cap (mkAll mkR nxR 1 hs) ∧ Mid lo hi w w' := by
  have hb1 := below1 w (.cells #[.slice A n cap, .int .i64 tm, .int .i64 ld] 45)
  have HM := Lib.hid (fun W (hW : Below w.heap.size w W) => markReplicaS_any A n cap 1 lo hi hs W hn (h.since hW) (Nat.le_trans hhi hW.size) (Nat.le_refl _) hk)
  rw [show (((1 : Nat) : Int)) = 1 from rfl] at HM
  have HB := Lib.hid (Below.mid (lo := lo) (hi := hi) hb1)
  have HB1 := Lib.hid hb1
  clear h hn hhi hb1
  go_enter Try.func31, Try.ntmps31
  go_wp2_with fail
  refine (HM.out _ HB1.out).mono ?_
  rintro e w1 ⟨rfl, ho, hm⟩
  have HR := Lib.hid (And.intro ho (HB.out.trans hm))
  clear ho hm
  go_wp2
  go_ret
  exact ⟨rfl, HR.out.1, HR.out.2⟩

set_option maxRecDepth 100000 in
set_option maxHeartbeats 4000000 in
theorem heldEntryS_any (A : Option Addr) (n c k B : Nat) (hs : List EH) (w : World) (hn : hs.length = n) (h : RowsB KE w B A (mkAll mkE nxE k hs)) (hB : B ≤ w.heap.size) (hk1 : 1 ≤ k) (hk : aft nxE k hs ≤ 1000000000) :
    Calls Try.prog 121 #[.slice A n c, .int .i64 (k : Int)] w fun e w' => e = .returned (.int .i64 ((aft nxE k hs : Nat) : Int)) ∧ Below w.heap.size w w' := by
  have HN := Lib.hid hn
  have HC0 := Lib.hid h
  clear h
  go_enter Try.func121, Try.ntmps121
  go_wp2
  go_loopw [1, 5] (fun x i wr => ∃ (ds rt : List EH) (q : Nat), Hid (hs = ds ++ rt) ∧ Hid (q = aft nxE k ds) ∧ 1 ≤ q ∧ x = .int .i64 (q : Int) ∧ i = .int .i64 ds.length ∧ Below w.heap.size w wr) (fun _ i _ => n - (intOf i).toNat)
  case atStart => exact ⟨[], hs, k, rfl, rfl, hk1, rfl, rfl, Below.refl _ _⟩
  case round =>
    obtain ⟨ds, rt, q, HS, HQ, hq1, rfl, rfl, hb⟩ := hrel
    have hlen : ds.length + rt.length = n := by rw [← HN.out, HS.out, List.length_append]
    obtain ⟨j, hj⟩ : ∃ j, j = ds.length := ⟨_, rfl⟩
    have HJ := Lib.hid hj
    rw [← hj] at hlen ⊢
    cases rt with
    | cons x t =>
      obtain ⟨⟨tm, kk, tt, xx, ll, yy, rs, ws⟩, Ar, cr, Aw, cw, elo, em, ehi⟩ := x
      have haf : q + 6 + rs.length + 3 * ws.length ≤ 1000000000 := by
        have h1 : aft nxE k hs = aft nxE (q + 6 + rs.length + 3 * ws.length) t := by rw [HS.out, aft_append, ← HQ.out]; rfl
        have h2 := aft_up (fun k x => Nat.le_trans (Nat.le_succ k) (nxE_up k x)) (q + 6 + rs.length + 3 * ws.length) t
        omega
      have hlt : j < n := by simp at hlen; omega
      have hjq : j ≤ q := by rw [HQ.out, HJ.out]; exact Nat.le_trans (Nat.le_add_left _ _) (aft_len nxE_up k ds)
      have hlm : j < (mkAll mkE nxE k hs).length := by rw [mkAll_len, HN.out]; exact hlt
      obtain ⟨b, off, rfl, hbB, hc⟩ := en_get HC0.out (by omega)
      obtain ⟨hc0, hc1, hc2, hc3, hc4, hc5, hc6, hc7⟩ := hc j hlm
      have hv := HC0.out.at j hlm
      have e : (mkAll mkE nxE k hs)[j]'hlm = mkE q ⟨⟨tm, kk, tt, xx, ll, yy, rs, ws⟩, Ar, cr, Aw, cw, elo, em, ehi⟩ := by
        have h1 := mkAll_at (mk := mkE) (nx := nxE) k ds t ⟨⟨tm, kk, tt, xx, ll, yy, rs, ws⟩, Ar, cr, Aw, cw, elo, em, ehi⟩ j hj (by rw [← HS.out]; exact hlm)
        rw [← HQ.out] at h1
        simp only [← HS.out] at h1
        exact h1
      rw [e] at hc0 hc1 hc2 hc3 hc4 hc5 hc6 hc7 hv
      simp only [mkE, mStrs_len, mWrs_len, mkAll_len] at hc0 hc1 hc2 hc3 hc4 hc5 hc6 hc7
      have hbr : b < wr.heap.size := Nat.lt_of_lt_of_le hbB (Nat.le_trans hB hb.size)
      have p0 := (hb.cell (p := ⟨b, off + j * 8, none⟩) (Nat.lt_of_lt_of_le hbB hB)).trans hc0
      have p1 := (hb.cell (p := ⟨b, off + j * 8 + 1, none⟩) (Nat.lt_of_lt_of_le hbB hB)).trans hc1
      have p2 := (hb.cell (p := ⟨b, off + j * 8 + 2, none⟩) (Nat.lt_of_lt_of_le hbB hB)).trans hc2
      have p3 := (hb.cell (p := ⟨b, off + j * 8 + 3, none⟩) (Nat.lt_of_lt_of_le hbB hB)).trans hc3
      have p4 := (hb.cell (p := ⟨b, off + j * 8 + 4, none⟩) (Nat.lt_of_lt_of_le hbB hB)).trans hc4
      have p5 := (hb.cell (p := ⟨b, off + j * 8 + 5, none⟩) (Nat.lt_of_lt_of_le hbB hB)).trans hc5
      have p6 := (hb.cell (p := ⟨b, off + j * 8 + 6, none⟩) (Nat.lt_of_lt_of_le hbB hB)).trans hc6
      have p7 := (hb.cell (p := ⟨b, off + j * 8 + 7, none⟩) (Nat.lt_of_lt_of_le hbB hB)).trans hc7
      have hj0 : (0 : Int) ≤ (j : Int) := by omega
      have hj1 : (j : Int) < (n : Int) := by omega
      have HB := Lib.hid hb
      have HV := Lib.hid (heldStringS_any Ar rs.length cr (q + 5) B wr (hv.1.below (hb.mono hB)) (Nat.le_trans hB hb.size) (by omega) (by omega))
      rw [show ((q + 5 : Nat) : Int) = (q : Int) + 1 + 1 + 1 + 1 + 1 by omega] at HV
      obtain ⟨m1, hm1⟩ : ∃ m, m = q + 5 + rs.length := ⟨_, rfl⟩
      have HV2 := Lib.hid (fun W (hW : Below wr.heap.size wr W) => heldWriteS_any Aw ws.length cw m1 B W (by rw [hm1]; exact hv.2.below ((hb.mono hB).trans (hW.mono (Nat.le_trans hB hb.size)))) (Nat.le_trans hB (Nat.le_trans hb.size hW.size)) (by omega) (by omega))
      obtain ⟨m2, hm2⟩ : ∃ m, m = m1 + 3 * ws.length := ⟨_, rfl⟩
      rw [← hm1] at HV p7
      rw [← hm2] at HV2 p7
      have hm10 : (0 : Int) ≤ (m1 : Int) := by omega
      have hm1b : m1 + 1 ≤ 1000000000 := by omega
      have hm20 : (0 : Int) ≤ (m2 : Int) := by omega
      have hm2b : m2 + 1 ≤ 1000000000 := by omega
      have ht1 : ((m2 : Int) % 3 == 0) = thr (m2 : Int) := rfl
      have HM1 := Lib.hid hm1
      have HM2 := Lib.hid hm2
      obtain ⟨b1, hb1⟩ : ∃ b, b = thr (m2 : Int) := ⟨_, rfl⟩
      rw [← hb1] at p7 ht1
      clear hc hc0 hc1 hc2 hc3 hc4 hc5 hc6 hc7 hb hv e hlm hj hm1 hm2 hb1
      go_wp2_with fail
      (with_reducible refine HV.out.mono ?_)
      rintro e w5 ⟨rfl, hb5⟩
      have y6 := (hb5.cell (p := ⟨b, off + j * 8 + 6, none⟩) hbr).trans p6
      have y7 := (hb5.cell (p := ⟨b, off + j * 8 + 7, none⟩) hbr).trans p7
      have hbr5 := Nat.lt_of_lt_of_le hbr hb5.size
      have HB5 := Lib.hid (HB.out.trans (hb5.mono HB.out.size))
      have HC2 := Lib.hid (HV2.out _ hb5)
      clear hb5 p0 p1 p2 p3 p4 p5 p6 p7 HV2
      go_wp2_with fail
      refine HC2.out.mono ?_
      rintro e w6 ⟨rfl, hb6⟩
      have z7 := (hb6.cell (p := ⟨b, off + j * 8 + 7, none⟩) hbr5).trans y7
      have HB6 := Lib.hid (HB5.out.trans (hb6.mono HB5.out.size))
      clear hb6 y6 y7
      go_wp2
      go_roundw
      case rel =>
        refine ⟨ds ++ [⟨⟨tm, kk, tt, xx, ll, yy, rs, ws⟩, Ar, cr, Aw, cw, elo, em, ehi⟩], t, q + 6 + rs.length + 3 * ws.length, ?_, ?_, by omega, ?_, ?_, HB6.out⟩
        · show _ = _; rw [HS.out]; simp
        · show _ = _; rw [aft_snoc, ← HQ.out]; rfl
        · have h1 := HM1.out; have h2 := HM2.out; go_num
        · rw [List.length_append, ← HJ.out]; go_num
      case measure => simp [intOf]; omega
    | nil =>
      have hjn : j = n := by simpa using hlen
      subst hjn
      have HR := Lib.hid (show q = aft nxE k hs from by rw [HQ.out, HS.out, List.append_nil])
      clear hj
      go_wp2
      go_ret
      exact ⟨by rw [HR.out]; rfl, hb⟩

set_option maxRecDepth 100000 in
set_option maxHeartbeats 4000000 in
theorem heldReplicaS_any (A : Option Addr) (n c k B : Nat) (hs : List RH) (w : World) (hn : hs.length = n) (h : RowsB KR w B A (mkAll mkR nxR k hs)) (hB : B ≤ w.heap.size) (hk1 : 1 ≤ k) (hk : aft nxR k hs ≤ 1000000000) :
    Calls Try.prog 73 #[.slice A n c, .int .i64 (k : Int)] w fun e w' => e = .returned (.int .i64 ((aft nxR k hs : Nat) : Int)) ∧ Below w.heap.size w w' := by
  have HN := Lib.hid hn
  have HC0 := Lib.hid h
  clear h
  go_enter Try.func73, Try.ntmps73
  go_wp2
  go_loopw [1, 5] (fun x i wr => ∃ (ds rt : List RH) (q : Nat), Hid (hs = ds ++ rt) ∧ Hid (q = aft nxR k ds) ∧ 1 ≤ q ∧ x = .int .i64 (q : Int) ∧ i = .int .i64 ds.length ∧ Below w.heap.size w wr) (fun _ i _ => n - (intOf i).toNat)
  case atStart => exact ⟨[], hs, k, rfl, rfl, hk1, rfl, rfl, Below.refl _ _⟩
  case round =>
    obtain ⟨ds, rt, q, HS, HQ, hq1, rfl, rfl, hb⟩ := hrel
    have hlen : ds.length + rt.length = n := by rw [← HN.out, HS.out, List.length_append]
    obtain ⟨j, hj⟩ : ∃ j, j = ds.length := ⟨_, rfl⟩
    have HJ := Lib.hid hj
    rw [← hj] at hlen ⊢
    cases rt with
    | cons x t =>
      obtain ⟨up, su, Al, cl, es, rlo, rhi⟩ := x
      have haf : aft nxE (q + 1) es + 1 ≤ 1000000000 := by
        have h1 : aft nxR k hs = aft nxR (aft nxE (q + 1) es + 1) t := by rw [HS.out, aft_append, ← HQ.out]; rfl
        have h2 := aft_up (fun k x => Nat.le_trans (Nat.le_succ k) (nxR_up k x)) (aft nxE (q + 1) es + 1) t
        omega
      have hlt : j < n := by simp at hlen; omega
      have hjq : j ≤ q := by rw [HQ.out, HJ.out]; exact Nat.le_trans (Nat.le_add_left _ _) (aft_len nxR_up k ds)
      have hlm : j < (mkAll mkR nxR k hs).length := by rw [mkAll_len, HN.out]; exact hlt
      obtain ⟨b, off, rfl, hbB, hc⟩ := rp_get HC0.out (by omega)
      obtain ⟨hc0, hc1, hc2⟩ := hc j hlm
      have hv := HC0.out.at j hlm
      have e : (mkAll mkR nxR k hs)[j]'hlm = mkR q ⟨up, su, Al, cl, es, rlo, rhi⟩ := by
        have h1 := mkAll_at (mk := mkR) (nx := nxR) k ds t ⟨up, su, Al, cl, es, rlo, rhi⟩ j hj (by rw [← HS.out]; exact hlm)
        rw [← HQ.out] at h1
        simp only [← HS.out] at h1
        exact h1
      rw [e] at hc0 hc1 hc2 hv
      simp only [mkR, mStrs_len, mWrs_len, mkAll_len] at hc0 hc1 hc2
      have hbr : b < wr.heap.size := Nat.lt_of_lt_of_le hbB (Nat.le_trans hB hb.size)
      have p0 := (hb.cell (p := ⟨b, off + j * 3, none⟩) (Nat.lt_of_lt_of_le hbB hB)).trans hc0
      have p1 := (hb.cell (p := ⟨b, off + j * 3 + 1, none⟩) (Nat.lt_of_lt_of_le hbB hB)).trans hc1
      have p2 := (hb.cell (p := ⟨b, off + j * 3 + 2, none⟩) (Nat.lt_of_lt_of_le hbB hB)).trans hc2
      have hj0 : (0 : Int) ≤ (j : Int) := by omega
      have hj1 : (j : Int) < (n : Int) := by omega
      have hup := aft_up (fun k x => Nat.le_trans (Nat.le_succ k) (nxE_up k x)) (q + 1) es
      have hqb : q + 2 ≤ 1000000000 := by omega
      have HB := Lib.hid hb
      have hv2 : RowsB KE w B Al (mkAll mkE nxE (q + 1) es) := hv
      have HV := Lib.hid (heldEntryS_any Al es.length cl (q + 1) B es wr rfl (hv2.below (hb.mono hB)) (Nat.le_trans hB hb.size) (by omega) (by omega))
      rw [show ((q + 1 : Nat) : Int) = (q : Int) + 1 by omega] at HV
      obtain ⟨m, hm⟩ : ∃ m, m = aft nxE (q + 1) es := ⟨_, rfl⟩
      rw [← hm] at HV p2
      have hm0 : (0 : Int) ≤ (m : Int) := by omega
      have hmb : m + 1 ≤ 1000000000 := by omega
      have ht0 : ((q : Int) % 3 == 0) = thr (q : Int) := rfl
      have HM := Lib.hid hm
      obtain ⟨b0, hb0⟩ : ∃ b, b = thr (q : Int) := ⟨_, rfl⟩
      rw [← hb0] at p0 ht0
      clear hc hc0 hc1 hc2 hb hv hv2 e hlm hj hm hb0 hup
      go_wp2_with fail
      (with_reducible refine HV.out.mono ?_)
      rintro e w5 ⟨rfl, hb5⟩
      have y2 := (hb5.cell (p := ⟨b, off + j * 3 + 2, none⟩) hbr).trans p2
      have HB5 := Lib.hid (HB.out.trans (hb5.mono HB.out.size))
      clear hb5 p0 p1 p2
      go_wp2
      go_roundw
      case rel =>
        refine ⟨ds ++ [⟨up, su, Al, cl, es, rlo, rhi⟩], t, m + 1, ?_, ?_, by omega, ?_, ?_, HB5.out⟩
        · show _ = _; rw [HS.out]; simp
        · show _ = _; rw [aft_snoc, ← HQ.out, HM.out]; rfl
        · go_num
        · rw [List.length_append, ← HJ.out]; go_num
      case measure => simp [intOf]; omega
    | nil =>
      have hjn : j = n := by simpa using hlen
      subst hjn
      have HR := Lib.hid (show q = aft nxR k hs from by rw [HQ.out, HS.out, List.append_nil])
      clear hj
      go_wp2
      go_ret
      exact ⟨by rw [HR.out]; rfl, hb⟩

set_option maxHeartbeats 1000000 in
theorem heldGroup_any (A : Option Addr) (n c B : Nat) (tm ld : Int) (hs : List RH) (w : World) (hn : hs.length = n) (h : RowsB KR w B A (mkAll mkR nxR 1 hs)) (hB : B ≤ w.heap.size) (hk : aft nxR 1 hs ≤ 1000000000) :
    Calls Try.prog 33 #[.agg #[.slice A n c, .int .i64 tm, .int .i64 ld], .int .i64 1] w fun e w' => e = .returned (.int .i64 ((aft nxR 1 hs : Nat) : Int)) ∧ Below w.heap.size w w' := by
  have hb1 := below1 w (.cells #[.slice A n c, .int .i64 tm, .int .i64 ld] 45)
  have HM := Lib.hid (fun W (hW : Below w.heap.size w W) => heldReplicaS_any A n c 1 B hs W hn (h.below (hW.mono hB)) (Nat.le_trans hB hW.size) (Nat.le_refl _) hk)
  rw [show (((1 : Nat) : Int)) = 1 from rfl] at HM
  have HB1 := Lib.hid hb1
  obtain ⟨m, hm⟩ : ∃ m, m = aft nxR 1 hs := ⟨_, rfl⟩
  rw [← hm] at HM ⊢
  have hm0 : (0 : Int) ≤ (m : Int) := by omega
  clear h hn hb1 hm hk
  go_enter Try.func33, Try.ntmps33
  go_wp2_with fail
  refine (HM.out _ HB1.out).mono ?_
  rintro e w1 ⟨rfl, hb2⟩
  have HR := Lib.hid (HB1.out.trans (hb2.mono HB1.out.size))
  clear hb2
  go_wp2
  go_ret
  exact ⟨rfl, HR.out⟩

end Go.Proofs.Ytkhndofplebcaaa.Gr
