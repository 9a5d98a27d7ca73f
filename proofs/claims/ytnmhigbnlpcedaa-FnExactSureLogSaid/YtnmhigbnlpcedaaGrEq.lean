/-
  Contracts for the laws' helpers that compare groups of the same data: eqEntry, eqEntryS, eqReplica, eqReplicaS, eqGroup.
-/
import Derived.Test.YtnmhigbnlpcedaaGrMem
namespace Go.Proofs.Ytnmhigbnlpcedaa.Gr
open Go.RowKit CM
set_option linter.unusedVariables false
set_option linter.unusedSimpArgs false

set_option maxHeartbeats 2000000 in
theorem eqEntry_same (tm kk tt xx ll : Int) (yy : Bool) (Ar Ar' : Option Addr) (nr cr cr' : Nat) (rs : List ByteArray) (Aw Aw' : Option Addr) (nw cw cw' : Nat) (ws : List (ByteArray × ByteArray × Bool)) (B : Nat) (w : World) (hnr : rs.length = nr) (hr : StrsB w B Ar rs) (hr' : StrsB w B Ar' rs) (hnw : ws.length = nw) (hw : WritesB w B Aw ws) (hw' : WritesB w B Aw' ws) (hlr : nr ≤ 1048576) (hlw : nw ≤ 1048576) (hB : B ≤ w.heap.size) :
    Calls Try.prog 87 #[.agg #[.int .i64 tm, .int .i64 kk, .int .i64 tt, .int .i64 xx, .int .i64 ll, .slice Ar nr cr, .slice Aw nw cw, .bool yy], .agg #[.int .i64 tm, .int .i64 kk, .int .i64 tt, .int .i64 xx, .int .i64 ll, .slice Ar' nr cr', .slice Aw' nw cw', .bool yy]] w fun e w' => e = .returned (.bool true) ∧ Below w.heap.size w w' := by
  have HI := Lib.hid (fun W (hW : Below w.heap.size w W) => eqRec_same kk tt xx ll yy nr nw rs ws Ar Ar' Aw Aw' cr cr' cw cw' B W hnr (hr.below (hW.mono hB)) (hr'.below (hW.mono hB)) hnw (hw.below (hW.mono hB)) (hw'.below (hW.mono hB)) (Nat.le_trans hB hW.size) hlr hlw)
  have hb0 := below2 w (.cells #[.int .i64 tm, .int .i64 kk, .int .i64 tt, .int .i64 xx, .int .i64 ll, .slice Ar nr cr, .slice Aw nw cw, .bool yy] 78) (.cells #[.int .i64 tm, .int .i64 kk, .int .i64 tt, .int .i64 xx, .int .i64 ll, .slice Ar' nr cr', .slice Aw' nw cw', .bool yy] 78)
  clear hnr hr hr' hnw hw hw' hlr hlw hB
  go_enter Try.func87, Try.ntmps87
  go_wp2_with fail
  refine (HI.out _ hb0).mono ?_
  rintro e w1 ⟨rfl, hb1⟩
  have hb2 := hb0.trans (hb1.mono hb0.size)
  obtain ⟨hc, hf⟩ := bcell hb1
  have hz := hb1.size
  simp only [World.size_alloc] at hz hc hf
  have hz0 : w.heap.size < w1.heap.size := by omega
  have hz1 : w.heap.size + 1 < w1.heap.size := by omega
  clear hb0 hb1
  go_wp2
  go_ret
  exact ⟨rfl, hb2⟩

set_option maxRecDepth 100000 in
set_option maxHeartbeats 2000000 in
theorem eqEntryS_same (A A' : Option Addr) (n c c' : Nat) (hs gs : List EH) (B : Nat) (w : World) (hn : hs.length = n) (hd : gs.map EH.d = hs.map EH.d) (h : RowsB KE w B A hs) (h' : RowsB KE w B A' gs) (hB : B ≤ w.heap.size) (hm : LgSmall (hs.map EH.d)) :
    Calls Try.prog 40 #[.slice A n c, .slice A' n c'] w fun e w' => e = .returned (.bool true) ∧ Below w.heap.size w w' := by
  obtain ⟨hl, hms⟩ := hm
  have hge := Nat.le_of_eq hn
  have hle := Nat.le_of_eq hn.symm
  have hle2 : n ≤ gs.length := by rw [dats_len hd]; omega
  have hnl : n ≤ 1048576 := by simp at hl; omega
  have HS := Lib.hid h
  have HS' := Lib.hid h'
  have HDD := Lib.hid hd
  have HM := Lib.hid hms
  clear hn h h' hd hms hl
  go_enter Try.func40, Try.ntmps40
  go_wp2
  go_loopw [5] (fun i wr => ∃ k : Nat, k ≤ n ∧ i = .int .i64 k ∧ Below w.heap.size w wr) (fun i _ => n - (intOf i).toNat)
  case atStart => exact ⟨0, by omega, rfl, Below.refl _ _⟩
  case round =>
    obtain ⟨k, hk, rfl, hb⟩ := hrel
    by_cases hlt : k < n
    · obtain ⟨b, off, rfl, hbB, hc⟩ := en_get HS.out (by omega)
      obtain ⟨b', off', rfl, hbB', hc'⟩ := en_get HS'.out (by omega)
      obtain ⟨hc0, hc1, hc2, hc3, hc4, hc5, hc6, hc7⟩ := hc k (by omega)
      obtain ⟨hd0, hd1, hd2, hd3, hd4, hd5, hd6, hd7⟩ := hc' k (by omega)
      have hde := (dats_at HDD.out k (by omega) (by omega)).symm
      have c0 := (hb.cell (p := ⟨b, off + k * 8, none⟩) (Nat.lt_of_lt_of_le hbB hB)).trans hc0
      have c1 := (hb.cell (p := ⟨b, off + k * 8 + 1, none⟩) (Nat.lt_of_lt_of_le hbB hB)).trans hc1
      have c2 := (hb.cell (p := ⟨b, off + k * 8 + 2, none⟩) (Nat.lt_of_lt_of_le hbB hB)).trans hc2
      have c3 := (hb.cell (p := ⟨b, off + k * 8 + 3, none⟩) (Nat.lt_of_lt_of_le hbB hB)).trans hc3
      have c4 := (hb.cell (p := ⟨b, off + k * 8 + 4, none⟩) (Nat.lt_of_lt_of_le hbB hB)).trans hc4
      have c5 := (hb.cell (p := ⟨b, off + k * 8 + 5, none⟩) (Nat.lt_of_lt_of_le hbB hB)).trans hc5
      have c6 := (hb.cell (p := ⟨b, off + k * 8 + 6, none⟩) (Nat.lt_of_lt_of_le hbB hB)).trans hc6
      have c7 := (hb.cell (p := ⟨b, off + k * 8 + 7, none⟩) (Nat.lt_of_lt_of_le hbB hB)).trans hc7
      have d0 := (hb.cell (p := ⟨b', off' + k * 8, none⟩) (Nat.lt_of_lt_of_le hbB' hB)).trans hd0
      have d1 := (hb.cell (p := ⟨b', off' + k * 8 + 1, none⟩) (Nat.lt_of_lt_of_le hbB' hB)).trans hd1
      have d2 := (hb.cell (p := ⟨b', off' + k * 8 + 2, none⟩) (Nat.lt_of_lt_of_le hbB' hB)).trans hd2
      have d3 := (hb.cell (p := ⟨b', off' + k * 8 + 3, none⟩) (Nat.lt_of_lt_of_le hbB' hB)).trans hd3
      have d4 := (hb.cell (p := ⟨b', off' + k * 8 + 4, none⟩) (Nat.lt_of_lt_of_le hbB' hB)).trans hd4
      have d5 := (hb.cell (p := ⟨b', off' + k * 8 + 5, none⟩) (Nat.lt_of_lt_of_le hbB' hB)).trans hd5
      have d6 := (hb.cell (p := ⟨b', off' + k * 8 + 6, none⟩) (Nat.lt_of_lt_of_le hbB' hB)).trans hd6
      have d7 := (hb.cell (p := ⟨b', off' + k * 8 + 7, none⟩) (Nat.lt_of_lt_of_le hbB' hB)).trans hd7
      have hv := KE.rd_below (HS.out.at k (by omega)) (hb.mono hB)
      have hv' := KE.rd_below (HS'.out.at k (by omega)) (hb.mono hB)
      have hsm := HM.out (EH.d (hs[k]'(by omega))) (List.mem_map.2 ⟨_, List.getElem_mem (show k < hs.length by omega), rfl⟩)
      obtain ⟨x, hx⟩ : ∃ x, x = hs[k]'(by omega) := ⟨_, rfl⟩
      obtain ⟨y, hy⟩ : ∃ y, y = gs[k]'(by omega) := ⟨_, rfl⟩
      rw [← hx] at c0 c1 c2 c3 c4 c5 c6 c7 hv hsm hde
      rw [← hy] at d0 d1 d2 d3 d4 d5 d6 d7 hv' hde
      obtain ⟨⟨tm, kk, tt, xx, ll, yy, rs, ws⟩, Ar, cr, Aw, cw, elo, em, ehi⟩ := x
      obtain ⟨⟨tm2, kk2, tt2, xx2, ll2, yy2, rs2, ws2⟩, Ar2, cr2, Aw2, cw2, elo2, em2, ehi2⟩ := y
      simp only at c0 c1 c2 c3 c4 c5 c6 c7 d0 d1 d2 d3 d4 d5 d6 d7 hv hv' hsm hde
      simp only [ED.mk.injEq] at hde
      obtain ⟨rfl, rfl, rfl, rfl, rfl, rfl, rfl, rfl⟩ := hde
      have hk0 : (0 : Int) ≤ (k : Int) := by omega
      have hkn : (k : Int) < (n : Int) := by omega
      have hb1 : b < wr.heap.size := Nat.lt_of_lt_of_le hbB (Nat.le_trans hB hb.size)
      have hb2 : b' < wr.heap.size := Nat.lt_of_lt_of_le hbB' (Nat.le_trans hB hb.size)
      have HB := Lib.hid hb
      have HBr := Nat.le_trans hB hb.size
      have HCall := Lib.hid (eqEntry_same tm kk tt xx ll yy Ar Ar2 rs.length cr cr2 rs Aw Aw2 ws.length cw cw2 ws B wr.drew rfl hv.1 hv'.1 rfl hv.2 hv'.2 hsm.1.1 hsm.2.1 HBr)
      obtain ⟨nr, hvnr⟩ : ∃ nr, nr = rs.length := ⟨_, rfl⟩
      rw [← hvnr] at c5 d5 HCall
      obtain ⟨nw, hvnw⟩ : ∃ nw, nw = ws.length := ⟨_, rfl⟩
      rw [← hvnw] at c6 d6 HCall
      clear hc hc' hc0 hd0 hc1 hd1 hc2 hd2 hc3 hd3 hc4 hd4 hc5 hd5 hc6 hd6 hc7 hd7 hx hy hb hv hv' hsm HBr hvnr hvnw
      go_wp2_with fail
      go_region_held3 (fun w' => w'.cell? ⟨b, off + k * 8, none⟩ = some (.int .i64 tm) ∧ w'.cell? ⟨b, off + k * 8 + 1, none⟩ = some (.int .i64 kk) ∧ w'.cell? ⟨b, off + k * 8 + 2, none⟩ = some (.int .i64 tt) ∧ w'.cell? ⟨b, off + k * 8 + 3, none⟩ = some (.int .i64 xx) ∧ w'.cell? ⟨b, off + k * 8 + 4, none⟩ = some (.int .i64 ll) ∧ w'.cell? ⟨b, off + k * 8 + 5, none⟩ = some (.slice Ar nr cr) ∧ w'.cell? ⟨b, off + k * 8 + 6, none⟩ = some (.slice Aw nw cw) ∧ w'.cell? ⟨b, off + k * 8 + 7, none⟩ = some (.bool yy) ∧ w'.cell? ⟨b', off' + k * 8, none⟩ = some (.int .i64 tm) ∧ w'.cell? ⟨b', off' + k * 8 + 1, none⟩ = some (.int .i64 kk) ∧ w'.cell? ⟨b', off' + k * 8 + 2, none⟩ = some (.int .i64 tt) ∧ w'.cell? ⟨b', off' + k * 8 + 3, none⟩ = some (.int .i64 xx) ∧ w'.cell? ⟨b', off' + k * 8 + 4, none⟩ = some (.int .i64 ll) ∧ w'.cell? ⟨b', off' + k * 8 + 5, none⟩ = some (.slice Ar2 nr cr2) ∧ w'.cell? ⟨b', off' + k * 8 + 6, none⟩ = some (.slice Aw2 nw cw2) ∧ w'.cell? ⟨b', off' + k * 8 + 7, none⟩ = some (.bool yy))
        (first | exact ⟨c0, c1, c2, c3, c4, c5, c6, c7, d0, d1, d2, d3, d4, d5, d6, d7⟩ | (go_split_ands; exact ⟨kept2 hb4 c0 hb1, kept2 hb4 c1 hb1, kept2 hb4 c2 hb1, kept2 hb4 c3 hb1, kept2 hb4 c4 hb1, kept2 hb4 c5 hb1, kept2 hb4 c6 hb1, kept2 hb4 c7 hb1, kept2 hb4 d0 hb2, kept2 hb4 d1 hb2, kept2 hb4 d2 hb2, kept2 hb4 d3 hb2, kept2 hb4 d4 hb2, kept2 hb4 d5 hb2, kept2 hb4 d6 hb2, kept2 hb4 d7 hb2⟩))
        ((go_at_call 87; (with_reducible refine HCall.out.mono ?_); rintro e w4 ⟨rfl, hb4⟩))
      have HBB := Lib.hid (Below.trans (b := wr.drew) HB.out.drew (hb4.mono HB.out.size))
      clear hb4
      go_wp2
      go_roundw
      case rel => exact ⟨k + 1, by omega, by go_num, HBB.out⟩
      case measure => simp [intOf]; omega
    · go_wp2
      go_ret
      exact ⟨rfl, hb⟩

set_option maxHeartbeats 2000000 in
theorem eqReplica_same (up : Bool) (su : Int) (Al Al' : Option Addr) (nl cl cl' : Nat) (es es' : List EH) (B : Nat) (w : World) (hn : es.length = nl) (hd : es'.map EH.d = es.map EH.d) (h : RowsB KE w B Al es) (h' : RowsB KE w B Al' es') (hm : LgSmall (es.map EH.d)) (hB : B ≤ w.heap.size) :
    Calls Try.prog 93 #[.agg #[.bool up, .slice Al nl cl, .int .i64 su], .agg #[.bool up, .slice Al' nl cl', .int .i64 su]] w fun e w' => e = .returned (.bool true) ∧ Below w.heap.size w w' := by
  have HI := Lib.hid (fun W (hW : Below w.heap.size w W) => eqEntryS_same Al Al' nl cl cl' es es' B W hn hd (h.below (hW.mono hB)) (h'.below (hW.mono hB)) (Nat.le_trans hB hW.size) hm)
  have hb0 := below2 w (.cells #[.bool up, .slice Al nl cl, .int .i64 su] 59) (.cells #[.bool up, .slice Al' nl cl', .int .i64 su] 59)
  clear hn hd h h' hm hB
  go_enter Try.func93, Try.ntmps93
  go_wp2_with fail
  refine (HI.out _ hb0).mono ?_
  rintro e w1 ⟨rfl, hb1⟩
  have hb2 := hb0.trans (hb1.mono hb0.size)
  obtain ⟨hc, hf⟩ := bcell hb1
  have hz := hb1.size
  simp only [World.size_alloc] at hz hc hf
  have hz0 : w.heap.size < w1.heap.size := by omega
  have hz1 : w.heap.size + 1 < w1.heap.size := by omega
  clear hb0 hb1
  go_wp2
  go_ret
  exact ⟨rfl, hb2⟩

set_option maxRecDepth 100000 in
set_option maxHeartbeats 2000000 in
theorem eqReplicaS_same (A A' : Option Addr) (n c c' : Nat) (hs gs : List RH) (B : Nat) (w : World) (hn : hs.length = n) (hd : gs.map rdat = hs.map rdat) (h : RowsB KR w B A hs) (h' : RowsB KR w B A' gs) (hB : B ≤ w.heap.size) (hm : RpSmall (hs.map rdat)) :
    Calls Try.prog 47 #[.slice A n c, .slice A' n c'] w fun e w' => e = .returned (.bool true) ∧ Below w.heap.size w w' := by
  obtain ⟨hl, hms⟩ := hm
  have hge := Nat.le_of_eq hn
  have hle := Nat.le_of_eq hn.symm
  have hle2 : n ≤ gs.length := by rw [dats_len hd]; omega
  have hnl : n ≤ 1048576 := by simp at hl; omega
  have HS := Lib.hid h
  have HS' := Lib.hid h'
  have HDD := Lib.hid hd
  have HM := Lib.hid hms
  clear hn h h' hd hms hl
  go_enter Try.func47, Try.ntmps47
  go_wp2
  go_loopw [5] (fun i wr => ∃ k : Nat, k ≤ n ∧ i = .int .i64 k ∧ Below w.heap.size w wr) (fun i _ => n - (intOf i).toNat)
  case atStart => exact ⟨0, by omega, rfl, Below.refl _ _⟩
  case round =>
    obtain ⟨k, hk, rfl, hb⟩ := hrel
    by_cases hlt : k < n
    · obtain ⟨b, off, rfl, hbB, hc⟩ := rp_get HS.out (by omega)
      obtain ⟨b', off', rfl, hbB', hc'⟩ := rp_get HS'.out (by omega)
      obtain ⟨hc0, hc1, hc2⟩ := hc k (by omega)
      obtain ⟨hd0, hd1, hd2⟩ := hc' k (by omega)
      have hde := (dats_at HDD.out k (by omega) (by omega)).symm
      have c0 := (hb.cell (p := ⟨b, off + k * 3, none⟩) (Nat.lt_of_lt_of_le hbB hB)).trans hc0
      have c1 := (hb.cell (p := ⟨b, off + k * 3 + 1, none⟩) (Nat.lt_of_lt_of_le hbB hB)).trans hc1
      have c2 := (hb.cell (p := ⟨b, off + k * 3 + 2, none⟩) (Nat.lt_of_lt_of_le hbB hB)).trans hc2
      have d0 := (hb.cell (p := ⟨b', off' + k * 3, none⟩) (Nat.lt_of_lt_of_le hbB' hB)).trans hd0
      have d1 := (hb.cell (p := ⟨b', off' + k * 3 + 1, none⟩) (Nat.lt_of_lt_of_le hbB' hB)).trans hd1
      have d2 := (hb.cell (p := ⟨b', off' + k * 3 + 2, none⟩) (Nat.lt_of_lt_of_le hbB' hB)).trans hd2
      have hv := KR.rd_below (HS.out.at k (by omega)) (hb.mono hB)
      have hv' := KR.rd_below (HS'.out.at k (by omega)) (hb.mono hB)
      have hsm := HM.out (rdat (hs[k]'(by omega))) (List.mem_map.2 ⟨_, List.getElem_mem (show k < hs.length by omega), rfl⟩)
      obtain ⟨x, hx⟩ : ∃ x, x = hs[k]'(by omega) := ⟨_, rfl⟩
      obtain ⟨y, hy⟩ : ∃ y, y = gs[k]'(by omega) := ⟨_, rfl⟩
      rw [← hx] at c0 c1 c2 hv hsm hde
      rw [← hy] at d0 d1 d2 hv' hde
      obtain ⟨up, su, Al, cl, es, rlo, rhi⟩ := x
      obtain ⟨up2, su2, Al2, cl2, es2, rlo2, rhi2⟩ := y
      simp only at c0 c1 c2 d0 d1 d2 hv hv' hsm hde
      simp only [rdat, RD.mk.injEq] at hde
      obtain ⟨rfl, rfl, hde2⟩ := hde
      have hln := dats_len hde2.symm
      rw [hln] at d1
      have hk0 : (0 : Int) ≤ (k : Int) := by omega
      have hkn : (k : Int) < (n : Int) := by omega
      have hb1 : b < wr.heap.size := Nat.lt_of_lt_of_le hbB (Nat.le_trans hB hb.size)
      have hb2 : b' < wr.heap.size := Nat.lt_of_lt_of_le hbB' (Nat.le_trans hB hb.size)
      have HB := Lib.hid hb
      have HBr := Nat.le_trans hB hb.size
      have HCall := Lib.hid (eqReplica_same up su Al Al2 es.length cl cl2 es es2 B wr.drew rfl hde2.symm hv hv' hsm HBr)
      obtain ⟨nl, hvnl⟩ : ∃ nl, nl = es.length := ⟨_, rfl⟩
      rw [← hvnl] at c1 d1 HCall
      clear hc hc' hc0 hd0 hc1 hd1 hc2 hd2 hx hy hb hde2 hln hv hv' hsm HBr hvnl
      go_wp2_with fail
      go_region_held3 (fun w' => w'.cell? ⟨b, off + k * 3, none⟩ = some (.bool up) ∧ w'.cell? ⟨b, off + k * 3 + 1, none⟩ = some (.slice Al nl cl) ∧ w'.cell? ⟨b, off + k * 3 + 2, none⟩ = some (.int .i64 su) ∧ w'.cell? ⟨b', off' + k * 3, none⟩ = some (.bool up) ∧ w'.cell? ⟨b', off' + k * 3 + 1, none⟩ = some (.slice Al2 nl cl2) ∧ w'.cell? ⟨b', off' + k * 3 + 2, none⟩ = some (.int .i64 su))
        (first | exact ⟨c0, c1, c2, d0, d1, d2⟩ | (go_split_ands; exact ⟨kept2 hb4 c0 hb1, kept2 hb4 c1 hb1, kept2 hb4 c2 hb1, kept2 hb4 d0 hb2, kept2 hb4 d1 hb2, kept2 hb4 d2 hb2⟩))
        ((go_at_call 93; (with_reducible refine HCall.out.mono ?_); rintro e w4 ⟨rfl, hb4⟩))
      have HBB := Lib.hid (Below.trans (b := wr.drew) HB.out.drew (hb4.mono HB.out.size))
      clear hb4
      go_wp2
      go_roundw
      case rel => exact ⟨k + 1, by omega, by go_num, HBB.out⟩
      case measure => simp [intOf]; omega
    · go_wp2
      go_ret
      exact ⟨rfl, hb⟩

set_option maxHeartbeats 2000000 in
theorem eqGroup_same (A A' : Option Addr) (n c c' : Nat) (tm ld : Int) (hs gs : List RH) (B : Nat) (w : World) (hn : hs.length = n) (hd : gs.map rdat = hs.map rdat) (h : RowsB KR w B A hs) (h' : RowsB KR w B A' gs) (hm : RpSmall (hs.map rdat)) (hB : B ≤ w.heap.size) :
    Calls Try.prog 15 #[.agg #[.slice A n c, .int .i64 tm, .int .i64 ld], .agg #[.slice A' n c', .int .i64 tm, .int .i64 ld]] w fun e w' => e = .returned (.bool true) ∧ Below w.heap.size w w' := by
  have HI := Lib.hid (fun W (hW : Below w.heap.size w W) => eqReplicaS_same A A' n c c' hs gs B W hn hd (h.below (hW.mono hB)) (h'.below (hW.mono hB)) (Nat.le_trans hB hW.size) hm)
  have hb0 := below2 w (.cells #[.slice A n c, .int .i64 tm, .int .i64 ld] 24) (.cells #[.slice A' n c', .int .i64 tm, .int .i64 ld] 24)
  clear hn hd h h' hm hB
  go_enter Try.func15, Try.ntmps15
  go_wp2_with fail
  refine (HI.out _ hb0).mono ?_
  rintro e w1 ⟨rfl, hb1⟩
  have hb2 := hb0.trans (hb1.mono hb0.size)
  obtain ⟨hc, hf⟩ := bcell hb1
  have hz := hb1.size
  simp only [World.size_alloc] at hz hc hf
  have hz0 : w.heap.size < w1.heap.size := by omega
  have hz1 : w.heap.size + 1 < w1.heap.size := by omega
  clear hb0 hb1
  go_wp2
  go_ret
  exact ⟨rfl, hb2⟩
end Go.Proofs.Ytnmhigbnlpcedaa.Gr
