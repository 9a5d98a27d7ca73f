/-
  Contracts for the laws' helpers that copy groups: toEntry, toEntryS, toReplica, toReplicaS, toGroup.
-/
import Derived.Test.YtnmhigbnlpcedaaGrMem
namespace Go.Proofs.Ytnmhigbnlpcedaa.Gr
open Go.RowKit CM
set_option linter.unusedVariables false
set_option linter.unusedSimpArgs false

def ToEPost (tm kk tt xx ll : Int) (yy : Bool) (rs : List ByteArray) (ws : List (ByteArray × ByteArray × Bool)) (w : World) (e : Ending) (w' : World) : Prop :=
  ∃ Ar2 cr2 Aw2 cw2 lo2 m2 hi2, e = .returned (.agg #[.int .i64 tm, .int .i64 kk, .int .i64 tt, .int .i64 xx, .int .i64 ll, .slice Ar2 rs.length cr2, .slice Aw2 ws.length cw2, .bool yy]) ∧ EnO w' ⟨⟨tm, kk, tt, xx, ll, yy, rs, ws⟩, Ar2, cr2, Aw2, cw2, lo2, m2, hi2⟩ ∧ w.heap.size ≤ lo2 ∧ hi2 ≤ w'.heap.size ∧ Below w.heap.size w w'
set_option maxRecDepth 100000 in
set_option maxHeartbeats 2000000 in
theorem toEntry_any (tm kk tt xx ll : Int) (yy : Bool) (Ar : Option Addr) (nr cr : Nat) (rs : List ByteArray) (Aw : Option Addr) (nw cw : Nat) (ws : List (ByteArray × ByteArray × Bool)) (B : Nat) (w : World) (hnr : rs.length = nr) (hr : StrsB w B Ar rs) (hnw : ws.length = nw) (hw : WritesB w B Aw ws) (hB : B ≤ w.heap.size) (hlr : nr ≤ 1048576) (hlw : nw ≤ 1048576) :
    Calls Try.prog 137 #[.agg #[.int .i64 tm, .int .i64 kk, .int .i64 tt, .int .i64 xx, .int .i64 ll, .slice Ar nr cr, .slice Aw nw cw, .bool yy]] w (ToEPost tm kk tt xx ll yy rs ws w) := by
  have HR := Lib.hid (fun W (hW : Below w.heap.size w W) => toRec_any kk tt xx ll yy Ar nr cr rs Aw nw cw ws B W hnr (hr.below (hW.mono hB)) hnw (hw.below (hW.mono hB)) (Nat.le_trans hB hW.size) hlr hlw)
  unfold ToEPost
  rw [hnr, hnw]
  clear hr hw hnr hnw hB hlr hlw
  go_enter Try.func137, Try.ntmps137
  go_wp2_with fail
  have hb0 := below3 w (.cells #[.int .i64 tm, .int .i64 kk, .int .i64 tt, .int .i64 xx, .int .i64 ll, .slice Ar nr cr, .slice Aw nw cw, .bool yy] 137) (.cells #[.int .i64 0, .int .i64 0, .int .i64 0, .int .i64 0, .int .i64 0, .slice none 0 0, .slice none 0 0, .bool false] 78) (.cells #[.int .i64 tm, .int .i64 0, .int .i64 0, .int .i64 0, .int .i64 0, .slice none 0 0, .slice none 0 0, .bool false] 78)
  refine (HR.out _ hb0).mono ?_
  rintro e w1 ⟨g1, g2, m, rfl, ho1, ho2, hm1, hm2, hb1⟩
  have HB1 := Lib.hid (hb0.trans (hb1.mono hb0.size))
  obtain ⟨hc, hf⟩ := bcell hb1
  have hz := hb1.size
  simp only [World.size_alloc] at hz hc hf ho1 hm1
  have hz0 : w.heap.size < w1.heap.size := by omega
  have hz1 : w.heap.size + 1 < w1.heap.size := by omega
  have hz2 : w.heap.size + 1 + 1 < w1.heap.size := by omega
  have HO := Lib.hid (show EnO w1 ⟨⟨tm, kk, tt, xx, ll, yy, rs, ws⟩, some ⟨g1, 0, none⟩, nr, some ⟨g2, 0, none⟩, nw, w.heap.size + 1 + 1 + 1, m, w1.heap.size⟩ from ⟨hm1, hm2, ho1, ho2⟩)
  clear hb0 hb1 ho1 ho2 hm1 hm2
  go_wp2
  exact bodyPost_ret (v := .agg #[.int .i64 tm, .int .i64 kk, .int .i64 tt, .int .i64 xx, .int .i64 ll, .slice (some ⟨g1, 0, none⟩) nr nr, .slice (some ⟨g2, 0, none⟩) nw nw, .bool yy]) (by simp [results, Try.results137, go_sem, hc, hf, hz1]) rfl ⟨some ⟨g1, 0, none⟩, nr, some ⟨g2, 0, none⟩, nw, w.heap.size + 1 + 1 + 1, m, w1.heap.size, rfl,
    KE.ow_keep (x := ⟨⟨tm, kk, tt, xx, ll, yy, rs, ws⟩, some ⟨g1, 0, none⟩, nr, some ⟨g2, 0, none⟩, nw, w.heap.size + 1 + 1 + 1, m, w1.heap.size⟩) HO.out ((keep_putN (w := w1) (g := w.heap.size + 1 + 1) (.inl (Nat.lt_succ_self _)) 1 [.int .i64 kk, .int .i64 tt, .int .i64 xx, .int .i64 ll, .slice (some ⟨g1, 0, none⟩) nr nr, .slice (some ⟨g2, 0, none⟩) nw nw, .bool yy]).trans (keep_putN (g := w.heap.size + 1) (.inl (show w.heap.size + 1 < w.heap.size + 1 + 1 + 1 by omega)) 0 [.int .i64 tm, .int .i64 kk, .int .i64 tt, .int .i64 xx, .int .i64 ll, .slice (some ⟨g1, 0, none⟩) nr nr, .slice (some ⟨g2, 0, none⟩) nw nw, .bool yy]) (Nat.le_of_eq (putN_size _ _ _ _).symm)),
    by omega, by simp [World.setCell], below_putN (below_putN (g := w.heap.size + 1 + 1) HB1.out (by omega) 1 [.int .i64 kk, .int .i64 tt, .int .i64 xx, .int .i64 ll, .slice (some ⟨g1, 0, none⟩) nr nr, .slice (some ⟨g2, 0, none⟩) nw nw, .bool yy]) (g := w.heap.size + 1) (by omega) 0 [.int .i64 tm, .int .i64 kk, .int .i64 tt, .int .i64 xx, .int .i64 ll, .slice (some ⟨g1, 0, none⟩) nr nr, .slice (some ⟨g2, 0, none⟩) nw nw, .bool yy]⟩

/-- What toEntryS hands back: the same data, in blocks of their own. -/
def ToEntrySPost (hs : List EH) (n : Nat) (w : World) (e : Ending) (w' : World) : Prop :=
  ∃ (g : Nat) (gs : List EH), e = .returned (.slice (some ⟨g, 0, none⟩) n n) ∧ gs.map EH.d = hs.map EH.d ∧ OwnK KE w' w.heap.size w'.heap.size (some ⟨g, 0, none⟩) n gs ∧ Below w.heap.size w w'
set_option maxRecDepth 100000 in
set_option maxHeartbeats 1000000 in
theorem toEntryS_any (A : Option Addr) (n c : Nat) (hs : List EH) (B : Nat) (w : World) (hn : hs.length = n) (h : RowsB KE w B A hs) (hB : B ≤ w.heap.size) (hm : LgSmall (hs.map EH.d)) :
    Calls Try.prog 118 #[.slice A n c] w (ToEntrySPost hs n w) := by
  obtain ⟨i0, hi, hz0, hz1, hz2⟩ := info_parts infoEnt
  obtain ⟨hl, hms⟩ := hm
  have HN := Lib.hid hn
  have hge := Nat.le_of_eq hn
  have hle := Nat.le_of_eq hn.symm
  have hnl : n ≤ 1048576 := by simp at hl; omega
  have HS := Lib.hid h
  have HM := Lib.hid hms
  clear hn h hms hl
  go_enter Try.func118, Try.ntmps118
  go_wp2_with (at_make; refine wpList_make_full _ rfl (.tmp 6) (.tmp 6) 53 rfl w.heap.size 78 i0 _ 8 Try.underlying53 hi hz0 hz1 .i64 .i64 _ _ n rfl rfl rfl rfl (by rw [hz2]; omega) (by unfold maxLen; omega) (Nat.le_refl _) ?_; intro w1 hown hgr)
  have hb1 : Below w.heap.size w w1 := (Below.refl _ _).grown hgr (Nat.le_refl _) (by simp)
  have hf0 := fill_made (by omega) hown
  clear hown hgr
  go_loopw [4] (fun i wr => ∃ (k : Nat) (gs : List EH), k ≤ n ∧ i = .int .i64 k ∧ Hid (gs.length = k) ∧ Hid (gs.map EH.d = (hs.map EH.d).take k) ∧ Fill wr w.heap.size n 8 78 (gs.map KE.cs) k ∧ Nst KE wr (w.heap.size + 1) wr.heap.size (some ⟨w.heap.size, 0, none⟩) gs ∧ Below w.heap.size w wr) (fun i _ => n - (intOf i).toNat)
  case atStart => exact ⟨0, [], by omega, rfl, rfl, by simp [Hid], by simpa using hf0, Nst.nil, hb1⟩
  case round =>
    clear hf0 hb1
    obtain ⟨k, gs, hk, rfl, HGL, HGD, hf, hv, hb⟩ := hrel
    by_cases hlt : k < n
    · obtain ⟨b, off, rfl, hbB, hc⟩ := en_get HS.out (by omega)
      obtain ⟨hc0, hc1, hc2, hc3, hc4, hc5, hc6, hc7⟩ := hc k (by omega)
      have c0 := (hb.cell (p := ⟨b, off + k * 8, none⟩) (Nat.lt_of_lt_of_le hbB hB)).trans hc0
      have c1 := (hb.cell (p := ⟨b, off + k * 8 + 1, none⟩) (Nat.lt_of_lt_of_le hbB hB)).trans hc1
      have c2 := (hb.cell (p := ⟨b, off + k * 8 + 2, none⟩) (Nat.lt_of_lt_of_le hbB hB)).trans hc2
      have c3 := (hb.cell (p := ⟨b, off + k * 8 + 3, none⟩) (Nat.lt_of_lt_of_le hbB hB)).trans hc3
      have c4 := (hb.cell (p := ⟨b, off + k * 8 + 4, none⟩) (Nat.lt_of_lt_of_le hbB hB)).trans hc4
      have c5 := (hb.cell (p := ⟨b, off + k * 8 + 5, none⟩) (Nat.lt_of_lt_of_le hbB hB)).trans hc5
      have c6 := (hb.cell (p := ⟨b, off + k * 8 + 6, none⟩) (Nat.lt_of_lt_of_le hbB hB)).trans hc6
      have c7 := (hb.cell (p := ⟨b, off + k * 8 + 7, none⟩) (Nat.lt_of_lt_of_le hbB hB)).trans hc7
      have hrd := KE.rd_below (HS.out.at k (by omega)) (hb.mono hB)
      have HD1 := Lib.hid (fun (x2 : EH) (hx2 : EH.d x2 = EH.d (hs[k]'(by omega))) => take_dats HGD.out (show k < hs.length by omega) x2 hx2)
      have hsm := HM.out (EH.d (hs[k]'(by omega))) (List.mem_map.2 ⟨_, List.getElem_mem (show k < hs.length by omega), rfl⟩)
      obtain ⟨y, hy⟩ : ∃ y, y = hs[k]'(by omega) := ⟨_, rfl⟩
      rw [← hy] at c0 c1 c2 c3 c4 c5 c6 c7 hrd HD1 hsm
      obtain ⟨⟨tm, kk, tt, xx, ll, yy, rs, ws⟩, Ar, cr, Aw, cw, elo, em, ehi⟩ := y
      simp only at c0 c1 c2 c3 c4 c5 c6 c7 hrd hsm
      have HBr := Nat.le_trans hB hb.size
      have HC := Lib.hid (toEntry_any tm kk tt xx ll yy Ar rs.length cr rs Aw ws.length cw ws B wr rfl hrd.1 rfl hrd.2 HBr hsm.1.1 hsm.2.1)
      have HF := Lib.hid hf
      have HB := Lib.hid hb
      have HVO := Lib.hid hv
      have hgw := hf.lt
      clear hc hc0 hc1 hc2 hc3 hc4 hc5 hc6 hc7 hy hf hb hv hsm hrd HBr
      go_wp2_with fail
      refine HC.out.mono ?_
      rintro e w4 ⟨Ar2, cr2, Aw2, cw2, lo2, m2, hi2, rfl, how2, hlo2, hhi2, hb4⟩
      have hf := HF.out.below hb4
      have HST := Lib.hid (Fill.snocK (K := KE) (w := w4) (g := w.heap.size) (n := n) (k := k) (t := 78) (xs := gs) hf HGL.out hlt ⟨⟨tm, kk, tt, xx, ll, yy, rs, ws⟩, Ar2, cr2, Aw2, cw2, lo2, m2, hi2⟩)
      obtain ⟨v0, hv0⟩ := hf.cell (k * 8) (by omega)
      have hfr0 := hf.free (k * 8)
      obtain ⟨v1, hv1⟩ := hf.cell (k * 8 + 1) (by omega)
      have hfr1 := hf.free (k * 8 + 1)
      obtain ⟨v2, hv2⟩ := hf.cell (k * 8 + 2) (by omega)
      have hfr2 := hf.free (k * 8 + 2)
      obtain ⟨v3, hv3⟩ := hf.cell (k * 8 + 3) (by omega)
      have hfr3 := hf.free (k * 8 + 3)
      obtain ⟨v4, hv4⟩ := hf.cell (k * 8 + 4) (by omega)
      have hfr4 := hf.free (k * 8 + 4)
      obtain ⟨v5, hv5⟩ := hf.cell (k * 8 + 5) (by omega)
      have hfr5 := hf.free (k * 8 + 5)
      obtain ⟨v6, hv6⟩ := hf.cell (k * 8 + 6) (by omega)
      have hfr6 := hf.free (k * 8 + 6)
      obtain ⟨v7, hv7⟩ := hf.cell (k * 8 + 7) (by omega)
      have hfr7 := hf.free (k * 8 + 7)
      have HB4 := Lib.hid (HB.out.trans (hb4.mono HB.out.size))
      have HVN := Lib.hid ((HVO.out.since hb4).snoc ⟨⟨tm, kk, tt, xx, ll, yy, rs, ws⟩, Ar2, cr2, Aw2, cw2, lo2, m2, hi2⟩ how2 hlo2 hhi2 (by omega) (fun p hp => by injection hp with hp; subst hp; exact Nat.lt_succ_self _))
      clear hf hb4 c0 c1 c2 c3 c4 c5 c6 c7 how2 hlo2 hhi2
      go_wp2
      go_roundw
      case rel =>
        refine ⟨k + 1, gs ++ [(⟨⟨tm, kk, tt, xx, ll, yy, rs, ws⟩, Ar2, cr2, Aw2, cw2, lo2, m2, hi2⟩ : EH)], by omega, by go_num, ?_, HD1.out _ (rfl), HST.out, ?_, below_putN HB4.out (Nat.le_refl _) (k * 8) (KE.cs ⟨⟨tm, kk, tt, xx, ll, yy, rs, ws⟩, Ar2, cr2, Aw2, cw2, lo2, m2, hi2⟩)⟩
        · show _ = _
          rw [List.length_append, HGL.out]; rfl
        · have h1 := HVN.out.keep (keep_putN (w := w4) (g := w.heap.size) (.inl (Nat.lt_succ_self _)) (k * 8) (KE.cs ⟨⟨tm, kk, tt, xx, ll, yy, rs, ws⟩, Ar2, cr2, Aw2, cw2, lo2, m2, hi2⟩))
          have h2 := putN_size w4 w.heap.size (k * 8) (KE.cs ⟨⟨tm, kk, tt, xx, ll, yy, rs, ws⟩, Ar2, cr2, Aw2, cw2, lo2, m2, hi2⟩)
          rw [← h2] at h1
          exact h1
      case measure => simp [intOf]; omega
    · have hkn : k = n := by omega
      subst hkn
      have hd := HGD.out
      rw [List.take_of_length_le (by simp; omega)] at hd
      have HD2 := Lib.hid hd
      clear hd
      go_wp2
      go_ret
      exact ⟨w.heap.size, gs, rfl, HD2.out, ⟨Fill.own (by rw [List.length_map, HGL.out]; exact hf) (by rw [List.length_map]; exact HGL.out) (by unfold maxLen; omega) (Nat.le_refl _) hf.lt, hv.wider (by omega) (Nat.le_refl _)⟩, hb⟩

def ToRpPost (up : Bool) (su : Int) (es : List EH) (w : World) (e : Ending) (w' : World) : Prop :=
  ∃ A2 c2 es2 lo2 hi2, e = .returned (.agg #[.bool up, .slice A2 es2.length c2, .int .i64 su]) ∧ es2.map EH.d = es.map EH.d ∧ KR.ow w' ⟨up, su, A2, c2, es2, lo2, hi2⟩ ∧ w.heap.size ≤ lo2 ∧ hi2 ≤ w'.heap.size ∧ Below w.heap.size w w'
set_option maxRecDepth 100000 in
set_option maxHeartbeats 2000000 in
theorem toReplica_any (up : Bool) (su : Int) (Al : Option Addr) (nl cl : Nat) (es : List EH) (B : Nat) (w : World) (hn : es.length = nl) (h : RowsB KE w B Al es) (hB : B ≤ w.heap.size) (hm : LgSmall (es.map EH.d)) :
    Calls Try.prog 95 #[.agg #[.bool up, .slice Al nl cl, .int .i64 su]] w (ToRpPost up su es w) := by
  have HR := Lib.hid (fun W (hW : Below w.heap.size w W) => toEntryS_any Al nl cl es B W hn (h.below (hW.mono hB)) (Nat.le_trans hB hW.size) hm)
  have HN := Lib.hid hn
  clear h hn hB hm
  go_enter Try.func95, Try.ntmps95
  go_wp2_with fail
  have hb0 := below3 w (.cells #[.bool up, .slice Al nl cl, .int .i64 su] 97) (.cells #[.bool false, .slice none 0 0, .int .i64 0] 59) (.cells #[.bool up, .slice none 0 0, .int .i64 0] 59)
  refine (HR.out _ hb0).mono ?_
  rintro e w1 ⟨g1, gs, rfl, hgd, ho1, hb1⟩
  have HB1 := Lib.hid (hb0.trans (hb1.mono hb0.size))
  obtain ⟨hc, hf⟩ := bcell hb1
  have hz := hb1.size
  simp only [World.size_alloc] at hz hc hf ho1
  have hz0 : w.heap.size < w1.heap.size := by omega
  have hz1 : w.heap.size + 1 < w1.heap.size := by omega
  have hz2 : w.heap.size + 1 + 1 < w1.heap.size := by omega
  have HO := Lib.hid (show KR.ow w1 ⟨up, su, some ⟨g1, 0, none⟩, nl, gs, w.heap.size + 1 + 1 + 1, w1.heap.size⟩ from ⟨by show w.heap.size + 1 + 1 + 1 ≤ w1.heap.size; omega, ho1⟩)
  have HGD := Lib.hid hgd
  have HGL := Lib.hid (show gs.length = nl by rw [dats_len hgd]; exact HN.out)
  clear hb0 hb1 ho1 hgd
  go_wp2
  exact bodyPost_ret (v := .agg #[.bool up, .slice (some ⟨g1, 0, none⟩) nl nl, .int .i64 su]) (by simp [results, Try.results95, go_sem, hc, hf, hz1]) rfl ⟨some ⟨g1, 0, none⟩, nl, gs, w.heap.size + 1 + 1 + 1, w1.heap.size, by rw [HGL.out], HGD.out,
    KR.ow_keep (x := ⟨up, su, some ⟨g1, 0, none⟩, nl, gs, w.heap.size + 1 + 1 + 1, w1.heap.size⟩) HO.out ((keep_putN (w := w1) (g := w.heap.size + 1 + 1) (.inl (Nat.lt_succ_self _)) 1 [.slice (some ⟨g1, 0, none⟩) nl nl, .int .i64 su]).trans (keep_putN (g := w.heap.size + 1) (.inl (show w.heap.size + 1 < w.heap.size + 1 + 1 + 1 by omega)) 0 [.bool up, .slice (some ⟨g1, 0, none⟩) nl nl, .int .i64 su]) (Nat.le_of_eq (putN_size _ _ _ _).symm)),
    by omega, by simp [World.setCell], below_putN (below_putN (g := w.heap.size + 1 + 1) HB1.out (by omega) 1 [.slice (some ⟨g1, 0, none⟩) nl nl, .int .i64 su]) (g := w.heap.size + 1) (by omega) 0 [.bool up, .slice (some ⟨g1, 0, none⟩) nl nl, .int .i64 su]⟩

/-- What toReplicaS hands back: the same data, in blocks of their own. -/
def ToReplicaSPost (hs : List RH) (n : Nat) (w : World) (e : Ending) (w' : World) : Prop :=
  ∃ (g : Nat) (gs : List RH), e = .returned (.slice (some ⟨g, 0, none⟩) n n) ∧ gs.map rdat = hs.map rdat ∧ OwnK KR w' w.heap.size w'.heap.size (some ⟨g, 0, none⟩) n gs ∧ Below w.heap.size w w'
set_option maxRecDepth 100000 in
set_option maxHeartbeats 1000000 in
theorem toReplicaS_any (A : Option Addr) (n c : Nat) (hs : List RH) (B : Nat) (w : World) (hn : hs.length = n) (h : RowsB KR w B A hs) (hB : B ≤ w.heap.size) (hm : RpSmall (hs.map rdat)) :
    Calls Try.prog 53 #[.slice A n c] w (ToReplicaSPost hs n w) := by
  obtain ⟨i0, hi, hz0, hz1, hz2⟩ := info_parts infoRep
  obtain ⟨hl, hms⟩ := hm
  have HN := Lib.hid hn
  have hge := Nat.le_of_eq hn
  have hle := Nat.le_of_eq hn.symm
  have hnl : n ≤ 1048576 := by simp at hl; omega
  have HS := Lib.hid h
  have HM := Lib.hid hms
  clear hn h hms hl
  go_enter Try.func53, Try.ntmps53
  go_wp2_with (at_make; refine wpList_make_full _ rfl (.tmp 6) (.tmp 6) 22 rfl w.heap.size 59 i0 _ 3 Try.underlying22 hi hz0 hz1 .i64 .i64 _ _ n rfl rfl rfl rfl (by rw [hz2]; omega) (by unfold maxLen; omega) (Nat.le_refl _) ?_; intro w1 hown hgr)
  have hb1 : Below w.heap.size w w1 := (Below.refl _ _).grown hgr (Nat.le_refl _) (by simp)
  have hf0 := fill_made (by omega) hown
  clear hown hgr
  go_loopw [4] (fun i wr => ∃ (k : Nat) (gs : List RH), k ≤ n ∧ i = .int .i64 k ∧ Hid (gs.length = k) ∧ Hid (gs.map rdat = (hs.map rdat).take k) ∧ Fill wr w.heap.size n 3 59 (gs.map KR.cs) k ∧ Nst KR wr (w.heap.size + 1) wr.heap.size (some ⟨w.heap.size, 0, none⟩) gs ∧ Below w.heap.size w wr) (fun i _ => n - (intOf i).toNat)
  case atStart => exact ⟨0, [], by omega, rfl, rfl, by simp [Hid], by simpa using hf0, Nst.nil, hb1⟩
  case round =>
    clear hf0 hb1
    obtain ⟨k, gs, hk, rfl, HGL, HGD, hf, hv, hb⟩ := hrel
    by_cases hlt : k < n
    · obtain ⟨b, off, rfl, hbB, hc⟩ := rp_get HS.out (by omega)
      obtain ⟨hc0, hc1, hc2⟩ := hc k (by omega)
      have c0 := (hb.cell (p := ⟨b, off + k * 3, none⟩) (Nat.lt_of_lt_of_le hbB hB)).trans hc0
      have c1 := (hb.cell (p := ⟨b, off + k * 3 + 1, none⟩) (Nat.lt_of_lt_of_le hbB hB)).trans hc1
      have c2 := (hb.cell (p := ⟨b, off + k * 3 + 2, none⟩) (Nat.lt_of_lt_of_le hbB hB)).trans hc2
      have hrd := KR.rd_below (HS.out.at k (by omega)) (hb.mono hB)
      have HD1 := Lib.hid (fun (x2 : RH) (hx2 : rdat x2 = rdat (hs[k]'(by omega))) => take_dats HGD.out (show k < hs.length by omega) x2 hx2)
      have hsm := HM.out (rdat (hs[k]'(by omega))) (List.mem_map.2 ⟨_, List.getElem_mem (show k < hs.length by omega), rfl⟩)
      obtain ⟨y, hy⟩ : ∃ y, y = hs[k]'(by omega) := ⟨_, rfl⟩
      rw [← hy] at c0 c1 c2 hrd HD1 hsm
      obtain ⟨up, su, Al, cl, es, rlo, rhi⟩ := y
      simp only at c0 c1 c2 hrd hsm
      have HBr := Nat.le_trans hB hb.size
      have HC := Lib.hid (toReplica_any up su Al es.length cl es B wr rfl hrd HBr hsm)
      have HF := Lib.hid hf
      have HB := Lib.hid hb
      have HVO := Lib.hid hv
      have hgw := hf.lt
      clear hc hc0 hc1 hc2 hy hf hb hv hsm hrd HBr
      go_wp2_with fail
      refine HC.out.mono ?_
      rintro e w4 ⟨A2, cp2, es2, lo2, hi2, rfl, hes2, how2, hlo2, hhi2, hb4⟩
      have hf := HF.out.below hb4
      have HST := Lib.hid (Fill.snocK (K := KR) (w := w4) (g := w.heap.size) (n := n) (k := k) (t := 59) (xs := gs) hf HGL.out hlt ⟨up, su, A2, cp2, es2, lo2, hi2⟩)
      obtain ⟨v0, hv0⟩ := hf.cell (k * 3) (by omega)
      have hfr0 := hf.free (k * 3)
      obtain ⟨v1, hv1⟩ := hf.cell (k * 3 + 1) (by omega)
      have hfr1 := hf.free (k * 3 + 1)
      obtain ⟨v2, hv2⟩ := hf.cell (k * 3 + 2) (by omega)
      have hfr2 := hf.free (k * 3 + 2)
      have HB4 := Lib.hid (HB.out.trans (hb4.mono HB.out.size))
      have HVN := Lib.hid ((HVO.out.since hb4).snoc ⟨up, su, A2, cp2, es2, lo2, hi2⟩ how2 hlo2 hhi2 (by omega) (fun p hp => by injection hp with hp; subst hp; exact Nat.lt_succ_self _))
      have HX2 := Lib.hid hes2
      clear hf hb4 c0 c1 c2 how2 hlo2 hhi2 hes2
      go_wp2
      go_roundw
      case rel =>
        refine ⟨k + 1, gs ++ [(⟨up, su, A2, cp2, es2, lo2, hi2⟩ : RH)], by omega, by go_num, ?_, HD1.out _ (by simp only [rdat, HX2.out]), HST.out, ?_, below_putN HB4.out (Nat.le_refl _) (k * 3) (KR.cs ⟨up, su, A2, cp2, es2, lo2, hi2⟩)⟩
        · show _ = _
          rw [List.length_append, HGL.out]; rfl
        · have h1 := HVN.out.keep (keep_putN (w := w4) (g := w.heap.size) (.inl (Nat.lt_succ_self _)) (k * 3) (KR.cs ⟨up, su, A2, cp2, es2, lo2, hi2⟩))
          have h2 := putN_size w4 w.heap.size (k * 3) (KR.cs ⟨up, su, A2, cp2, es2, lo2, hi2⟩)
          rw [← h2] at h1
          exact h1
      case measure => simp [intOf]; omega
    · have hkn : k = n := by omega
      subst hkn
      have hd := HGD.out
      rw [List.take_of_length_le (by simp; omega)] at hd
      have HD2 := Lib.hid hd
      clear hd
      go_wp2
      go_ret
      exact ⟨w.heap.size, gs, rfl, HD2.out, ⟨Fill.own (by rw [List.length_map, HGL.out]; exact hf) (by rw [List.length_map]; exact HGL.out) (by unfold maxLen; omega) (Nat.le_refl _) hf.lt, hv.wider (by omega) (Nat.le_refl _)⟩, hb⟩

def ToGPost (hs : List RH) (n : Nat) (tm ld : Int) (w : World) (e : Ending) (w' : World) : Prop :=
  ∃ (g : Nat) (gs : List RH), e = .returned (.agg #[.slice (some ⟨g, 0, none⟩) n n, .int .i64 tm, .int .i64 ld]) ∧ gs.map rdat = hs.map rdat ∧ OwnK KR w' w.heap.size w'.heap.size (some ⟨g, 0, none⟩) n gs ∧ Below w.heap.size w w'
set_option maxRecDepth 100000 in
set_option maxHeartbeats 2000000 in
theorem toGroup_any (A : Option Addr) (n c : Nat) (tm ld : Int) (hs : List RH) (B : Nat) (w : World) (hn : hs.length = n) (h : RowsB KR w B A hs) (hB : B ≤ w.heap.size) (hm : RpSmall (hs.map rdat)) :
    Calls Try.prog 20 #[.agg #[.slice A n c, .int .i64 tm, .int .i64 ld]] w (ToGPost hs n tm ld w) := by
  have HR := Lib.hid (fun W (hW : Below w.heap.size w W) => toReplicaS_any A n c hs B W hn (h.below (hW.mono hB)) (Nat.le_trans hB hW.size) hm)
  clear h hn hB hm
  go_enter Try.func20, Try.ntmps20
  go_wp2_with fail
  have hb0 := below3 w (.cells #[.slice A n c, .int .i64 tm, .int .i64 ld] 32) (.cells #[.slice none 0 0, .int .i64 0, .int .i64 0] 24) (.cells #[.slice none 0 0, .int .i64 0, .int .i64 0] 24)
  refine (HR.out _ hb0).mono ?_
  rintro e w1 ⟨g1, gs, rfl, hgd, ho1, hb1⟩
  have HB1 := Lib.hid (hb0.trans (hb1.mono hb0.size))
  obtain ⟨hc, hf⟩ := bcell hb1
  have hz := hb1.size
  simp only [World.size_alloc] at hz hc hf ho1
  have hz0 : w.heap.size < w1.heap.size := by omega
  have hz1 : w.heap.size + 1 < w1.heap.size := by omega
  have hz2 : w.heap.size + 1 + 1 < w1.heap.size := by omega
  have HO := Lib.hid ho1
  have HGD := Lib.hid hgd
  clear hb0 hb1 ho1 hgd
  go_wp2
  exact bodyPost_ret (v := .agg #[.slice (some ⟨g1, 0, none⟩) n n, .int .i64 tm, .int .i64 ld]) (by simp [results, Try.results20, go_sem, hc, hf, hz1]) rfl ⟨g1, gs, rfl, HGD.out,
    (HO.out.keep ((keep_putN (w := w1) (g := w.heap.size + 1 + 1) (.inl (Nat.lt_succ_self _)) 0 [.slice (some ⟨g1, 0, none⟩) n n, .int .i64 tm, .int .i64 ld]).trans (keep_putN (g := w.heap.size + 1) (.inl (show w.heap.size + 1 < w.heap.size + 1 + 1 + 1 by omega)) 0 [.slice (some ⟨g1, 0, none⟩) n n, .int .i64 tm, .int .i64 ld]) (Nat.le_of_eq (putN_size _ _ _ _).symm))).wider (by omega) (by simp [World.setCell]),
    below_putN (below_putN (g := w.heap.size + 1 + 1) HB1.out (by omega) 0 [.slice (some ⟨g1, 0, none⟩) n n, .int .i64 tm, .int .i64 ld]) (g := w.heap.size + 1) (by omega) 0 [.slice (some ⟨g1, 0, none⟩) n n, .int .i64 tm, .int .i64 ld]⟩
end Go.Proofs.Ytnmhigbnlpcedaa.Gr
