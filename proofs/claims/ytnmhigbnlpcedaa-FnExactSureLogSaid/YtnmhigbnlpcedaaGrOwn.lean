/-
  Contracts for the program's copies of records and logs: copyRec, copyLog.
-/
import Derived.Test.YtnmhigbnlpcedaaGrCl
namespace Go.Proofs.Ytnmhigbnlpcedaa.Gr
open Go.RowKit CM
set_option linter.unusedVariables false
set_option linter.unusedSimpArgs false

section
variable {w w' : World} {lo hi cap g sz : Nat} {t : TypeId} {L L1 L2 : List (List Value)} {x : List Value}
theorem own_cell (h : Own w lo hi t sz (some ⟨g, 0, none⟩) cap L) (k : Nat) (hk : k < L.length) (i : Nat) (hi' : i < sz) : w.cell? ⟨g, k * sz + i, none⟩ = L[k][i]? := by
  rcases h.row with h0 | ⟨b, off, hA, _, hc⟩
  · subst h0; simp at hk
  · injection hA with hA
    injection hA with hb ho
    subst hb ho
    have := hc k hk i hi'
    rwa [Nat.zero_add] at this
theorem own_at (h : Own w lo hi t sz (some ⟨g, 0, none⟩) cap (L1 ++ x :: L2)) (j : Nat) (hj : j = L1.length) (i : Nat) (hi' : i < sz) : w.cell? ⟨g, j * sz + i, none⟩ = x[i]? := by
  subst hj
  have := own_cell h L1.length (by simp) i hi'
  simpa using this
theorem own_free (h : Own w lo hi t sz (some ⟨g, 0, none⟩) cap L) (i : Nat) : w.frozen? ⟨g, i, none⟩ = false := by
  rcases h with ⟨_, h, _⟩ | ⟨g', cur, hA, _, _, hh, _⟩
  · cases h
  · injection hA with hA
    injection hA with hg
    subst hg
    simp [World.frozen?, hh]
/-- A part of one element stored. -/
theorem own_part (h : Own w lo hi t sz (some ⟨g, 0, none⟩) cap (L1 ++ x :: L2)) (y : List Value) (i : Nat) (us : List Value) (hus : i + us.length ≤ sz) (hy : ∀ q, q < sz → y[q]? = if i ≤ q ∧ q < i + us.length then us[q - i]? else x[q]?) (m : Nat) (hm : m = L1.length * sz + i) : Own (putN w g m us) lo hi t sz (some ⟨g, 0, none⟩) cap (L1 ++ y :: L2) := by
  rcases h with ⟨he, _⟩ | ⟨g', cur, hA, b1, b2, b3, b4, b5, b6, b7⟩
  · simp at he
  · injection hA with hA
    injection hA with hg
    subst hg
    have hsz : L1.length * sz + sz ≤ cap * sz := by
      have h1 : (L1.length + 1) * sz ≤ cap * sz := Nat.mul_le_mul_right _ (by simp at b4; omega)
      rw [Nat.add_mul, Nat.one_mul] at h1
      exact h1
    refine .inr ⟨g, putA cur m us, rfl, b1, b2, putN_blk b3 _ _, by simpa using b4, b5, by rw [putA_size]; exact b6, fun j hj q hq => ?_⟩
    have hj' : j < (L1 ++ x :: L2).length := by simpa using hj
    have h8 := b7 j hj' q hq
    by_cases hjm : j = L1.length
    · subst hjm
      have e1 : (L1 ++ y :: L2)[L1.length]'hj = y := by simp
      have e2 : (L1 ++ x :: L2)[L1.length]'hj' = x := by simp
      rw [e1, hy q hq]
      rw [e2] at h8
      split
      · rename_i hin
        have := putA_at cur m us (q - i) (by omega) (by omega)
        rw [show m + (q - i) = L1.length * sz + q by omega] at this
        exact this
      · rename_i hin
        rw [putA_low _ _ _ _ (by omega)]
        exact h8
    · have hout : j * sz + q < m ∨ m + us.length ≤ j * sz + q := by
        rcases Nat.lt_or_ge j L1.length with hl | hl
        · have := fill_idx j sz L1.length q hl hq; omega
        · have h9 : (L1.length + 1) * sz ≤ j * sz := Nat.mul_le_mul_right _ (by omega)
          rw [Nat.add_mul, Nat.one_mul] at h9
          omega
      rw [putA_low _ _ _ _ hout, h8]
      rcases Nat.lt_or_ge j L1.length with hl | hl
      · rw [List.getElem_append_left hl, List.getElem_append_left hl]
      · rw [List.getElem_append_right hl, List.getElem_append_right hl]
        obtain ⟨q', hq'⟩ : ∃ q', j - L1.length = q' + 1 := ⟨j - L1.length - 1, by omega⟩
        simp only [hq', List.getElem_cons_succ]
end

/-- What copyRec hands back. -/
def CopyRPost (kk tt xx ll : Int) (yy : Bool) (nr : Nat) (rs : List ByteArray) (nw : Nat) (ws : List (ByteArray × ByteArray × Bool)) (w : World) (e : Ending) (w' : World) : Prop :=
  ∃ A1 c1 A2 c2 m, e = .returned (.agg #[.int .i64 kk, .int .i64 tt, .int .i64 xx, .int .i64 ll, .slice A1 nr c1, .slice A2 nw c2, .bool yy]) ∧ OwnS w' w.heap.size m A1 c1 rs ∧ OwnW w' m w'.heap.size A2 c2 ws ∧ w.heap.size ≤ m ∧ m ≤ w'.heap.size ∧ Below w.heap.size w w'
set_option maxRecDepth 100000 in
set_option maxHeartbeats 2000000 in
theorem copyRec_any (kk tt xx ll : Int) (yy : Bool) (Ar : Option Addr) (nr cr : Nat) (rs : List ByteArray) (Aw : Option Addr) (nw cw : Nat) (ws : List (ByteArray × ByteArray × Bool)) (B : Nat) (w : World) (hnr : rs.length = nr) (hr : StrsB w B Ar rs) (hnw : ws.length = nw) (hw : WritesB w B Aw ws) (hB : B ≤ w.heap.size) (hlr : nr ≤ 1048576) (hlw : nw ≤ 1048576) :
    Calls Try.prog 108 #[.agg #[.int .i64 kk, .int .i64 tt, .int .i64 xx, .int .i64 ll, .slice Ar nr cr, .slice Aw nw cw, .bool yy]] w (CopyRPost kk tt xx ll yy nr rs nw ws w) := by
  have HS := Lib.hid (fun W (hW : Below w.heap.size w W) => cloneS_any Ar nr cr rs B W hnr (hr.below (hW.mono hB)) (Nat.le_trans hB hW.size) (by omega))
  have HW := Lib.hid (fun W (hW : Below w.heap.size w W) => cloneW_any Aw nw cw ws B W hnw (hw.below (hW.mono hB)) (Nat.le_trans hB hW.size) (by omega))
  have hb0 := below2 w (.cells #[.int .i64 kk, .int .i64 tt, .int .i64 xx, .int .i64 ll, .slice Ar nr cr, .slice Aw nw cw, .bool yy] 47) (.cells #[.int .i64 0, .int .i64 0, .int .i64 0, .int .i64 0, .slice none 0 0, .slice none 0 0, .bool false] 47)
  have ka := alloc2_a w (.cells #[.int .i64 kk, .int .i64 tt, .int .i64 xx, .int .i64 ll, .slice Ar nr cr, .slice Aw nw cw, .bool yy] 47) (.cells #[.int .i64 0, .int .i64 0, .int .i64 0, .int .i64 0, .slice none 0 0, .slice none 0 0, .bool false] 47)
  have kb := alloc2_b w (.cells #[.int .i64 kk, .int .i64 tt, .int .i64 xx, .int .i64 ll, .slice Ar nr cr, .slice Aw nw cw, .bool yy] 47) (.cells #[.int .i64 0, .int .i64 0, .int .i64 0, .int .i64 0, .slice none 0 0, .slice none 0 0, .bool false] 47)
  have HKA := Lib.hid ka
  have HKB := Lib.hid kb
  have HB0 := Lib.hid hb0
  clear hr hw hnr hnw hB hlr hlw ka kb hb0
  go_enter Try.func108, Try.ntmps108
  go_wp2_with fail
  (with_reducible refine (HS.out _ HB0.out).mono ?_)
  rintro e w1 ⟨A1, c1, rfl, ho1, hb1⟩
  have ka := (hb1.block w.heap.size (by simp; omega)).trans HKA.out
  have kb := (hb1.block (w.heap.size + 1) (by simp)).trans HKB.out
  have hz1 := hb1.size
  simp only [World.size_alloc] at hz1 ho1
  have hzA : w.heap.size < w1.heap.size := by omega
  have hzB : w.heap.size + 1 < w1.heap.size := by omega
  have a4 := cell_blk (i := 4) ka rfl
  have a5 := cell_blk (i := 5) ka rfl
  have fa := free_all ka
  have HB1 := Lib.hid (HB0.out.trans (hb1.mono HB0.out.size))
  have HO1 := Lib.hid ho1
  have HKA1 := Lib.hid ka
  have HKB1 := Lib.hid kb
  clear ka kb hb1 ho1
  go_wp2_with fail
  have hbs := HB1.out.setCell (p := ⟨w.heap.size, 4, none⟩) (Nat.le_refl _) (.slice A1 nr c1)
  (with_reducible refine (HW.out _ hbs).mono ?_)
  rintro e w2 ⟨A2, c2, rfl, ho2, hb2⟩
  clear a4 a5 fa
  have hz2 := hb2.size
  simp only [World.size_setCell] at hz2 ho2
  have ka := (hb2.block w.heap.size (by simp only [World.size_setCell]; omega)).trans (set_blk HKA1.out _)
  have kb := (hb2.block (w.heap.size + 1) (by simp only [World.size_setCell]; omega)).trans ((Below.heap_setCell _ _ _ _ (by simp)).trans HKB1.out)
  have a0 := cell_blk (i := 0) ka rfl
  have a1 := cell_blk (i := 1) ka rfl
  have a2 := cell_blk (i := 2) ka rfl
  have a3 := cell_blk (i := 3) ka rfl
  have a4 := cell_blk (i := 4) ka rfl
  have a5 := cell_blk (i := 5) ka rfl
  have a6 := cell_blk (i := 6) ka rfl
  have b0 := cell_blk (i := 0) kb rfl
  have b1 := cell_blk (i := 1) kb rfl
  have b2 := cell_blk (i := 2) kb rfl
  have b3 := cell_blk (i := 3) kb rfl
  have b4 := cell_blk (i := 4) kb rfl
  have b5 := cell_blk (i := 5) kb rfl
  have b6 := cell_blk (i := 6) kb rfl
  have fa := free_all ka
  have fb := free_all kb
  have hzA2 : w.heap.size < w2.heap.size := by omega
  have hzB2 : w.heap.size + 1 < w2.heap.size := by omega
  have HB2 := Lib.hid (hbs.trans (hb2.mono hbs.size))
  have HO1' := Lib.hid (Own.keep HO1.out ((keep_set (w := w1) (p := ⟨w.heap.size, 4, none⟩) (.inl (show w.heap.size < w.heap.size + 1 + 1 by omega)) (.slice A1 nr c1)).trans (keep_since hb2) (by simp)))
  have HO2 := Lib.hid ho2
  clear ka kb hb2 hbs ho2
  go_wp2
  have hk1 : ∀ lo2 hi2, w.heap.size + 1 < lo2 → Keep lo2 hi2 w2 (putN (w2.setCell ⟨w.heap.size, 5, none⟩ (.slice A2 nw c2)) (w.heap.size + 1) 0 [.int .i64 kk, .int .i64 tt, .int .i64 xx, .int .i64 ll, .slice A1 nr c1, .slice A2 nw c2, .bool yy]) := fun lo2 hi2 h => (keep_set (w := w2) (p := ⟨w.heap.size, 5, none⟩) (.inl (show w.heap.size < lo2 by omega)) _).trans (keep_putN (.inl h) _ _) (by simp)
  exact bodyPost_ret (v := .agg #[.int .i64 kk, .int .i64 tt, .int .i64 xx, .int .i64 ll, .slice A1 nr c1, .slice A2 nw c2, .bool yy]) (by simp [results, Try.results108, go_sem, *]) rfl ⟨A1, c1, A2, c2, w1.heap.size, rfl,
    (Own.keep HO1'.out (hk1 _ _ (by omega))).wider (by omega) (Nat.le_refl _),
    (Own.keep HO2.out (hk1 _ _ (by omega))).wider (Nat.le_refl _) (by simp [World.setCell]),
    by omega, by simp [World.setCell]; omega, below_putN (HB2.out.setCell (p := ⟨w.heap.size, 5, none⟩) (Nat.le_refl _) (.slice A2 nw c2)) (show w.heap.size ≤ w.heap.size + 1 by omega) 0 [.int .i64 kk, .int .i64 tt, .int .i64 xx, .int .i64 ll, .slice A1 nr c1, .slice A2 nw c2, .bool yy]⟩

/-- A log copied into memory of its own. -/
def CopyLPost (es : List EH) (n : Nat) (w : World) (e : Ending) (w' : World) : Prop :=
  ∃ A1 c1 gs, e = .returned (.slice A1 n c1) ∧ gs.map EH.d = es.map EH.d ∧ OwnK KE w' w.heap.size w'.heap.size A1 c1 gs ∧ Below w.heap.size w w'
set_option maxRecDepth 100000 in
set_option maxHeartbeats 4000000 in
theorem copyLog_any (A : Option Addr) (n c : Nat) (es : List EH) (B : Nat) (w : World) (hn : es.length = n) (h : RowsB KE w B A es) (hB : B ≤ w.heap.size) (hm : LgSmall (es.map EH.d)) :
    Calls Try.prog 85 #[.slice A n c] w (CopyLPost es n w) := by
  obtain ⟨hl, hms⟩ := hm
  have hnl : n ≤ 1048576 := by simp at hl; omega
  have HN := Lib.hid hn
  have HM := Lib.hid (fun e (he : e ∈ es) => hms e.d (List.mem_map_of_mem he))
  have HRD := Lib.hid (fun e (he : e ∈ es) => h.2 e he)
  have HC := Lib.hid (cloneE_any A n c es B w hn h hB (by omega))
  clear hn h hl hms
  go_enter Try.func85, Try.ntmps85
  go_wp2_with fail
  (with_reducible refine HC.out.mono ?_)
  rintro e w1 ⟨A1, c1, rfl, ho1, hb1⟩
  obtain ⟨s1, hs1⟩ : ∃ s, s = w1.heap.size := ⟨_, rfl⟩
  have HO1 := Lib.hid ho1
  have HB1 := Lib.hid hb1
  rw [← hs1] at HO1
  have hz1 : w.heap.size ≤ s1 := by rw [hs1]; exact hb1.size
  have hs1' : s1 ≤ w1.heap.size := by omega
  clear ho1 hb1 hs1
  go_wp2_with fail
  go_loopw [8] (fun j wr => ∃ (ds rt gs : List EH), Hid (es = ds ++ rt) ∧ Hid (gs.map EH.d = ds.map EH.d) ∧ j = .int .i64 ds.length ∧ Hid (Own wr w.heap.size s1 78 8 A1 c1 (gs.map enCs ++ rt.map enCs)) ∧ Hid (Nst KE wr s1 wr.heap.size A1 gs) ∧ Hid (Below w.heap.size w wr) ∧ s1 ≤ wr.heap.size) (fun j _ => n - (intOf j).toNat)
  case atStart => exact ⟨[], es, [], rfl, rfl, rfl, HO1, Nst.nil, HB1, hs1'⟩
  case round =>
    clear HO1 HB1 hs1'
    obtain ⟨ds, rt, gs, HS, HG, rfl, HO, HV, HB, hzr⟩ := hrel
    have hlen : ds.length + rt.length = n := by rw [← HN.out, HS.out, List.length_append]
    have HGL := Lib.hid (show ds.length = (gs.map enCs).length by rw [List.length_map, dats_len HG.out])
    obtain ⟨j, hj⟩ : ∃ j, j = ds.length := ⟨_, rfl⟩
    have HJ := Lib.hid hj
    rw [← hj] at hlen ⊢
    cases rt with
    | cons x t =>
      have hmx := HM.out x (by rw [HS.out]; simp)
      have hrx := HRD.out x (by rw [HS.out]; simp)
      obtain ⟨⟨tm, kk, tt, xx, ll, yy, rs, ws⟩, Ar, cr, Aw, cw, elo, em, ehi⟩ := x
      simp only [List.map_cons] at HO
      have hlt : j < n := by simp at hlen; omega
      obtain ⟨g, cur, rfl, hg1, hg2, _⟩ := HO.out.form (by simp; omega)
      have c1' := own_at HO.out j (hj.trans HGL.out) 1 (by decide)
      have c2' := own_at HO.out j (hj.trans HGL.out) 2 (by decide)
      have c3' := own_at HO.out j (hj.trans HGL.out) 3 (by decide)
      have c4' := own_at HO.out j (hj.trans HGL.out) 4 (by decide)
      have c5' := own_at HO.out j (hj.trans HGL.out) 5 (by decide)
      have c6' := own_at HO.out j (hj.trans HGL.out) 6 (by decide)
      have c7' := own_at HO.out j (hj.trans HGL.out) 7 (by decide)
      have hgw : g < wr.heap.size := Nat.lt_of_lt_of_le hg2 hzr
      have HR := Lib.hid (copyRec_any kk tt xx ll yy Ar rs.length cr rs Aw ws.length cw ws B wr rfl (hrx.1.below (HB.out.mono hB)) rfl (hrx.2.below (HB.out.mono hB)) (Nat.le_trans hB HB.out.size) hmx.1.1 hmx.2.1)
      have hG := Lib.hid (show w.heap.size ≤ g ∧ g < s1 from ⟨hg1, hg2⟩)
      have hj0 : (0 : Int) ≤ (j : Int) := by omega
      have hj1 : (j : Int) < (n : Int) := by omega
      obtain ⟨nr, hvnr⟩ : ∃ nr, nr = rs.length := ⟨_, rfl⟩
      obtain ⟨nw, hvnw⟩ : ∃ nw, nw = ws.length := ⟨_, rfl⟩
      have d1 : wr.cell? ⟨g, j * 8 + 1, none⟩ = some (.int .i64 kk) := c1'
      have d2 : wr.cell? ⟨g, j * 8 + 1 + 1, none⟩ = some (.int .i64 tt) := c2'
      have d3 : wr.cell? ⟨g, j * 8 + 1 + 2, none⟩ = some (.int .i64 xx) := c3'
      have d4 : wr.cell? ⟨g, j * 8 + 1 + 3, none⟩ = some (.int .i64 ll) := c4'
      have d5 : wr.cell? ⟨g, j * 8 + 1 + 4, none⟩ = some (.slice Ar rs.length cr) := c5'
      have d6 : wr.cell? ⟨g, j * 8 + 1 + 5, none⟩ = some (.slice Aw ws.length cw) := c6'
      have d7 : wr.cell? ⟨g, j * 8 + 1 + 6, none⟩ = some (.bool yy) := c7'
      rw [← hvnr] at HR d5
      rw [← hvnw] at HR d6
      have HVR := Lib.hid hvnr
      have HVW := Lib.hid hvnw
      clear hj hg1 hg2 hmx hrx c1' c2' c3' c4' c5' c6' c7' hvnr hvnw
      go_wp2_with fail
      (with_reducible refine HR.out.mono ?_)
      rintro e w4 ⟨B1, b1, B2, b2, m, rfl, hoS, hoW, hm1, hm2, hb4⟩
      have hO4 := HO.out.below (w' := w4) (hb4.mono hzr)
      have e1 := own_at hO4 j (HJ.out.trans HGL.out) 1 (by decide)
      have e2 := own_at hO4 j (HJ.out.trans HGL.out) 2 (by decide)
      have e3 := own_at hO4 j (HJ.out.trans HGL.out) 3 (by decide)
      have e4 := own_at hO4 j (HJ.out.trans HGL.out) 4 (by decide)
      have e5 := own_at hO4 j (HJ.out.trans HGL.out) 5 (by decide)
      have e6 := own_at hO4 j (HJ.out.trans HGL.out) 6 (by decide)
      have e7 := own_at hO4 j (HJ.out.trans HGL.out) 7 (by decide)
      have f1 : w4.cell? ⟨g, j * 8 + 1, none⟩ = some (.int .i64 kk) := e1
      have f2 : w4.cell? ⟨g, j * 8 + 1 + 1, none⟩ = some (.int .i64 tt) := e2
      have f3 : w4.cell? ⟨g, j * 8 + 1 + 2, none⟩ = some (.int .i64 xx) := e3
      have f4 : w4.cell? ⟨g, j * 8 + 1 + 3, none⟩ = some (.int .i64 ll) := e4
      have f5 : w4.cell? ⟨g, j * 8 + 1 + 4, none⟩ = some (.slice Ar rs.length cr) := e5
      have f6 : w4.cell? ⟨g, j * 8 + 1 + 5, none⟩ = some (.slice Aw ws.length cw) := e6
      have f7 : w4.cell? ⟨g, j * 8 + 1 + 6, none⟩ = some (.bool yy) := e7
      have ff := own_free hO4
      have hgw4 : g < w4.heap.size := Nat.lt_of_lt_of_le hgw hb4.size
      have HP := Lib.hid (own_part hO4 (enCs ⟨⟨tm, kk, tt, xx, ll, yy, rs, ws⟩, B1, b1, B2, b2, wr.heap.size, m, w4.heap.size⟩) 1 [.int .i64 kk, .int .i64 tt, .int .i64 xx, .int .i64 ll, .slice B1 nr b1, .slice B2 nw b2, .bool yy] (by simp) (fun q hq => by
        have h8 : q = 0 ∨ q = 1 ∨ q = 2 ∨ q = 3 ∨ q = 4 ∨ q = 5 ∨ q = 6 ∨ q = 7 := by omega
        rcases h8 with rfl | rfl | rfl | rfl | rfl | rfl | rfl | rfl <;> simp [enCs, HVR.out, HVW.out]) (j * 8 + 1) (by rw [← HGL.out, ← HJ.out]))
      have HKP := Lib.hid (fun lo2 hi2 (h : s1 ≤ lo2) => keep_putN (w := w4) (lo := lo2) (hi := hi2) (g := g) (.inl (Nat.lt_of_lt_of_le hG.out.2 h)) (j * 8 + 1) [.int .i64 kk, .int .i64 tt, .int .i64 xx, .int .i64 ll, .slice B1 nr b1, .slice B2 nw b2, .bool yy])
      have HPZ := Lib.hid (putN_size w4 g (j * 8 + 1) [.int .i64 kk, .int .i64 tt, .int .i64 xx, .int .i64 ll, .slice B1 nr b1, .slice B2 nw b2, .bool yy])
      have hEO : EnO w4 ⟨⟨tm, kk, tt, xx, ll, yy, rs, ws⟩, B1, b1, B2, b2, wr.heap.size, m, w4.heap.size⟩ := ⟨hm1, hm2, hoS, hoW⟩
      have HNV := Lib.hid ((HV.out.since hb4).snoc ⟨⟨tm, kk, tt, xx, ll, yy, rs, ws⟩, B1, b1, B2, b2, wr.heap.size, m, w4.heap.size⟩ hEO (Nat.le_refl _) (Nat.le_refl _) hzr (fun p hp => by injection hp with hp; subst hp; exact hG.out.2))
      have HB4 := Lib.hid (HB.out.trans (hb4.mono HB.out.size))
      have hz4 : s1 ≤ w4.heap.size := Nat.le_trans hzr hb4.size
      clear hO4 e1 e2 e3 e4 e5 e6 e7 hoS hoW hm1 hm2 hb4 hEO d1 d2 d3 d4 d5 d6 d7
      go_wp2
      go_roundw
      case rel =>
        refine ⟨ds ++ [⟨⟨tm, kk, tt, xx, ll, yy, rs, ws⟩, Ar, cr, Aw, cw, elo, em, ehi⟩], t, gs ++ [⟨⟨tm, kk, tt, xx, ll, yy, rs, ws⟩, B1, b1, B2, b2, wr.heap.size, m, w4.heap.size⟩], ?_, ?_, ?_, ?_, ?_, ?_, ?_⟩
        · show _ = _; rw [HS.out]; simp
        · show _ = _; rw [List.map_append, List.map_append, HG.out]; rfl
        · rw [List.length_append, ← HJ.out]; go_num
        · show Own _ _ _ _ _ _ _ _
          have h7 := HP.out
          rw [List.map_append, List.append_assoc]
          exact h7
        · have h7 := HNV.out.keep (HKP.out s1 w4.heap.size (Nat.le_refl _))
          exact h7.wider (Nat.le_refl _) (Nat.le_of_eq HPZ.out.symm)
        · exact below_putN HB4.out hG.out.1 (j * 8 + 1) [.int .i64 kk, .int .i64 tt, .int .i64 xx, .int .i64 ll, .slice B1 nr b1, .slice B2 nw b2, .bool yy]
        · have := HPZ.out
          exact Nat.le_trans hz4 (Nat.le_of_eq this.symm)
      case measure => simp [intOf]; omega
    | nil =>
      have hjn : j = n := by simpa using hlen
      subst hjn
      have HR := Lib.hid (show CopyLPost es j w (.returned (.slice A1 j c1)) wr from ⟨A1, c1, gs, rfl, by rw [HG.out, HS.out, List.append_nil], ⟨by have h7 := HO.out.wider (Nat.le_refl _) hzr; rw [List.map_nil, List.append_nil] at h7; exact h7, HV.out.wider hz1 (Nat.le_refl _)⟩, HB.out⟩)
      clear hj
      go_wp2
      go_ret
      exact HR.out
end Go.Proofs.Ytnmhigbnlpcedaa.Gr
