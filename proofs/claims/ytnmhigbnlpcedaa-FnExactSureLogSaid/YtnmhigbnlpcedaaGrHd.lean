/-
  Contracts for the laws' helpers that find again what was written over groups: heldEntryS, heldReplicaS, heldGroup.
-/
import Derived.Test.YtnmhigbnlpcedaaGrMk
import Derived.Test.YtnmhigbnlpcedaaHeld
namespace Go.Proofs.Ytnmhigbnlpcedaa.Gr
open Go.RowKit CM
set_option linter.unusedVariables false
set_option linter.unusedSimpArgs false

set_option maxRecDepth 100000 in
set_option maxHeartbeats 4000000 in
theorem heldEntryS_any (A : Option Addr) (n c k B : Nat) (hs : List EH) (w : World) (hn : hs.length = n) (h : RowsB KE w B A (mkAll mkE nxE k hs)) (hB : B ≤ w.heap.size) (hk1 : 1 ≤ k) (hk : aft nxE k hs ≤ 1000000000) :
    Calls Try.prog 42 #[.slice A n c, .int .i64 (k : Int)] w fun e w' => e = .returned (.int .i64 ((aft nxE k hs : Nat) : Int)) ∧ Below w.heap.size w w' := by
  have HN := Lib.hid hn
  have HC0 := Lib.hid h
  clear h
  go_enter Try.func42, Try.ntmps42
  go_wp2
  go_loopw [1, 5] (fun x i wr => ∃ (ds rt : List EH) (q : Nat), Hid (hs = ds ++ rt) ∧ Hid (q = aft nxE k ds) ∧ 1 ≤ q ∧ x = .int .i64 (q : Int) ∧ i = .int .i64 ds.length ∧ Below w.heap.size w wr) (fun _ i _ => n - (intOf i).toNat)
  case atStart => exact ⟨[], hs, k, rfl, rfl, hk1, rfl, rfl, Below.refl _ _⟩
  case round =>
    obtain ⟨ds, rt, q, HS, HQ, hq1, rfl, rfl, hb⟩ := hrel
    have hlen : ds.length + rt.length = n := by rw [← HN.out, HS.out, List.length_append]
    obtain ⟨j, hj⟩ : ∃ j, j = ds.length := ⟨_, rfl⟩
    have HJ := Lib.hid hj
    rw [← hj] at hlen ⊢
    cases rt with
    | cons x t =>
      obtain ⟨⟨tm, kk, tt, xx, ll, yy, rs, ws⟩, Ar, cr, Aw, cw, elo, em, ehi⟩ := x
      have haf : q + 6 + rs.length + 3 * ws.length ≤ 1000000000 := by
        have h1 : aft nxE k hs = aft nxE (q + 6 + rs.length + 3 * ws.length) t := by rw [HS.out, aft_append, ← HQ.out]; rfl
        have h2 := aft_up (fun k x => Nat.le_trans (Nat.le_succ k) (nxE_up k x)) (q + 6 + rs.length + 3 * ws.length) t
        omega
      have hlt : j < n := by simp at hlen; omega
      have hjq : j ≤ q := by rw [HQ.out, HJ.out]; exact Nat.le_trans (Nat.le_add_left _ _) (aft_len nxE_up k ds)
      have hlm : j < (mkAll mkE nxE k hs).length := by rw [mkAll_len, HN.out]; exact hlt
      obtain ⟨b, off, rfl, hbB, hc⟩ := en_get HC0.out (by omega)
      obtain ⟨hc0, hc1, hc2, hc3, hc4, hc5, hc6, hc7⟩ := hc j hlm
      have hv := HC0.out.at j hlm
      have e : (mkAll mkE nxE k hs)[j]'hlm = mkE q ⟨⟨tm, kk, tt, xx, ll, yy, rs, ws⟩, Ar, cr, Aw, cw, elo, em, ehi⟩ := by
        have h1 := mkAll_at (mk := mkE) (nx := nxE) k ds t ⟨⟨tm, kk, tt, xx, ll, yy, rs, ws⟩, Ar, cr, Aw, cw, elo, em, ehi⟩ j hj (by rw [← HS.out]; exact hlm)
        rw [← HQ.out] at h1
        simp only [← HS.out] at h1
        exact h1
      rw [e] at hc0 hc1 hc2 hc3 hc4 hc5 hc6 hc7 hv
      simp only [mkE, mStrs_len, mWrs_len, mkAll_len] at hc0 hc1 hc2 hc3 hc4 hc5 hc6 hc7
      have hbr : b < wr.heap.size := Nat.lt_of_lt_of_le hbB (Nat.le_trans hB hb.size)
      have p0 := (hb.cell (p := ⟨b, off + j * 8, none⟩) (Nat.lt_of_lt_of_le hbB hB)).trans hc0
      have p1 := (hb.cell (p := ⟨b, off + j * 8 + 1, none⟩) (Nat.lt_of_lt_of_le hbB hB)).trans hc1
      have p2 := (hb.cell (p := ⟨b, off + j * 8 + 2, none⟩) (Nat.lt_of_lt_of_le hbB hB)).trans hc2
      have p3 := (hb.cell (p := ⟨b, off + j * 8 + 3, none⟩) (Nat.lt_of_lt_of_le hbB hB)).trans hc3
      have p4 := (hb.cell (p := ⟨b, off + j * 8 + 4, none⟩) (Nat.lt_of_lt_of_le hbB hB)).trans hc4
      have p5 := (hb.cell (p := ⟨b, off + j * 8 + 5, none⟩) (Nat.lt_of_lt_of_le hbB hB)).trans hc5
      have p6 := (hb.cell (p := ⟨b, off + j * 8 + 6, none⟩) (Nat.lt_of_lt_of_le hbB hB)).trans hc6
      have p7 := (hb.cell (p := ⟨b, off + j * 8 + 7, none⟩) (Nat.lt_of_lt_of_le hbB hB)).trans hc7
      have hj0 : (0 : Int) ≤ (j : Int) := by omega
      have hj1 : (j : Int) < (n : Int) := by omega
      have HB := Lib.hid hb
      have HV := Lib.hid (heldStringS_any Ar rs.length cr (q + 5) B wr (hv.1.below (hb.mono hB)) (Nat.le_trans hB hb.size) (by omega) (by omega))
      rw [show ((q + 5 : Nat) : Int) = (q : Int) + 1 + 1 + 1 + 1 + 1 by omega] at HV
      obtain ⟨m1, hm1⟩ : ∃ m, m = q + 5 + rs.length := ⟨_, rfl⟩
      have HV2 := Lib.hid (fun W (hW : Below wr.heap.size wr W) => heldWriteS_any Aw ws.length cw m1 B W (by rw [hm1]; exact hv.2.below ((hb.mono hB).trans (hW.mono (Nat.le_trans hB hb.size)))) (Nat.le_trans hB (Nat.le_trans hb.size hW.size)) (by omega) (by omega))
      obtain ⟨m2, hm2⟩ : ∃ m, m = m1 + 3 * ws.length := ⟨_, rfl⟩
      rw [← hm1] at HV p7
      rw [← hm2] at HV2 p7
      have hm10 : (0 : Int) ≤ (m1 : Int) := by omega
      have hm1b : m1 + 1 ≤ 1000000000 := by omega
      have hm20 : (0 : Int) ≤ (m2 : Int) := by omega
      have hm2b : m2 + 1 ≤ 1000000000 := by omega
      have ht1 : ((m2 : Int) % 3 == 0) = thr (m2 : Int) := rfl
      have HM1 := Lib.hid hm1
      have HM2 := Lib.hid hm2
      obtain ⟨b1, hb1⟩ : ∃ b, b = thr (m2 : Int) := ⟨_, rfl⟩
      rw [← hb1] at p7 ht1
      clear hc hc0 hc1 hc2 hc3 hc4 hc5 hc6 hc7 hb hv e hlm hj hm1 hm2 hb1
      go_wp2_with fail
      (with_reducible refine HV.out.mono ?_)
      rintro e w5 ⟨rfl, hb5⟩
      have y6 := (hb5.cell (p := ⟨b, off + j * 8 + 6, none⟩) hbr).trans p6
      have y7 := (hb5.cell (p := ⟨b, off + j * 8 + 7, none⟩) hbr).trans p7
      have hbr5 := Nat.lt_of_lt_of_le hbr hb5.size
      have HB5 := Lib.hid (HB.out.trans (hb5.mono HB.out.size))
      have HC2 := Lib.hid (HV2.out _ hb5)
      clear hb5 p0 p1 p2 p3 p4 p5 p6 p7 HV2
      go_wp2_with fail
      refine HC2.out.mono ?_
      rintro e w6 ⟨rfl, hb6⟩
      have z7 := (hb6.cell (p := ⟨b, off + j * 8 + 7, none⟩) hbr5).trans y7
      have HB6 := Lib.hid (HB5.out.trans (hb6.mono HB5.out.size))
      clear hb6 y6 y7
      go_wp2
      go_roundw
      case rel =>
        refine ⟨ds ++ [⟨⟨tm, kk, tt, xx, ll, yy, rs, ws⟩, Ar, cr, Aw, cw, elo, em, ehi⟩], t, q + 6 + rs.length + 3 * ws.length, ?_, ?_, by omega, ?_, ?_, HB6.out⟩
        · show _ = _; rw [HS.out]; simp
        · show _ = _; rw [aft_snoc, ← HQ.out]; rfl
        · have h1 := HM1.out; have h2 := HM2.out; go_num
        · rw [List.length_append, ← HJ.out]; go_num
      case measure => simp [intOf]; omega
    | nil =>
      have hjn : j = n := by simpa using hlen
      subst hjn
      have HR := Lib.hid (show q = aft nxE k hs from by rw [HQ.out, HS.out, List.append_nil])
      clear hj
      go_wp2
      go_ret
      exact ⟨by rw [HR.out]; rfl, hb⟩

set_option maxRecDepth 100000 in
set_option maxHeartbeats 4000000 in
theorem heldReplicaS_any (A : Option Addr) (n c k B : Nat) (hs : List RH) (w : World) (hn : hs.length = n) (h : RowsB KR w B A (mkAll mkR nxR k hs)) (hB : B ≤ w.heap.size) (hk1 : 1 ≤ k) (hk : aft nxR k hs ≤ 1000000000) :
    Calls Try.prog 49 #[.slice A n c, .int .i64 (k : Int)] w fun e w' => e = .returned (.int .i64 ((aft nxR k hs : Nat) : Int)) ∧ Below w.heap.size w w' := by
  have HN := Lib.hid hn
  have HC0 := Lib.hid h
  clear h
  go_enter Try.func49, Try.ntmps49
  go_wp2
  go_loopw [1, 5] (fun x i wr => ∃ (ds rt : List RH) (q : Nat), Hid (hs = ds ++ rt) ∧ Hid (q = aft nxR k ds) ∧ 1 ≤ q ∧ x = .int .i64 (q : Int) ∧ i = .int .i64 ds.length ∧ Below w.heap.size w wr) (fun _ i _ => n - (intOf i).toNat)
  case atStart => exact ⟨[], hs, k, rfl, rfl, hk1, rfl, rfl, Below.refl _ _⟩
  case round =>
    obtain ⟨ds, rt, q, HS, HQ, hq1, rfl, rfl, hb⟩ := hrel
    have hlen : ds.length + rt.length = n := by rw [← HN.out, HS.out, List.length_append]
    obtain ⟨j, hj⟩ : ∃ j, j = ds.length := ⟨_, rfl⟩
    have HJ := Lib.hid hj
    rw [← hj] at hlen ⊢
    cases rt with
    | cons x t =>
      obtain ⟨up, su, Al, cl, es, rlo, rhi⟩ := x
      have haf : aft nxE (q + 1) es + 1 ≤ 1000000000 := by
        have h1 : aft nxR k hs = aft nxR (aft nxE (q + 1) es + 1) t := by rw [HS.out, aft_append, ← HQ.out]; rfl
        have h2 := aft_up (fun k x => Nat.le_trans (Nat.le_succ k) (nxR_up k x)) (aft nxE (q + 1) es + 1) t
        omega
      have hlt : j < n := by simp at hlen; omega
      have hjq : j ≤ q := by rw [HQ.out, HJ.out]; exact Nat.le_trans (Nat.le_add_left _ _) (aft_len nxR_up k ds)
      have hlm : j < (mkAll mkR nxR k hs).length := by rw [mkAll_len, HN.out]; exact hlt
      obtain ⟨b, off, rfl, hbB, hc⟩ := rp_get HC0.out (by omega)
      obtain ⟨hc0, hc1, hc2⟩ := hc j hlm
      have hv := HC0.out.at j hlm
      have e : (mkAll mkR nxR k hs)[j]'hlm = mkR q ⟨up, su, Al, cl, es, rlo, rhi⟩ := by
        have h1 := mkAll_at (mk := mkR) (nx := nxR) k ds t ⟨up, su, Al, cl, es, rlo, rhi⟩ j hj (by rw [← HS.out]; exact hlm)
        rw [← HQ.out] at h1
        simp only [← HS.out] at h1
        exact h1
      rw [e] at hc0 hc1 hc2 hv
      simp only [mkR, mStrs_len, mWrs_len, mkAll_len] at hc0 hc1 hc2
      have hbr : b < wr.heap.size := Nat.lt_of_lt_of_le hbB (Nat.le_trans hB hb.size)
      have p0 := (hb.cell (p := ⟨b, off + j * 3, none⟩) (Nat.lt_of_lt_of_le hbB hB)).trans hc0
      have p1 := (hb.cell (p := ⟨b, off + j * 3 + 1, none⟩) (Nat.lt_of_lt_of_le hbB hB)).trans hc1
      have p2 := (hb.cell (p := ⟨b, off + j * 3 + 2, none⟩) (Nat.lt_of_lt_of_le hbB hB)).trans hc2
      have hj0 : (0 : Int) ≤ (j : Int) := by omega
      have hj1 : (j : Int) < (n : Int) := by omega
      have hup := aft_up (fun k x => Nat.le_trans (Nat.le_succ k) (nxE_up k x)) (q + 1) es
      have hqb : q + 2 ≤ 1000000000 := by omega
      have HB := Lib.hid hb
      have hv2 : RowsB KE w B Al (mkAll mkE nxE (q + 1) es) := hv
      have HV := Lib.hid (heldEntryS_any Al es.length cl (q + 1) B es wr rfl (hv2.below (hb.mono hB)) (Nat.le_trans hB hb.size) (by omega) (by omega))
      rw [show ((q + 1 : Nat) : Int) = (q : Int) + 1 by omega] at HV
      obtain ⟨m, hm⟩ : ∃ m, m = aft nxE (q + 1) es := ⟨_, rfl⟩
      rw [← hm] at HV p2
      have hm0 : (0 : Int) ≤ (m : Int) := by omega
      have hmb : m + 1 ≤ 1000000000 := by omega
      have ht0 : ((q : Int) % 3 == 0) = thr (q : Int) := rfl
      have HM := Lib.hid hm
      obtain ⟨b0, hb0⟩ : ∃ b, b = thr (q : Int) := ⟨_, rfl⟩
      rw [← hb0] at p0 ht0
      clear hc hc0 hc1 hc2 hb hv hv2 e hlm hj hm hb0 hup
      go_wp2_with fail
      (with_reducible refine HV.out.mono ?_)
      rintro e w5 ⟨rfl, hb5⟩
      have y2 := (hb5.cell (p := ⟨b, off + j * 3 + 2, none⟩) hbr).trans p2
      have HB5 := Lib.hid (HB.out.trans (hb5.mono HB.out.size))
      clear hb5 p0 p1 p2
      go_wp2
      go_roundw
      case rel =>
        refine ⟨ds ++ [⟨up, su, Al, cl, es, rlo, rhi⟩], t, m + 1, ?_, ?_, by omega, ?_, ?_, HB5.out⟩
        · show _ = _; rw [HS.out]; simp
        · show _ = _; rw [aft_snoc, ← HQ.out, HM.out]; rfl
        · go_num
        · rw [List.length_append, ← HJ.out]; go_num
      case measure => simp [intOf]; omega
    | nil =>
      have hjn : j = n := by simpa using hlen
      subst hjn
      have HR := Lib.hid (show q = aft nxR k hs from by rw [HQ.out, HS.out, List.append_nil])
      clear hj
      go_wp2
      go_ret
      exact ⟨by rw [HR.out]; rfl, hb⟩

set_option maxHeartbeats 1000000 in
theorem heldGroup_any (A : Option Addr) (n c B : Nat) (tm ld : Int) (hs : List RH) (w : World) (hn : hs.length = n) (h : RowsB KR w B A (mkAll mkR nxR 1 hs)) (hB : B ≤ w.heap.size) (hk : aft nxR 1 hs ≤ 1000000000) :
    Calls Try.prog 17 #[.agg #[.slice A n c, .int .i64 tm, .int .i64 ld], .int .i64 1] w fun e w' => e = .returned (.int .i64 ((aft nxR 1 hs : Nat) : Int)) ∧ Below w.heap.size w w' := by
  have hb1 := below1 w (.cells #[.slice A n c, .int .i64 tm, .int .i64 ld] 24)
  have HM := Lib.hid (fun W (hW : Below w.heap.size w W) => heldReplicaS_any A n c 1 B hs W hn (h.below (hW.mono hB)) (Nat.le_trans hB hW.size) (Nat.le_refl _) hk)
  rw [show (((1 : Nat) : Int)) = 1 from rfl] at HM
  have HB1 := Lib.hid hb1
  obtain ⟨m, hm⟩ : ∃ m, m = aft nxR 1 hs := ⟨_, rfl⟩
  rw [← hm] at HM ⊢
  have hm0 : (0 : Int) ≤ (m : Int) := by omega
  clear h hn hb1 hm hk
  go_enter Try.func17, Try.ntmps17
  go_wp2_with fail
  refine (HM.out _ HB1.out).mono ?_
  rintro e w1 ⟨rfl, hb2⟩
  have HR := Lib.hid (HB1.out.trans (hb2.mono HB1.out.size))
  clear hb2
  go_wp2
  go_ret
  exact ⟨rfl, HR.out⟩
end Go.Proofs.Ytnmhigbnlpcedaa.Gr
