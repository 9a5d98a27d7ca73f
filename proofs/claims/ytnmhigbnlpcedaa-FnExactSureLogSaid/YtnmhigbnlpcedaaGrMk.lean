/-
  Contracts for the laws' helpers that write over groups that are owned: markEntryS, markReplicaS, markGroup.
-/
import Derived.Test.YtnmhigbnlpcedaaGrMem
namespace Go.Proofs.Ytnmhigbnlpcedaa.Gr
open Go.RowKit CM
set_option linter.unusedVariables false
set_option linter.unusedSimpArgs false

def thr (z : Int) : Bool := decide (z % 3 = 0)
/-- What the laws write over an entry from the number q on: the blocks stay. -/
def mkE (q : Nat) (e : EH) : EH := ⟨⟨(q : Int), (q : Int) + 1, (q : Int) + 1 + 1, (q : Int) + 1 + 1 + 1, (q : Int) + 1 + 1 + 1 + 1, thr ((q + 5 + e.d.rs.length + 3 * e.d.ws.length : Nat) : Int), mStrs (q + 5) e.d.rs.length, mWrs (q + 5 + e.d.rs.length) e.d.ws.length⟩, e.Ar, e.cr, e.Aw, e.cw, e.lo, e.m, e.hi⟩
def nxE (q : Nat) (e : EH) : Nat := q + 6 + e.d.rs.length + 3 * e.d.ws.length
theorem nxE_up (q : Nat) (e : EH) : q + 1 ≤ nxE q e := by unfold nxE; omega
theorem nxE_le (q : Nat) (e : EH) : nxE q e ≤ q + 6 * (1 + szE e) := by
  unfold nxE szE szSs szWs
  omega
theorem nxE_dat (q : Nat) (x y : EH) (h : x.d = y.d) : nxE q x = nxE q y := by unfold nxE; rw [h]
def mkR (q : Nat) (r : RH) : RH := ⟨thr (q : Int), ((aft nxE (q + 1) r.es : Nat) : Int), r.A, r.c, mkAll mkE nxE (q + 1) r.es, r.lo, r.hi⟩
def nxR (q : Nat) (r : RH) : Nat := aft nxE (q + 1) r.es + 1
theorem nxR_up (q : Nat) (r : RH) : q + 1 ≤ nxR q r := by have := aft_up (fun k x => Nat.le_trans (Nat.le_succ k) (nxE_up k x)) (q + 1) r.es; unfold nxR; omega
theorem nxR_le (q : Nat) (r : RH) : nxR q r ≤ q + 6 * (1 + szR r) := by
  have := aft_sz (sz := szE) (C := 6) nxE_le (q + 1) r.es
  unfold nxR szR szAll
  omega
theorem nxR_dat (q : Nat) (x y : RH) (h : rdat x = rdat y) : nxR q x = nxR q y := by
  unfold nxR
  simp only [rdat, RD.mk.injEq] at h
  rw [aft_dat (dat := EH.d) nxE_dat _ _ _ h.2.2]

section
variable {w w' : World} {lo hi cap : Nat} {A : Option Addr} {ms rt : List EH}
/-- The reads of an entry written over. -/
theorem own_reads {d : ED} {Ar Aw : Option Addr} {cr cw elo em ehi : Nat} {rs' : List ByteArray} (h : OwnK KE w lo hi A cap (ms ++ ⟨d, Ar, cr, Aw, cw, elo, em, ehi⟩ :: rt)) (hm : MidA Ar w w') (ho : OwnS w' elo em Ar cr rs') (hl : rs'.length = d.rs.length) :
    OwnK KE w' lo hi A cap (ms ++ ⟨⟨d.tm, d.k, d.t, d.x, d.l, d.y, rs', d.ws⟩, Ar, cr, Aw, cw, elo, em, ehi⟩ :: rt) ∧ Mid elo ehi w w' := by
  have hx := (h.2.1 _ (List.mem_append_right _ (List.mem_cons_self ..))).1
  obtain ⟨h1, h2, h3, h4⟩ := hx
  simp only at h1 h2 h3 h4
  have hmid : Mid elo ehi w w' := hm.mid fun x hx => by have := Own.block h3 x hx; omega
  refine ⟨h.inAt _ hmid ⟨h1, h2, ho, ?_⟩ (by show enCs _ = enCs _; simp [enCs, hl]) rfl rfl, hmid⟩
  exact Own.midA h4 hm fun x y hx hy => by have e1 := (Own.block h3 x hx).2.1; have e2 := (Own.block h4 y hy).1; omega
theorem own_writes {d : ED} {Ar Aw : Option Addr} {cr cw elo em ehi : Nat} {ws' : List (ByteArray × ByteArray × Bool)} (h : OwnK KE w lo hi A cap (ms ++ ⟨d, Ar, cr, Aw, cw, elo, em, ehi⟩ :: rt)) (hm : MidA Aw w w') (ho : OwnW w' em ehi Aw cw ws') (hl : ws'.length = d.ws.length) :
    OwnK KE w' lo hi A cap (ms ++ ⟨⟨d.tm, d.k, d.t, d.x, d.l, d.y, d.rs, ws'⟩, Ar, cr, Aw, cw, elo, em, ehi⟩ :: rt) ∧ Mid elo ehi w w' := by
  have hx := (h.2.1 _ (List.mem_append_right _ (List.mem_cons_self ..))).1
  obtain ⟨h1, h2, h3, h4⟩ := hx
  simp only at h1 h2 h3 h4
  have hmid : Mid elo ehi w w' := hm.mid fun x hx => by have := Own.block h4 x hx; omega
  refine ⟨h.inAt _ hmid ⟨h1, h2, ?_, ho⟩ (by show enCs _ = enCs _; simp [enCs, hl]) rfl rfl, hmid⟩
  exact Own.midA h3 hm fun x y hx hy => by have e1 := (Own.block h4 x hx).1; have e2 := (Own.block h3 y hy).2.1; omega
end

set_option maxRecDepth 100000 in
set_option maxHeartbeats 4000000 in
theorem markEntryS_any (A : Option Addr) (n cap k lo hi : Nat) (hs : List EH) (w : World) (hn : hs.length = n) (h : OwnK KE w lo hi A cap hs) (hhi : hi ≤ w.heap.size) (hk1 : 1 ≤ k) (hk : aft nxE k hs ≤ 1000000000) :
    Calls Try.prog 41 #[.slice A n cap, .int .i64 (k : Int)] w fun e w' => e = .returned (.int .i64 ((aft nxE k hs : Nat) : Int)) ∧ OwnK KE w' lo hi A cap (mkAll mkE nxE k hs) ∧ Mid lo hi w w' := by
  have HN := Lib.hid hn
  have HO := Lib.hid h
  clear h
  go_enter Try.func41, Try.ntmps41
  go_wp2
  go_loopw [1, 5] (fun x i wr => ∃ (ds rt : List EH) (q : Nat), Hid (hs = ds ++ rt) ∧ Hid (q = aft nxE k ds) ∧ 1 ≤ q ∧ x = .int .i64 (q : Int) ∧ i = .int .i64 ds.length ∧ Hid (OwnK KE wr lo hi A cap (mkAll mkE nxE k ds ++ rt)) ∧ Hid (Mid lo hi w wr) ∧ hi ≤ wr.heap.size) (fun _ i _ => n - (intOf i).toNat)
  case atStart => exact ⟨[], hs, k, rfl, rfl, hk1, rfl, rfl, HO, Mid.refl _ _ _, hhi⟩
  case round =>
    clear HO
    obtain ⟨ds, rt, q, HS, HQ, hq1, rfl, rfl, HO, HM, hhr⟩ := hrel
    have hlen : ds.length + rt.length = n := by rw [← HN.out, HS.out, List.length_append]
    have HML := Lib.hid (mkAll_len (mk := mkE) (nx := nxE) k ds)
    obtain ⟨j, hj⟩ : ∃ j, j = ds.length := ⟨_, rfl⟩
    have HJ := Lib.hid hj
    rw [← hj] at hlen ⊢
    cases rt with
    | cons x t =>
      obtain ⟨⟨tm, kk, tt, xx, ll, yy, rs, ws⟩, Ar, cr, Aw, cw, elo, em, ehi⟩ := x
      have haf : q + 6 + rs.length + 3 * ws.length ≤ 1000000000 := by
        have h1 : aft nxE k hs = aft nxE (q + 6 + rs.length + 3 * ws.length) t := by rw [HS.out, aft_append, ← HQ.out]; rfl
        have h2 := aft_up (fun k x => Nat.le_trans (Nat.le_succ k) (nxE_up k x)) (q + 6 + rs.length + 3 * ws.length) t
        omega
      have hlt : j < n := by simp at hlen; omega
      have hjq : j ≤ q := by rw [HQ.out, HJ.out]; exact Nat.le_trans (Nat.le_add_left _ _) (aft_len nxE_up k ds)
      obtain ⟨g, cur, rfl, hg1, hg2, hh, hc1, hc2⟩ := HO.out.form (by simp; omega)
      have hjc : j < cap := by
        have h1 := hc1
        simp only [List.length_append, List.length_cons, HML.out] at h1
        rw [← HJ.out] at h1
        omega
      have HG := Lib.hid (show lo ≤ g ∧ g < hi from ⟨hg1, hg2⟩)
      have hj0 : (0 : Int) ≤ (j : Int) := by omega
      have hj1 : (j : Int) < (n : Int) := by omega
      have hsz : cur.size = cap * 8 := hc2
      have cell := fun i (hi8 : i < 8) => show ∃ v, wr.cell? ⟨g, j * 8 + i, none⟩ = some v from ⟨cur[j * 8 + i]'(by omega), by rw [cell_of_row wr g _ cur _ (0, 0) hh]; exact Array.getElem?_eq_getElem (by omega)⟩
      have hfr := fun i => show wr.frozen? ⟨g, j * 8 + i, none⟩ = false by simp [World.frozen?, hh]
      obtain ⟨v0, hv0⟩ := cell 0 (by omega)
      have hfr0 := hfr 0
      obtain ⟨v1, hv1⟩ := cell 1 (by omega)
      have hfr1 := hfr 1
      obtain ⟨v2, hv2⟩ := cell 2 (by omega)
      have hfr2 := hfr 2
      obtain ⟨v3, hv3⟩ := cell 3 (by omega)
      have hfr3 := hfr 3
      obtain ⟨v4, hv4⟩ := cell 4 (by omega)
      have hfr4 := hfr 4
      rw [Nat.add_zero] at hv0 hfr0
      have hcx := fun i (hi8 : i < 8) => OwnK.cell HO.out j (by simp [HML.out, ← HJ.out]) i hi8
      have ex : (mkAll mkE nxE k ds ++ ⟨⟨tm, kk, tt, xx, ll, yy, rs, ws⟩, Ar, cr, Aw, cw, elo, em, ehi⟩ :: t)[j]'(by simp [HML.out, ← HJ.out]) = ⟨⟨tm, kk, tt, xx, ll, yy, rs, ws⟩, Ar, cr, Aw, cw, elo, em, ehi⟩ := by
        rw [List.getElem_append_right (by rw [HML.out, ← HJ.out]; exact Nat.le_refl _)]
        simp [HML.out, HJ.out]
      rw [ex] at hcx
      have hcA : wr.cell? ⟨g, j * 8 + 5, none⟩ = some (.slice Ar rs.length cr) := hcx 5 (by omega)
      have hcW : wr.cell? ⟨g, j * 8 + 6, none⟩ = some (.slice Aw ws.length cw) := hcx 6 (by omega)
      have ho1 := (((((HO.out).cellAt (⟨⟨(q : Int), kk, tt, xx, ll, yy, rs, ws⟩, Ar, cr, Aw, cw, elo, em, ehi⟩ : EH) 0 (by decide) (.int .i64 ((q : Int))) rfl rfl rfl (fun _ h => h) (j * 8) (by rw [HML.out, HJ.out]; rfl)).cellAt (⟨⟨(q : Int), (q : Int) + 1, tt, xx, ll, yy, rs, ws⟩, Ar, cr, Aw, cw, elo, em, ehi⟩ : EH) 1 (by decide) (.int .i64 ((q : Int) + 1)) rfl rfl rfl (fun _ h => h) (j * 8 + 1) (by rw [HML.out, HJ.out]; rfl)).cellAt (⟨⟨(q : Int), (q : Int) + 1, (q : Int) + 1 + 1, xx, ll, yy, rs, ws⟩, Ar, cr, Aw, cw, elo, em, ehi⟩ : EH) 2 (by decide) (.int .i64 ((q : Int) + 1 + 1)) rfl rfl rfl (fun _ h => h) (j * 8 + 2) (by rw [HML.out, HJ.out]; rfl)).cellAt (⟨⟨(q : Int), (q : Int) + 1, (q : Int) + 1 + 1, (q : Int) + 1 + 1 + 1, ll, yy, rs, ws⟩, Ar, cr, Aw, cw, elo, em, ehi⟩ : EH) 3 (by decide) (.int .i64 ((q : Int) + 1 + 1 + 1)) rfl rfl rfl (fun _ h => h) (j * 8 + 3) (by rw [HML.out, HJ.out]; rfl)).cellAt (⟨⟨(q : Int), (q : Int) + 1, (q : Int) + 1 + 1, (q : Int) + 1 + 1 + 1, (q : Int) + 1 + 1 + 1 + 1, yy, rs, ws⟩, Ar, cr, Aw, cw, elo, em, ehi⟩ : EH) 4 (by decide) (.int .i64 ((q : Int) + 1 + 1 + 1 + 1)) rfl rfl rfl (fun _ h => h) (j * 8 + 4) (by rw [HML.out, HJ.out]; rfl)
      have hm1 := (((((HM.out).set (p := ⟨g, j * 8, none⟩) HG.out (.int .i64 ((q : Int)))).set (p := ⟨g, j * 8 + 1, none⟩) HG.out (.int .i64 ((q : Int) + 1))).set (p := ⟨g, j * 8 + 2, none⟩) HG.out (.int .i64 ((q : Int) + 1 + 1))).set (p := ⟨g, j * 8 + 3, none⟩) HG.out (.int .i64 ((q : Int) + 1 + 1 + 1))).set (p := ⟨g, j * 8 + 4, none⟩) HG.out (.int .i64 ((q : Int) + 1 + 1 + 1 + 1))
      obtain ⟨w2, hw2⟩ : ∃ w2, w2 = (((((wr).setCell ⟨g, j * 8, none⟩ (.int .i64 ((q : Int)))).setCell ⟨g, j * 8 + 1, none⟩ (.int .i64 ((q : Int) + 1))).setCell ⟨g, j * 8 + 2, none⟩ (.int .i64 ((q : Int) + 1 + 1))).setCell ⟨g, j * 8 + 3, none⟩ (.int .i64 ((q : Int) + 1 + 1 + 1))).setCell ⟨g, j * 8 + 4, none⟩ (.int .i64 ((q : Int) + 1 + 1 + 1 + 1)) := ⟨_, rfl⟩
      have hh2 : hi ≤ w2.heap.size := by rw [hw2]; simpa [World.setCell] using hhr
      have kg2 : w2.cell? ⟨g, j * 8 + 6, none⟩ = some (.slice Aw ws.length cw) := by
        have := (OwnK.cell ho1 j (by simp [HML.out, ← HJ.out]) 6 (by decide))
        rw [hw2]
        simpa [List.getElem_append_right, HML.out, HJ.out, KE, enCs] using this
      rw [← hw2] at ho1 hm1
      have hx2 := (ho1.2.1 _ (List.mem_append_right _ (List.mem_cons_self ..)))
      have HV := Lib.hid (markStringS_any Ar rs.length cr (q + 5) elo em rs w2 rfl hx2.1.2.2.1 (by omega) (by omega))
      have heb := Lib.hid (show lo ≤ elo ∧ ehi ≤ hi from ⟨hx2.2.1, hx2.2.2.1⟩)
      have heg := Lib.hid (show g < elo ∨ ehi ≤ g from hx2.2.2.2 ⟨g, 0, none⟩ rfl)
      have eq5 : ((q + 5 : Nat) : Int) = (q : Int) + 1 + 1 + 1 + 1 + 1 := by omega
      rw [eq5] at HV
      have HO2 := Lib.hid ho1
      have HM2 := Lib.hid hm1
      have HW2 := Lib.hid hw2
      clear hh hc1 hc2 hsz hg1 hg2 hj cell hfr ho1 hm1 hw2 eq5 hcx ex hx2 hcW
      go_wp2_with fail
      rw [← HW2.out]
      refine HV.out.mono ?_
      rintro e w3 ⟨rfl, ho3, hm3⟩
      obtain ⟨ho4, hmm4⟩ := own_reads HO2.out hm3 ho3 (mStrs_len _ _)
      have HM3 := Lib.hid (HM2.out.trans (mid_wide hmm4 heb.out))
      have hh3 := Nat.le_trans hh2 hm3.2.2.2.1
      have hx3 := (ho4.2.1 _ (List.mem_append_right _ (List.mem_cons_self ..)))
      have hcW : w3.cell? ⟨g, j * 8 + 6, none⟩ = some (.slice Aw ws.length cw) := by
        have := (OwnK.cell ho4 j (by simp [HML.out, ← HJ.out]) 6 (by decide))
        simpa [List.getElem_append_right, HML.out, HJ.out, KE, enCs] using this
      obtain ⟨m1, hm1⟩ : ∃ m, m = q + 5 + rs.length := ⟨_, rfl⟩
      have HV2 := Lib.hid (markWriteS_any Aw ws.length cw m1 em ehi ws w3 rfl hx3.1.2.2.2 (by omega) (by omega))
      have HO4 := Lib.hid ho4
      rw [← hm1]
      have hm10 : (0 : Int) ≤ (m1 : Int) := by omega
      have hm1b : m1 + 3 * ws.length + 1 ≤ 1000000000 := by omega
      have HM1 := Lib.hid hm1
      clear ho3 hm3 ho4 hmm4 hx3 hm1 hv0 hv1 hv2 hv3 hv4 hfr0 hfr1 hfr2 hfr3 hfr4 hcA kg2
      go_wp2_with fail
      refine HV2.out.mono ?_
      rintro e w4 ⟨rfl, ho5, hm5⟩
      obtain ⟨ho6, hmm6⟩ := own_writes HO4.out hm5 ho5 (mWrs_len _ _)
      have HM6 := Lib.hid (HM3.out.trans (mid_wide hmm6 heb.out))
      have hh6 := Nat.le_trans hh3 hm5.2.2.2.1
      obtain ⟨g', cur1, hA, _, _, hh7, _, hz1⟩ := ho6.form (by simp; omega)
      injection hA with hA
      injection hA with hgg
      subst hgg
      have hz2 : cur1.size = cap * 8 := hz1
      obtain ⟨v7, hv7⟩ : ∃ v, w4.cell? ⟨g, j * 8 + 7, none⟩ = some v := ⟨cur1[j * 8 + 7]'(by omega), by rw [cell_of_row w4 g _ cur1 _ (0, 0) hh7]; exact Array.getElem?_eq_getElem (by omega)⟩
      have hfr7 : w4.frozen? ⟨g, j * 8 + 7, none⟩ = false := by simp [World.frozen?, hh7]
      obtain ⟨m2, hm2⟩ : ∃ m, m = m1 + 3 * ws.length := ⟨_, rfl⟩
      have HO7 := Lib.hid (ho6.cellAt (⟨⟨(q : Int), (q : Int) + 1, (q : Int) + 1 + 1, (q : Int) + 1 + 1 + 1, (q : Int) + 1 + 1 + 1 + 1, thr (m2 : Int), mStrs (q + 5) rs.length, mWrs m1 ws.length⟩, Ar, cr, Aw, cw, elo, em, ehi⟩ : EH) 7 (by decide) (.bool (thr (m2 : Int))) rfl rfl rfl (fun _ h => h) (j * 8 + 7) (by rw [HML.out, HJ.out]; rfl))
      have HM7 := Lib.hid (HM6.out.set (p := ⟨g, j * 8 + 7, none⟩) HG.out (.bool (thr (m2 : Int))))
      rw [← hm2]
      have hm20 : (0 : Int) ≤ (m2 : Int) := by omega
      have hm2b : m2 + 1 ≤ 1000000000 := by omega
      have HM2' := Lib.hid hm2
      clear ho5 hm5 ho6 hmm6 hh7 hz1 hz2 hm2 hcW
      go_wp2
      go_roundw
      case rel =>
        refine ⟨ds ++ [⟨⟨tm, kk, tt, xx, ll, yy, rs, ws⟩, Ar, cr, Aw, cw, elo, em, ehi⟩], t, q + 6 + rs.length + 3 * ws.length, ?_, ?_, by omega, ?_, ?_, ?_, HM7, by simpa [World.setCell] using hh6⟩
        · show _ = _; rw [HS.out]; simp
        · show _ = _; rw [aft_snoc, ← HQ.out]; rfl
        · have h1 := HM1.out; have h2 := HM2'.out; go_num
        · rw [List.length_append, ← HJ.out]; go_num
        · show OwnK KE _ _ _ _ _ _
          rw [mkAll_snoc, ← HQ.out, List.append_assoc]
          have h7 := HO7.out
          rw [HM2'.out, HM1.out] at h7
          rw [HM2'.out, HM1.out]
          exact h7
      case measure => simp [intOf]; omega
    | nil =>
      have hjn : j = n := by simpa using hlen
      subst hjn
      have HR := Lib.hid (show q = aft nxE k hs ∧ OwnK KE wr lo hi A cap (mkAll mkE nxE k hs) from ⟨by rw [HQ.out, HS.out, List.append_nil], by have := HO.out; rw [HS.out, List.append_nil]; rwa [List.append_nil] at this⟩)
      clear hj
      go_wp2
      go_ret
      exact ⟨by rw [HR.out.1]; rfl, HR.out.2, HM.out⟩

set_option maxRecDepth 100000 in
set_option maxHeartbeats 4000000 in
theorem markReplicaS_any (A : Option Addr) (n cap k lo hi : Nat) (hs : List RH) (w : World) (hn : hs.length = n) (h : OwnK KR w lo hi A cap hs) (hhi : hi ≤ w.heap.size) (hk1 : 1 ≤ k) (hk : aft nxR k hs ≤ 1000000000) :
    Calls Try.prog 48 #[.slice A n cap, .int .i64 (k : Int)] w fun e w' => e = .returned (.int .i64 ((aft nxR k hs : Nat) : Int)) ∧ OwnK KR w' lo hi A cap (mkAll mkR nxR k hs) ∧ Mid lo hi w w' := by
  have HN := Lib.hid hn
  have HO := Lib.hid h
  clear h
  go_enter Try.func48, Try.ntmps48
  go_wp2
  go_loopw [1, 5] (fun x i wr => ∃ (ds rt : List RH) (q : Nat), Hid (hs = ds ++ rt) ∧ Hid (q = aft nxR k ds) ∧ 1 ≤ q ∧ x = .int .i64 (q : Int) ∧ i = .int .i64 ds.length ∧ Hid (OwnK KR wr lo hi A cap (mkAll mkR nxR k ds ++ rt)) ∧ Hid (Mid lo hi w wr) ∧ hi ≤ wr.heap.size) (fun _ i _ => n - (intOf i).toNat)
  case atStart => exact ⟨[], hs, k, rfl, rfl, hk1, rfl, rfl, HO, Mid.refl _ _ _, hhi⟩
  case round =>
    clear HO
    obtain ⟨ds, rt, q, HS, HQ, hq1, rfl, rfl, HO, HM, hhr⟩ := hrel
    have hlen : ds.length + rt.length = n := by rw [← HN.out, HS.out, List.length_append]
    have HML := Lib.hid (mkAll_len (mk := mkR) (nx := nxR) k ds)
    obtain ⟨j, hj⟩ : ∃ j, j = ds.length := ⟨_, rfl⟩
    have HJ := Lib.hid hj
    rw [← hj] at hlen ⊢
    cases rt with
    | cons x t =>
      obtain ⟨up, su, Al, cl, es, rlo, rhi⟩ := x
      have haf : aft nxE (q + 1) es + 1 ≤ 1000000000 := by
        have h1 : aft nxR k hs = aft nxR (aft nxE (q + 1) es + 1) t := by rw [HS.out, aft_append, ← HQ.out]; rfl
        have h2 := aft_up (fun k x => Nat.le_trans (Nat.le_succ k) (nxR_up k x)) (aft nxE (q + 1) es + 1) t
        omega
      have hlt : j < n := by simp at hlen; omega
      have hjq : j ≤ q := by rw [HQ.out, HJ.out]; exact Nat.le_trans (Nat.le_add_left _ _) (aft_len nxR_up k ds)
      obtain ⟨g, cur, rfl, hg1, hg2, hh, hc1, hc2⟩ := HO.out.form (by simp; omega)
      have hjc : j < cap := by
        have h1 := hc1
        simp only [List.length_append, List.length_cons, HML.out] at h1
        rw [← HJ.out] at h1
        omega
      have HG := Lib.hid (show lo ≤ g ∧ g < hi from ⟨hg1, hg2⟩)
      have hj0 : (0 : Int) ≤ (j : Int) := by omega
      have hj1 : (j : Int) < (n : Int) := by omega
      have hsz : cur.size = cap * 3 := hc2
      have cell := fun i (hi3 : i < 3) => show ∃ v, wr.cell? ⟨g, j * 3 + i, none⟩ = some v from ⟨cur[j * 3 + i]'(by omega), by rw [cell_of_row wr g _ cur _ (0, 0) hh]; exact Array.getElem?_eq_getElem (by omega)⟩
      have hfr := fun i => show wr.frozen? ⟨g, j * 3 + i, none⟩ = false by simp [World.frozen?, hh]
      obtain ⟨v0, hv0⟩ := cell 0 (by omega)
      have hfr0 := hfr 0
      rw [Nat.add_zero] at hv0 hfr0
      have hcx := fun i (hi3 : i < 3) => OwnK.cell HO.out j (by simp [HML.out, ← HJ.out]) i hi3
      have ex : (mkAll mkR nxR k ds ++ ⟨up, su, Al, cl, es, rlo, rhi⟩ :: t)[j]'(by simp [HML.out, ← HJ.out]) = ⟨up, su, Al, cl, es, rlo, rhi⟩ := by
        rw [List.getElem_append_right (by rw [HML.out, ← HJ.out]; exact Nat.le_refl _)]
        simp [HML.out, HJ.out]
      rw [ex] at hcx
      have hcA : wr.cell? ⟨g, j * 3 + 1, none⟩ = some (.slice Al es.length cl) := hcx 1 (by omega)
      have ho1 := HO.out.cellAt (⟨thr (q : Int), su, Al, cl, es, rlo, rhi⟩ : RH) 0 (by decide) (.bool (thr (q : Int))) rfl rfl rfl (fun _ h => h) (j * 3) (by rw [HML.out, HJ.out]; rfl)
      have hm1 := HM.out.set (p := ⟨g, j * 3, none⟩) HG.out (.bool (thr (q : Int)))
      obtain ⟨w2, hw2⟩ : ∃ w2, w2 = wr.setCell ⟨g, j * 3, none⟩ (.bool (thr (q : Int))) := ⟨_, rfl⟩
      have hh2 : hi ≤ w2.heap.size := by rw [hw2]; simpa [World.setCell] using hhr
      rw [← hw2] at ho1 hm1
      have hx2 := (ho1.2.1 _ (List.mem_append_right _ (List.mem_cons_self ..)))
      have heb := Lib.hid (show lo ≤ rlo ∧ rhi ≤ hi from ⟨hx2.2.1, hx2.2.2.1⟩)
      have hup := aft_up (fun k x => Nat.le_trans (Nat.le_succ k) (nxE_up k x)) (q + 1) es
      have HV := Lib.hid (markEntryS_any Al es.length cl (q + 1) rlo rhi es w2 rfl hx2.1.2 (Nat.le_trans heb.out.2 hh2) (by omega) (by omega))
      have eq1 : ((q + 1 : Nat) : Int) = (q : Int) + 1 := by omega
      rw [eq1] at HV
      have HO2 := Lib.hid ho1
      have HM2 := Lib.hid hm1
      have HW2 := Lib.hid hw2
      clear hh hc1 hc2 hsz hg1 hg2 hj cell hfr ho1 hm1 hw2 eq1 hcx ex hx2
      go_wp2_with fail
      rw [show ((q : Int) % 3 == 0) = thr (q : Int) from rfl, ← HW2.out]
      refine HV.out.mono ?_
      rintro e w3 ⟨rfl, ho3, hm3⟩
      have ho4 := HO2.out.inAt (⟨thr (q : Int), su, Al, cl, mkAll mkE nxE (q + 1) es, rlo, rhi⟩ : RH) hm3 ⟨(HO2.out.2.1 _ (List.mem_append_right _ (List.mem_cons_self ..))).1.1, ho3⟩ (by show rpCs _ = rpCs _; simp [rpCs, mkAll_len]) rfl rfl
      have HM3 := Lib.hid (HM2.out.trans (mid_wide hm3 heb.out))
      have hh3 := Nat.le_trans hh2 hm3.2.2.2.1
      obtain ⟨g', cur1, hA, _, _, hh7, _, hz1⟩ := ho4.form (by simp; omega)
      injection hA with hA
      injection hA with hgg
      subst hgg
      have hz2 : cur1.size = cap * 3 := hz1
      obtain ⟨v7, hv7⟩ : ∃ v, w3.cell? ⟨g, j * 3 + 2, none⟩ = some v := ⟨cur1[j * 3 + 2]'(by omega), by rw [cell_of_row w3 g _ cur1 _ (0, 0) hh7]; exact Array.getElem?_eq_getElem (by omega)⟩
      have hfr7 : w3.frozen? ⟨g, j * 3 + 2, none⟩ = false := by simp [World.frozen?, hh7]
      obtain ⟨m2, hm2⟩ : ∃ m, m = aft nxE (q + 1) es := ⟨_, rfl⟩
      have HO7 := Lib.hid (ho4.cellAt (⟨thr (q : Int), (m2 : Int), Al, cl, mkAll mkE nxE (q + 1) es, rlo, rhi⟩ : RH) 2 (by decide) (.int .i64 (m2 : Int)) rfl rfl rfl (fun _ h => h) (j * 3 + 2) (by rw [HML.out, HJ.out]; rfl))
      have HM7 := Lib.hid (HM3.out.set (p := ⟨g, j * 3 + 2, none⟩) HG.out (.int .i64 (m2 : Int)))
      rw [← hm2]
      have hm20 : (0 : Int) ≤ (m2 : Int) := by omega
      have hm2b : m2 + 1 ≤ 1000000000 := by omega
      have HM2' := Lib.hid hm2
      clear ho3 hm3 ho4 hh7 hz1 hz2 hm2 hcA hv0 hfr0
      go_wp2
      go_roundw
      case rel =>
        refine ⟨ds ++ [⟨up, su, Al, cl, es, rlo, rhi⟩], t, m2 + 1, ?_, ?_, by omega, ?_, ?_, ?_, HM7, by simpa [World.setCell] using hh3⟩
        · show _ = _; rw [HS.out]; simp
        · show _ = _; rw [aft_snoc, ← HQ.out, HM2'.out]; rfl
        · go_num
        · rw [List.length_append, ← HJ.out]; go_num
        · show OwnK KR _ _ _ _ _ _
          rw [mkAll_snoc, ← HQ.out, List.append_assoc]
          have h7 := HO7.out
          rw [HM2'.out] at h7
          rw [HM2'.out]
          exact h7
      case measure => simp [intOf]; omega
    | nil =>
      have hjn : j = n := by simpa using hlen
      subst hjn
      have HR := Lib.hid (show q = aft nxR k hs ∧ OwnK KR wr lo hi A cap (mkAll mkR nxR k hs) from ⟨by rw [HQ.out, HS.out, List.append_nil], by have := HO.out; rw [HS.out, List.append_nil]; rwa [List.append_nil] at this⟩)
      clear hj
      go_wp2
      go_ret
      exact ⟨by rw [HR.out.1]; rfl, HR.out.2, HM.out⟩

set_option maxHeartbeats 1000000 in
theorem markGroup_any (A : Option Addr) (n cap lo hi : Nat) (tm ld : Int) (hs : List RH) (w : World) (hn : hs.length = n) (h : OwnK KR w lo hi A cap hs) (hhi : hi ≤ w.heap.size) (hk : aft nxR 1 hs ≤ 1000000000) :
    Calls Try.prog 16 #[.agg #[.slice A n cap, .int .i64 tm, .int .i64 ld], .int .i64 1] w fun e w' => e = .returned (.int .i64 ((aft nxR 1 hs : Nat) : Int)) ∧ OwnK KR w' lo hi A cap (mkAll mkR nxR 1 hs) ∧ Mid lo hi w w' := by
  have hb1 := below1 w (.cells #[.slice A n cap, .int .i64 tm, .int .i64 ld] 24)
  have HM := Lib.hid (fun W (hW : Below w.heap.size w W) => markReplicaS_any A n cap 1 lo hi hs W hn (h.since hW) (Nat.le_trans hhi hW.size) (Nat.le_refl _) hk)
  rw [show (((1 : Nat) : Int)) = 1 from rfl] at HM
  have HB := Lib.hid (Below.mid (lo := lo) (hi := hi) hb1)
  have HB1 := Lib.hid hb1
  clear h hn hhi hb1
  go_enter Try.func16, Try.ntmps16
  go_wp2_with fail
  refine (HM.out _ HB1.out).mono ?_
  rintro e w1 ⟨rfl, ho, hm⟩
  have HR := Lib.hid (And.intro ho (HB.out.trans hm))
  clear ho hm
  go_wp2
  go_ret
  exact ⟨rfl, HR.out.1, HR.out.2⟩
end Go.Proofs.Ytnmhigbnlpcedaa.Gr
