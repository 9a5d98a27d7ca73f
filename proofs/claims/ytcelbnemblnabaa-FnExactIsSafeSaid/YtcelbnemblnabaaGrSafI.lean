/-
  IsSafe of the program.
-/
import Derived.Test.YtcelbnemblnabaaGrSafM
import Derived.Test.YtcelbnemblnabaaBel
import Derived.BigQuiet
namespace Go.Proofs.Ytcelbnemblnabaa.Gr
open Go.RowKit CM
set_option linter.unusedVariables false
set_option linter.unusedSimpArgs false

theorem sameE_comm (a b : ED) : sameE a b = sameE b a := by
  unfold sameE sameB
  rw [Bool.eq_iff_iff]
  simp only [Bool.and_eq_true, beq_iff_eq, decide_eq_true_eq]
  constructor <;> (rintro ⟨h1, h2, h3, h4, h5, h6, h7, h8⟩; exact ⟨h1.symm, h2.symm, h3.symm, h4.symm, h5.symm, h6.symm, h7.symm, h8.symm⟩)
theorem shN_comm : ∀ (a b : List ED), shN a b = shN b a
  | [], [] => rfl
  | [], _ :: _ => by simp [shN]
  | _ :: _, [] => by simp [shN]
  | a :: l, b :: m => by simp only [shN, sameE_comm a b, shN_comm l m]
theorem shN_take : ∀ (a b : List ED) (s t : Nat), shN (a.take s) (b.take t) = min (min s t) (shN a b)
  | [], b, s, t => by cases b <;> simp [shN]
  | a :: l, [], s, t => by cases s <;> simp [shN]
  | a :: l, b :: m, 0, t => by simp [shN]
  | a :: l, b :: m, s + 1, 0 => by simp [shN]
  | a :: l, b :: m, s + 1, t + 1 => by
    simp only [List.take_succ_cons, shN, shN_take l m s t]
    split <;> omega
theorem pair_eq (ua ub : Bool) (sa sb : Nat) (Al Bl : Option Addr) (cl dl rlo rhi rlo2 rhi2 : Nat) (la lb : List EH) : pairB (rdat ⟨ua, (sa : Int), Al, cl, la, rlo, rhi⟩) (rdat ⟨ub, (sb : Int), Bl, dl, lb, rlo2, rhi2⟩) = (decide (shN ((la.take sa).map EH.d) ((lb.take sb).map EH.d) = sa) || decide (shN ((lb.take sb).map EH.d) ((la.take sa).map EH.d) = sb)) := by
  show decide (min sa sb ≤ shN (la.map EH.d) (lb.map EH.d)) = _
  rw [List.map_take, List.map_take, shN_take, shN_take, shN_comm (lb.map EH.d) (la.map EH.d), Bool.eq_iff_iff]
  simp only [decide_eq_true_eq, Bool.or_eq_true]
  omega
theorem lead_eq (es esq : List EH) (sa : Nat) : decide (sa ≤ shN (esq.map EH.d) (es.map EH.d)) = decide (shN ((es.take sa).map EH.d) (esq.map EH.d) = sa) := by
  have h := shN_take (es.map EH.d) (esq.map EH.d) sa (esq.map EH.d).length
  rw [List.take_length] at h
  have h2 := (shN_le (es.map EH.d) (esq.map EH.d)).2
  rw [List.map_take, h, shN_comm (esq.map EH.d) (es.map EH.d), Bool.eq_iff_iff]
  simp only [decide_eq_true_eq]
  omega
theorem lg_take {es : List EH} (h : LgSmall (es.map EH.d)) (s : Nat) : LgSmall ((es.take s).map EH.d) :=
  ⟨by have := h.1; simp at this ⊢; omega, fun d hd => h.2 d (by rw [List.map_take] at hd; exact List.mem_of_mem_take hd)⟩

set_option maxRecDepth 100000 in
set_option maxHeartbeats 16000000 in
theorem implIsSafe_any (A : Option Addr) (n c : Nat) (tm ld : Int) (hs : List RH) (B : Nat) (w : World) (hn : hs.length = n) (h : RowsB KR w B A hs) (hB : B ≤ w.heap.size) (hm : RpSmall (hs.map rdat)) (hcap : ∀ r ∈ hs, CapOK r) :
    Calls Try.prog 7 #[.agg #[.slice A n c, .int .i64 tm, .int .i64 ld]] w fun e w' => e = .returned (.bool (safeB tm ld (hs.map rdat))) ∧ Below w.heap.size w w' := by
  have hb0 := below1 w (.cells #[.slice A n c, .int .i64 tm, .int .i64 ld] 29)
  have hk0 := heap_alloc_new w (.cells #[.slice A n c, .int .i64 tm, .int .i64 ld] 29)
  have hnl : n ≤ 1048576 := by have := hm.1; simp at this; omega
  have HGG := Lib.hid (implGoodGroup_any A n c tm ld hs B _ hn (h.below (hb0.mono hB)) (Nat.le_trans hB hb0.size) hm)
  have HB0 := Lib.hid hb0
  have HK0 := Lib.hid hk0
  have hwl : w.heap.size < (w.alloc (.cells #[.slice A n c, .int .i64 tm, .int .i64 ld] 29)).heap.size := by simp
  clear hb0 hk0
  obtain ⟨r, hr⟩ : ∃ r, r = safeB tm ld (hs.map rdat) := ⟨_, rfl⟩
  rw [← hr]
  unfold safeB at hr
  cases hg : grpB tm ld (hs.map rdat) with
  | false =>
    rw [hg] at HGG
    rw [hg, Bool.false_and] at hr
    subst hr
    clear hg
    go_enter Try.func7, Try.ntmps7
    go_wp2_with fail
    (with_reducible refine HGG.out.mono ?_)
    rintro e w1 ⟨rfl, ha1⟩
    have HB1 := Lib.hid (HB0.out.trans (ha1.mono HB0.out.size))
    clear ha1
    go_wp2
    go_ret
    exact ⟨rfl, HB1.out⟩
  | true =>
    rw [hg] at HGG
    rw [hg, Bool.true_and] at hr
    have HSU := Lib.hid (grp_sure hg)
    have HCP := Lib.hid hcap
    have HLD := Lib.hid (show ld = -1 ∨ ∃ q : Nat, ld = (q : Int) ∧ q < hs.length from by
      by_cases h1 : ld = -1
      · exact .inl h1
      · obtain ⟨q, h2, h3⟩ := lead_of hg h1
        exact .inr ⟨q, h2, by simpa using h3⟩)
    have hpos : 0 < n := by
      unfold grpB szB at hg
      simp only [Bool.and_eq_true, Bool.or_eq_true, decide_eq_true_eq, List.length_map] at hg
      omega
    obtain ⟨b, off, rfl, hbB, hc⟩ := rp_get h (by omega)
    have HC := Lib.hid hc
    have HS := Lib.hid h
    have HN := Lib.hid hn
    have HM := Lib.hid (fun x (hx : x ∈ hs) => (show LgSmall (x.es.map EH.d) from hm.2 (rdat x) (List.mem_map_of_mem hx)))
    have HR0 := Lib.hid (show r = ((hs.map rdat).drop 0).all (oneB ld (hs.map rdat)) by rw [hr, List.drop_zero])
    clear hr hc h hn hm hg
    go_enter Try.func7, Try.ntmps7
    go_wp2_with fail
    (with_reducible refine HGG.out.mono ?_)
    rintro e w1 ⟨rfl, ha1⟩
    have HB1 := Lib.hid (HB0.out.trans (ha1.mono HB0.out.size))
    have HK1 := Lib.hid ((ha1.block w.heap.size hwl).trans HK0.out)
    have hz1 : w.heap.size < w1.heap.size := Nat.lt_of_lt_of_le hwl ha1.size
    clear ha1
    have y0 := cell_blk (i := 0) HK1.out rfl
    go_wp2
    clear y0
    go_loopw [13] (fun j wr => ∃ k : Nat, k ≤ n ∧ j = .int .i64 k ∧ Hid (r = ((hs.map rdat).drop k).all (oneB ld (hs.map rdat))) ∧ Below w1.heap.size w1 wr) (fun j _ => n - (intOf j).toNat)
    case atStart => exact ⟨0, by omega, rfl, HR0, Below.refl _ _⟩
    case round =>
      clear HR0
      obtain ⟨k, hk, rfl, HR, hb⟩ := hrel
      obtain ⟨wo, hwo⟩ : ∃ wo, wo = wr := ⟨_, rfl⟩
      subst hwo
      have hbw := HB1.out.trans (hb.mono HB1.out.size)
      have hwo := hbw.size
      have ka2 := (hb.block w.heap.size hz1).trans HK1.out
      have y0 := cell_blk (i := 0) ka2 rfl
      have y2 := cell_blk (i := 2) ka2 rfl
      have yl := lt_blk ka2
      by_cases hlt : k < n
      · have ph : k < hs.length := by have := HN.out; omega
        obtain ⟨hc0, hc1, hc2⟩ := HC.out k ph
        have p0 := (hbw.cell (p := ⟨b, off + k * 3, none⟩) (Nat.lt_of_lt_of_le hbB hB)).trans hc0
        have p1 := (hbw.cell (p := ⟨b, off + k * 3 + 1, none⟩) (Nat.lt_of_lt_of_le hbB hB)).trans hc1
        have p2 := (hbw.cell (p := ⟨b, off + k * 3 + 2, none⟩) (Nat.lt_of_lt_of_le hbB hB)).trans hc2
        have HRS := Lib.hid (HR.out.trans (by rw [all_step (show k < (hs.map rdat).length by simpa using ph), r_at ph]))
        have hrd := KR.rd_below (HS.out.at k ph) (hbw.mono hB)
        have hsm := HM.out hs[k] (List.getElem_mem ph)
        have hsu := HSU.out hs[k] (List.getElem_mem ph)
        have hcp := HCP.out hs[k] (List.getElem_mem ph)
        obtain ⟨y, hy⟩ : ∃ y, y = hs[k]'ph := ⟨_, rfl⟩
        rw [← hy] at p0 p1 p2 hrd hsm hsu hcp HRS
        obtain ⟨ua, sau, Al, cl, es, rlo, rhi⟩ := y
        simp only [CapOK] at p0 p1 p2 hrd hsm hsu hcp
        obtain ⟨sa, hsa⟩ : ∃ sa : Nat, sau = (sa : Int) := ⟨sau.toNat, by omega⟩
        subst hsa
        obtain ⟨nl, hvnl⟩ : ∃ nl, nl = es.length := ⟨_, rfl⟩
        rw [← hvnl] at p1 hsu hcp
        have HVL := Lib.hid hvnl.symm
        have HRD := Lib.hid (show RowsB KE wo B Al es from hrd)
        have HSM := Lib.hid hsm
        obtain ⟨da, hda⟩ : ∃ da, da = rdat ⟨ua, (sa : Int), Al, cl, es, rlo, rhi⟩ := ⟨_, rfl⟩
        rw [← hda] at HRS
        have HDA := Lib.hid hda
        obtain ⟨pb, hpb⟩ : ∃ pb, pb = (hs.map rdat).all (pairB da) := ⟨_, rfl⟩
        obtain ⟨lb, hlb⟩ : ∃ lb, lb = ldB ld (hs.map rdat) da := ⟨_, rfl⟩
        have HRP := Lib.hid (show r = ((pb && lb) && ((hs.map rdat).drop (k + 1)).all (oneB ld (hs.map rdat))) by rw [HRS.out, oneB, hpb, hlb])
        have HLB := Lib.hid hlb
        have HP0 := Lib.hid (show pb = ((hs.map rdat).drop 0).all (pairB da) by rw [hpb, List.drop_zero])
        have hkn : (k : Int) < (n : Int) := by omega
        have hk0 : (0 : Int) ≤ (k : Int) := by omega
        have hbx := below1 wo (.cells #[.bool ua, .slice Al nl cl, .int .i64 (sa : Int)] 36)
        have kax := heap_alloc_new wo (.cells #[.bool ua, .slice Al nl cl, .int .i64 (sa : Int)] 36)
        have hnl2 : nl ≤ 1048576 := by rw [hvnl]; have := hsm.1; simpa using this
        have hsa2 : sa ≤ nl := by have := hsu.2; omega
        clear hvnl hda hpb hlb
        go_upto_region 6 with fail
        obtain ⟨V, hV⟩ : ∃ V, V = wo.alloc (.cells #[.bool ua, .slice Al nl cl, .int .i64 (sa : Int)] 36) := ⟨_, rfl⟩
        rw [← hV] at hbx kax ⊢
        obtain ⟨ga, hga⟩ : ∃ ga, ga = wo.heap.size := ⟨_, rfl⟩
        rw [← hga] at kax ⊢
        have hbV := hbw.trans (hbx.mono hbw.size)
        have HKV := Lib.hid ((hbx.block w.heap.size yl).trans ka2)
        have HKX := Lib.hid kax
        have HBX := Lib.hid hbx
        have HBV := Lib.hid hbV
        have HWV := Lib.hid (hb.trans (hbx.mono hb.size))
        have hzV : w.heap.size < V.heap.size := lt_blk HKV.out
        have hzg : ga < V.heap.size := lt_blk kax
        have HGA := Lib.hid hga
        clear hV hga hbx kax hbV p0 p1 p2 hc0 hc1 hc2 hy hrd hsm HRS HR hb hbw ka2 y0 y2 yl hsu
        have y0 := cell_blk (i := 0) HKV.out rfl
        have y1 := cell_blk (i := 1) HKV.out rfl
        have y2 := cell_blk (i := 2) HKV.out rfl
        have x0 := cell_blk (i := 0) HKX.out rfl
        have x1 := cell_blk (i := 1) HKX.out rfl
        have x2 := cell_blk (i := 2) HKX.out rfl
        have HSA := Lib.hid (fun W => sureOf_any ua Al nl cl sa W hcp hsa2)
        have HTK := Lib.hid (show (es.take sa).length = sa by rw [List.length_take, HVL.out]; omega)
        have HTS := Lib.hid (show LgSmall ((es.take sa).map EH.d) from lg_take HSM.out sa)
        clear hcp
        have hbel := (Below.refl V.heap.size V).drew
        rcases HLD.out with hld | ⟨q, hld, hqh⟩
        · subst hld
          have HHL := Lib.hid (fun W => hasLeader_any (some ⟨b, off, none⟩) n c tm (-1) W)
          rw [show (((-1 : Int)) != -1) = false from rfl] at HHL
          have hlt' : lb = true := by rw [HLB.out]; rfl
          have HRQ := Lib.hid (show r = (pb && ((hs.map rdat).drop (k + 1)).all (oneB (-1) (hs.map rdat))) by rw [HRP.out, hlt', Bool.and_true])
          clear hlt' HRP
          have t0 : V.cell? ⟨w.heap.size, 0, none⟩ = some (.slice (some ⟨b, off, none⟩) n c) ∧ V.cell? ⟨w.heap.size, 1, none⟩ = some (.int .i64 tm) ∧ V.cell? ⟨w.heap.size, 2, none⟩ = some (.int .i64 (-1)) := ⟨y0, y1, y2⟩
          have t1 : V.cell? ⟨ga, 0, none⟩ = some (.bool ua) ∧ V.cell? ⟨ga, 1, none⟩ = some (.slice Al nl cl) ∧ V.cell? ⟨ga, 2, none⟩ = some (.int .i64 (sa : Int)) := ⟨x0, x1, x2⟩
          clear y0 y1 y2 x0 x1 x2
          go_wp2_with fail
          have u0 := bel_cell t0.1 hzV
          have u1 := bel_cell t0.2.1 hzV
          have u2 := bel_cell t0.2.2 hzV
          have u3 := bel_cell t1.1 hzg
          have u4 := bel_cell t1.2.1 hzg
          have u5 := bel_cell t1.2.2 hzg
          refine bel_region (by kernel_rfl) (by kernel_rfl) ?_
          repeat (go_big_quiet_step ((go_at_call 15; exact bel_call (HHL.out _))))
          refine wpQuiet_nil ?_
          intro p
          have hQ1 := p.below
          obtain ⟨w4, hw4⟩ : ∃ w4, w4 = p.w := ⟨_, rfl⟩
          rw [← hw4] at hQ1 ⊢
          clear hw4
          have HVW := Lib.hid hQ1
          clear hQ1 t0 t1 hbel u0 u1 u2 u3 u4 u5
          have kv4 := (HVW.out.block w.heap.size hzV).trans HKV.out
          have y0 := cell_blk (i := 0) kv4 rfl
          clear kv4
          go_wp2
          clear y0
          go_loopw [35] (fun j wv => ∃ i : Nat, i ≤ n ∧ j = .int .i64 i ∧ Hid (pb = ((hs.map rdat).drop i).all (pairB da)) ∧ Below V.heap.size V wv) (fun j _ => n - (intOf j).toNat)
          case atStart => exact ⟨0, by omega, rfl, HP0, HVW.out⟩
          case round =>
            clear HP0
            obtain ⟨i, hi, rfl, HP, hv⟩ := hrel
            have hvw := HBV.out.trans (hv.mono HBV.out.size)
            have kv := (hv.block w.heap.size hzV).trans HKV.out
            have kx := (hv.block ga hzg).trans HKX.out
            have y0 := cell_blk (i := 0) kv rfl
            have y2 := cell_blk (i := 2) kv rfl
            have yl := lt_blk kv
            have a1 := cell_blk (i := 1) kx rfl
            have a2 := cell_blk (i := 2) kx rfl
            have al := lt_blk kx
            have hwr := HBX.out.trans (hv.mono HBX.out.size)
            by_cases hlt2 : i < n
            · have qh : i < hs.length := by have := HN.out; omega
              obtain ⟨hc0, hc1, hc2⟩ := HC.out i qh
              have q0 := (hvw.cell (p := ⟨b, off + i * 3, none⟩) (Nat.lt_of_lt_of_le hbB hB)).trans hc0
              have q1 := (hvw.cell (p := ⟨b, off + i * 3 + 1, none⟩) (Nat.lt_of_lt_of_le hbB hB)).trans hc1
              have q2 := (hvw.cell (p := ⟨b, off + i * 3 + 2, none⟩) (Nat.lt_of_lt_of_le hbB hB)).trans hc2
              have HPS := Lib.hid (HP.out.trans (by rw [all_step (show i < (hs.map rdat).length by simpa using qh), r_at qh]))
              have hrd := KR.rd_below (HS.out.at i qh) (hvw.mono hB)
              have hsm := HM.out hs[i] (List.getElem_mem qh)
              have hsu := HSU.out hs[i] (List.getElem_mem qh)
              obtain ⟨y, hy⟩ : ∃ y, y = hs[i]'qh := ⟨_, rfl⟩
              have HY := Lib.hid hy.symm
              rw [← hy] at q0 q1 q2 hrd hsm hsu HPS
              obtain ⟨ub, sbu, Bl, dl, fs, rlo2, rhi2⟩ := y
              simp only at q0 q1 q2 hrd hsm hsu
              obtain ⟨sb, hsb⟩ : ∃ sb : Nat, sbu = (sb : Int) := ⟨sbu.toNat, by omega⟩
              subst hsb
              obtain ⟨ml, hvml⟩ : ∃ ml, ml = fs.length := ⟨_, rfl⟩
              rw [← hvml] at q1 hsu
              have hml2 : ml ≤ 1048576 := by rw [hvml]; have := hsm.1; simpa using this
              have hsb2 : sb ≤ ml := by have := hsu.2; omega
              have hbx2 := below1 wr (.cells #[.bool ub, .slice Bl ml dl, .int .i64 (sb : Int)] 36)
              have kb2 := heap_alloc_new wr (.cells #[.bool ub, .slice Bl ml dl, .int .i64 (sb : Int)] 36)
              obtain ⟨x1, hx1⟩ : ∃ x1, x1 = decide (shN ((es.take sa).map EH.d) ((fs.take sb).map EH.d) = sa) := ⟨_, rfl⟩
              obtain ⟨x2, hx2⟩ : ∃ x2, x2 = decide (shN ((fs.take sb).map EH.d) ((es.take sa).map EH.d) = sb) := ⟨_, rfl⟩
              have HPX := Lib.hid (show pb = ((x1 || x2) && ((hs.map rdat).drop (i + 1)).all (pairB da)) by rw [HPS.out, HDA.out, hx1, hx2, pair_eq])
              have hin : (i : Int) < (n : Int) := by omega
              have hi0 : (0 : Int) ≤ (i : Int) := by omega
              have HX1 := Lib.hid hx1
              have HX2 := Lib.hid hx2
              have HVM := Lib.hid hvml.symm
              have hcpb := HCP.out _ (List.getElem_mem qh)
              rw [HY.out] at hcpb
              simp only [CapOK] at hcpb
              rw [← hvml] at hcpb
              have HSB := Lib.hid (fun W => sureOf_any ub Bl ml dl sb W hcpb hsb2)
              have HTK2 := Lib.hid (show (fs.take sb).length = sb by rw [List.length_take, HVM.out]; omega)
              have HTS2 := Lib.hid (show LgSmall ((fs.take sb).map EH.d) from lg_take hsm sb)
              clear hx1 hx2 hvml hcpb
              go_upto_region 11 with fail
              obtain ⟨U, hU⟩ : ∃ U, U = wr.alloc (.cells #[.bool ub, .slice Bl ml dl, .int .i64 (sb : Int)] 36) := ⟨_, rfl⟩
              rw [← hU] at hbx2 kb2 ⊢
              obtain ⟨gb, hgb⟩ : ∃ gb, gb = wr.heap.size := ⟨_, rfl⟩
              rw [← hgb] at kb2 ⊢
              have s0 := (hbx2.cell (p := ⟨ga, 0, none⟩) al).trans (cell_blk (i := 0) kx rfl)
              have s1 := (hbx2.cell (p := ⟨ga, 1, none⟩) al).trans a1
              have s2 := (hbx2.cell (p := ⟨ga, 2, none⟩) al).trans a2
              have s5 := cell_blk (i := 0) kb2 rfl
              have s3 := cell_blk (i := 1) kb2 rfl
              have s4 := cell_blk (i := 2) kb2 rfl
              have zga : ga < U.heap.size := Nat.lt_of_lt_of_le al hbx2.size
              have zgb : gb < U.heap.size := lt_blk kb2
              have hvU := hv.trans (hbx2.mono hv.size)
              have HBU := Lib.hid hvU
              have hUr := HBX.out.trans (hvU.mono HBX.out.size)
              have HUr := Lib.hid hUr
              have hBr : B ≤ wo.heap.size := Nat.le_trans hB hwo
              have hBU : B ≤ U.heap.size := Nat.le_trans hBr hUr.size
              have hBw : B ≤ wr.heap.size := Nat.le_trans hB hvw.size
              have HIP1 := Lib.hid (fun (W : World) (hW : Below U.heap.size U W) => isPrefix_any Al sa cl (es.take sa) Bl sb dl (fs.take sb) B W HTK.out (RowsB.take (K := KE) (HRD.out.below ((hUr.trans (hW.mono hUr.size)).mono hBr)) sa) HTS.out HTK2.out (RowsB.take (K := KE) (RowsB.below (K := KE) hrd ((hbx2.trans (hW.mono hbx2.size)).mono hBw)) sb) HTS2.out (Nat.le_trans hBU hW.size) x1 HX1.out)
              have HIP2 := Lib.hid (fun (W : World) (hW : Below U.heap.size U W) => isPrefix_any Bl sb dl (fs.take sb) Al sa cl (es.take sa) B W HTK2.out (RowsB.take (K := KE) (RowsB.below (K := KE) hrd ((hbx2.trans (hW.mono hbx2.size)).mono hBw)) sb) HTS2.out HTK.out (RowsB.take (K := KE) (HRD.out.below ((hUr.trans (hW.mono hUr.size)).mono hBr)) sa) HTS.out (Nat.le_trans hBU hW.size) x2 HX2.out)
              have t0 : U.cell? ⟨ga, 0, none⟩ = some (.bool ua) ∧ U.cell? ⟨ga, 1, none⟩ = some (.slice Al nl cl) ∧ U.cell? ⟨ga, 2, none⟩ = some (.int .i64 (sa : Int)) := ⟨s0, s1, s2⟩
              have t1 : U.cell? ⟨gb, 0, none⟩ = some (.bool ub) ∧ U.cell? ⟨gb, 1, none⟩ = some (.slice Bl ml dl) ∧ U.cell? ⟨gb, 2, none⟩ = some (.int .i64 (sb : Int)) := ⟨s5, s3, s4⟩
              clear hU hgb q0 q1 q2 hc0 hc1 hc2 hy hrd hsm hsu hbx2 kb2 y0 y2 yl a1 a2 al kv kx hv hvw hvU hUr hwr HPS HP s0 s1 s2 s3 s4 s5
              have hbel := (Below.refl U.heap.size U).drew
              cases x1 with
              | true =>
                have u0 := bel_cell t0.1 zga
                have u1 := bel_cell t0.2.1 zga
                have u2 := bel_cell t0.2.2 zga
                have u3 := bel_cell t1.1 zgb
                have u4 := bel_cell t1.2.1 zgb
                have u5 := bel_cell t1.2.2 zgb
                refine bel_region (by kernel_rfl) (by kernel_rfl) ?_
                repeat (go_big_quiet_step ((first | (go_at_call 17; with_reducible first | exact bel_call (HSA.out _) | exact bel_call (HSB.out _)) | (go_at_call 16; with_reducible exact bel_call (HIP1.out _ (BelT.below _))))))
                refine wpQuiet_nil ?_
                intro p
                have hQ1 := p.below
                obtain ⟨w4, hw4⟩ : ∃ w4, w4 = p.w := ⟨_, rfl⟩
                rw [← hw4] at hQ1 ⊢
                clear hw4
                have HV4 := Lib.hid (HBU.out.trans (hQ1.mono HBU.out.size))
                clear hQ1 t0 t1 hbel u0 u1 u2 u3 u4 u5
                go_wp2
                go_roundw
                case rel => exact ⟨i + 1, by omega, by go_num, Lib.hid (by rw [HPX.out]; rfl), HV4.out⟩
                case measure => simp [intOf]; omega
              | false =>
                have u0 := bel_cell t0.1 zga
                have u1 := bel_cell t0.2.1 zga
                have u2 := bel_cell t0.2.2 zga
                have u3 := bel_cell t1.1 zgb
                have u4 := bel_cell t1.2.1 zgb
                have u5 := bel_cell t1.2.2 zgb
                refine bel_region (by kernel_rfl) (by kernel_rfl) ?_
                repeat (go_big_quiet_step ((first | (go_at_call 17; with_reducible first | exact bel_call (HSA.out _) | exact bel_call (HSB.out _)) | (go_at_call 16; with_reducible exact bel_call (HIP1.out _ (BelT.below _))) | (go_at_call 16; with_reducible exact bel_call (HIP2.out _ (BelT.below _))))))
                refine wpQuiet_nil ?_
                intro p
                have hQ1 := p.below
                obtain ⟨w4, hw4⟩ : ∃ w4, w4 = p.w := ⟨_, rfl⟩
                rw [← hw4] at hQ1 ⊢
                clear hw4
                have HV4 := Lib.hid (HBU.out.trans (hQ1.mono HBU.out.size))
                clear hQ1 t0 t1 hbel u0 u1 u2 u3 u4 u5
                cases x2 with
                | true =>
                  go_wp2
                  go_roundw
                  case rel => exact ⟨i + 1, by omega, by go_num, Lib.hid (by rw [HPX.out]; rfl), HV4.out⟩
                  case measure => simp [intOf]; omega
                | false =>
                  have hpf : pb = false := by rw [HPX.out]; rfl
                  have HNO := Lib.hid (ret_bool (show false = r by rw [HRQ.out, hpf]; rfl))
                  have HB4 := Lib.hid (HBV.out.trans (HV4.out.mono HBV.out.size))
                  clear hpf
                  go_wp2
                  go_ret
                  exact ⟨HNO.out, HB4.out⟩
            · have hpt : pb = true := by rw [HP.out, all_end (by rw [List.length_map, HN.out]; omega)]
              have HRT := Lib.hid (show r = ((hs.map rdat).drop (k + 1)).all (oneB (-1) (hs.map rdat)) by rw [HRQ.out, hpt, Bool.true_and])
              have HWW := Lib.hid (HWV.out.trans (hv.mono HWV.out.size))
              clear hpt HP hv hvw hwr kv kx a1 a2 y0 y2
              go_wp2
              go_roundw
              case rel => exact ⟨k + 1, by omega, by go_num, HRT.out, HWW.out⟩
              case measure => simp [intOf]; omega
        · subst hld
          have HHL := Lib.hid (fun W => hasLeader_any (some ⟨b, off, none⟩) n c tm (q : Int) W)
          rw [show (((q : Int)) != -1) = true by simp <;> omega] at HHL
          obtain ⟨hc0, hc1, hc2⟩ := HC.out q hqh
          have hbV := HBV.out
          have pq := (hbV.cell (p := ⟨b, off + q * 3 + 1, none⟩) (Nat.lt_of_lt_of_le hbB hB)).trans hc1
          have hrq := KR.rd_below (HS.out.at q hqh) (hbV.mono hB)
          have hsq := HM.out hs[q] (List.getElem_mem hqh)
          have hlq : lb = decide (sa ≤ shN (hs[q].es.map EH.d) (es.map EH.d)) := by rw [HLB.out, HDA.out]; unfold ldB; rw [Int.toNat_natCast, leadLog_map hqh, show decide ((q : Int) < 0) = false from decide_eq_false (by omega), Bool.false_or]; rfl
          obtain ⟨y, hy⟩ : ∃ y, y = hs[q]'hqh := ⟨_, rfl⟩
          rw [← hy] at pq hrq hsq hlq
          obtain ⟨uq, suq, Aq, cq, esq, rloq, rhiq⟩ := y
          simp only at pq hrq hsq hlq
          obtain ⟨nq, hnq⟩ : ∃ nq, nq = esq.length := ⟨_, rfl⟩
          rw [← hnq] at pq
          have hlq2 := hlq.trans (lead_eq es esq sa)
          have hq0 : (0 : Int) ≤ (q : Int) := by omega
          have hqn : (q : Int) < (n : Int) := by have := HN.out; omega
          have hBV : B ≤ V.heap.size := Nat.le_trans hB hbV.size
          have hBr : B ≤ wo.heap.size := Nat.le_trans hB hwo
          have hoV := HBX.out
          have HIP := Lib.hid (fun (W : World) (hW : Below V.heap.size V W) => isPrefix_any Al sa cl (es.take sa) Aq nq cq esq B W HTK.out (RowsB.take (K := KE) (HRD.out.below ((hoV.trans (hW.mono hoV.size)).mono hBr)) sa) HTS.out hnq.symm (RowsB.below (K := KE) hrq (hW.mono hBV)) hsq (Nat.le_trans hBV hW.size) lb hlq2)
          have hbq : b < V.heap.size := Nat.lt_of_lt_of_le hbB hBV
          have t0 : V.cell? ⟨w.heap.size, 0, none⟩ = some (.slice (some ⟨b, off, none⟩) n c) ∧ V.cell? ⟨w.heap.size, 1, none⟩ = some (.int .i64 tm) ∧ V.cell? ⟨w.heap.size, 2, none⟩ = some (.int .i64 (q : Int)) := ⟨y0, y1, y2⟩
          have t1 : V.cell? ⟨ga, 0, none⟩ = some (.bool ua) ∧ V.cell? ⟨ga, 1, none⟩ = some (.slice Al nl cl) ∧ V.cell? ⟨ga, 2, none⟩ = some (.int .i64 (sa : Int)) := ⟨x0, x1, x2⟩
          have t2 : V.cell? ⟨b, off + q * 3 + 1, none⟩ = some (.slice Aq nq cq) := pq
          clear y0 y1 y2 x0 x1 x2 hc0 hc1 hc2 hbV pq hrq hsq hlq hlq2 hy hnq hoV
          go_wp2_with fail
          have u0 := bel_cell t0.1 hzV
          have u1 := bel_cell t0.2.1 hzV
          have u2 := bel_cell t0.2.2 hzV
          have u3 := bel_cell t1.1 hzg
          have u4 := bel_cell t1.2.1 hzg
          have u5 := bel_cell t1.2.2 hzg
          have u6 := bel_cell t2 hbq
          refine bel_region (by kernel_rfl) (by kernel_rfl) ?_
          repeat (go_big_quiet_step ((first | (go_at_call 15; exact bel_call (HHL.out _)) | (go_at_call 17; exact bel_call (HSA.out _)) | (go_at_call 16; exact bel_call (HIP.out _ (BelT.below _))))))
          refine wpQuiet_nil ?_
          intro p
          have hQ1 := p.below
          obtain ⟨w4, hw4⟩ : ∃ w4, w4 = p.w := ⟨_, rfl⟩
          rw [← hw4] at hQ1 ⊢
          clear hw4
          have HVW := Lib.hid hQ1
          clear hQ1 t0 t1 t2 hbel u0 u1 u2 u3 u4 u5 u6
          cases lb with
          | false =>
            have HNO := Lib.hid (ret_bool (show false = r by rw [HRP.out, Bool.and_false, Bool.false_and]))
            have HB4 := Lib.hid (HBV.out.trans (HVW.out.mono HBV.out.size))
            go_wp2
            go_ret
            exact ⟨HNO.out, HB4.out⟩
          | true =>
            have HRQ := Lib.hid (show r = (pb && ((hs.map rdat).drop (k + 1)).all (oneB (q : Int) (hs.map rdat))) by rw [HRP.out, Bool.and_true])
            have kv4 := (HVW.out.block w.heap.size hzV).trans HKV.out
            have y0 := cell_blk (i := 0) kv4 rfl
            clear kv4
            go_wp2
            clear y0
            go_loopw [35] (fun j wv => ∃ i : Nat, i ≤ n ∧ j = .int .i64 i ∧ Hid (pb = ((hs.map rdat).drop i).all (pairB da)) ∧ Below V.heap.size V wv) (fun j _ => n - (intOf j).toNat)
            case atStart => exact ⟨0, by omega, rfl, HP0, HVW.out⟩
            case round =>
              clear HP0
              obtain ⟨i, hi, rfl, HP, hv⟩ := hrel
              have hvw := HBV.out.trans (hv.mono HBV.out.size)
              have kv := (hv.block w.heap.size hzV).trans HKV.out
              have kx := (hv.block ga hzg).trans HKX.out
              have y0 := cell_blk (i := 0) kv rfl
              have y2 := cell_blk (i := 2) kv rfl
              have yl := lt_blk kv
              have a1 := cell_blk (i := 1) kx rfl
              have a2 := cell_blk (i := 2) kx rfl
              have al := lt_blk kx
              have hwr := HBX.out.trans (hv.mono HBX.out.size)
              by_cases hlt2 : i < n
              · have qh : i < hs.length := by have := HN.out; omega
                obtain ⟨hc0, hc1, hc2⟩ := HC.out i qh
                have q0 := (hvw.cell (p := ⟨b, off + i * 3, none⟩) (Nat.lt_of_lt_of_le hbB hB)).trans hc0
                have q1 := (hvw.cell (p := ⟨b, off + i * 3 + 1, none⟩) (Nat.lt_of_lt_of_le hbB hB)).trans hc1
                have q2 := (hvw.cell (p := ⟨b, off + i * 3 + 2, none⟩) (Nat.lt_of_lt_of_le hbB hB)).trans hc2
                have HPS := Lib.hid (HP.out.trans (by rw [all_step (show i < (hs.map rdat).length by simpa using qh), r_at qh]))
                have hrd := KR.rd_below (HS.out.at i qh) (hvw.mono hB)
                have hsm := HM.out hs[i] (List.getElem_mem qh)
                have hsu := HSU.out hs[i] (List.getElem_mem qh)
                obtain ⟨y, hy⟩ : ∃ y, y = hs[i]'qh := ⟨_, rfl⟩
                have HY := Lib.hid hy.symm
                rw [← hy] at q0 q1 q2 hrd hsm hsu HPS
                obtain ⟨ub, sbu, Bl, dl, fs, rlo2, rhi2⟩ := y
                simp only at q0 q1 q2 hrd hsm hsu
                obtain ⟨sb, hsb⟩ : ∃ sb : Nat, sbu = (sb : Int) := ⟨sbu.toNat, by omega⟩
                subst hsb
                obtain ⟨ml, hvml⟩ : ∃ ml, ml = fs.length := ⟨_, rfl⟩
                rw [← hvml] at q1 hsu
                have hml2 : ml ≤ 1048576 := by rw [hvml]; have := hsm.1; simpa using this
                have hsb2 : sb ≤ ml := by have := hsu.2; omega
                have hbx2 := below1 wr (.cells #[.bool ub, .slice Bl ml dl, .int .i64 (sb : Int)] 36)
                have kb2 := heap_alloc_new wr (.cells #[.bool ub, .slice Bl ml dl, .int .i64 (sb : Int)] 36)
                obtain ⟨x1, hx1⟩ : ∃ x1, x1 = decide (shN ((es.take sa).map EH.d) ((fs.take sb).map EH.d) = sa) := ⟨_, rfl⟩
                obtain ⟨x2, hx2⟩ : ∃ x2, x2 = decide (shN ((fs.take sb).map EH.d) ((es.take sa).map EH.d) = sb) := ⟨_, rfl⟩
                have HPX := Lib.hid (show pb = ((x1 || x2) && ((hs.map rdat).drop (i + 1)).all (pairB da)) by rw [HPS.out, HDA.out, hx1, hx2, pair_eq])
                have hin : (i : Int) < (n : Int) := by omega
                have hi0 : (0 : Int) ≤ (i : Int) := by omega
                have HX1 := Lib.hid hx1
                have HX2 := Lib.hid hx2
                have HVM := Lib.hid hvml.symm
                have hcpb := HCP.out _ (List.getElem_mem qh)
                rw [HY.out] at hcpb
                simp only [CapOK] at hcpb
                rw [← hvml] at hcpb
                have HSB := Lib.hid (fun W => sureOf_any ub Bl ml dl sb W hcpb hsb2)
                have HTK2 := Lib.hid (show (fs.take sb).length = sb by rw [List.length_take, HVM.out]; omega)
                have HTS2 := Lib.hid (show LgSmall ((fs.take sb).map EH.d) from lg_take hsm sb)
                clear hx1 hx2 hvml hcpb
                go_upto_region 11 with fail
                obtain ⟨U, hU⟩ : ∃ U, U = wr.alloc (.cells #[.bool ub, .slice Bl ml dl, .int .i64 (sb : Int)] 36) := ⟨_, rfl⟩
                rw [← hU] at hbx2 kb2 ⊢
                obtain ⟨gb, hgb⟩ : ∃ gb, gb = wr.heap.size := ⟨_, rfl⟩
                rw [← hgb] at kb2 ⊢
                have s0 := (hbx2.cell (p := ⟨ga, 0, none⟩) al).trans (cell_blk (i := 0) kx rfl)
                have s1 := (hbx2.cell (p := ⟨ga, 1, none⟩) al).trans a1
                have s2 := (hbx2.cell (p := ⟨ga, 2, none⟩) al).trans a2
                have s5 := cell_blk (i := 0) kb2 rfl
                have s3 := cell_blk (i := 1) kb2 rfl
                have s4 := cell_blk (i := 2) kb2 rfl
                have zga : ga < U.heap.size := Nat.lt_of_lt_of_le al hbx2.size
                have zgb : gb < U.heap.size := lt_blk kb2
                have hvU := hv.trans (hbx2.mono hv.size)
                have HBU := Lib.hid hvU
                have hUr := HBX.out.trans (hvU.mono HBX.out.size)
                have HUr := Lib.hid hUr
                have hBr : B ≤ wo.heap.size := Nat.le_trans hB hwo
                have hBU : B ≤ U.heap.size := Nat.le_trans hBr hUr.size
                have hBw : B ≤ wr.heap.size := Nat.le_trans hB hvw.size
                have HIP1 := Lib.hid (fun (W : World) (hW : Below U.heap.size U W) => isPrefix_any Al sa cl (es.take sa) Bl sb dl (fs.take sb) B W HTK.out (RowsB.take (K := KE) (HRD.out.below ((hUr.trans (hW.mono hUr.size)).mono hBr)) sa) HTS.out HTK2.out (RowsB.take (K := KE) (RowsB.below (K := KE) hrd ((hbx2.trans (hW.mono hbx2.size)).mono hBw)) sb) HTS2.out (Nat.le_trans hBU hW.size) x1 HX1.out)
                have HIP2 := Lib.hid (fun (W : World) (hW : Below U.heap.size U W) => isPrefix_any Bl sb dl (fs.take sb) Al sa cl (es.take sa) B W HTK2.out (RowsB.take (K := KE) (RowsB.below (K := KE) hrd ((hbx2.trans (hW.mono hbx2.size)).mono hBw)) sb) HTS2.out HTK.out (RowsB.take (K := KE) (HRD.out.below ((hUr.trans (hW.mono hUr.size)).mono hBr)) sa) HTS.out (Nat.le_trans hBU hW.size) x2 HX2.out)
                have t0 : U.cell? ⟨ga, 0, none⟩ = some (.bool ua) ∧ U.cell? ⟨ga, 1, none⟩ = some (.slice Al nl cl) ∧ U.cell? ⟨ga, 2, none⟩ = some (.int .i64 (sa : Int)) := ⟨s0, s1, s2⟩
                have t1 : U.cell? ⟨gb, 0, none⟩ = some (.bool ub) ∧ U.cell? ⟨gb, 1, none⟩ = some (.slice Bl ml dl) ∧ U.cell? ⟨gb, 2, none⟩ = some (.int .i64 (sb : Int)) := ⟨s5, s3, s4⟩
                clear hU hgb q0 q1 q2 hc0 hc1 hc2 hy hrd hsm hsu hbx2 kb2 y0 y2 yl a1 a2 al kv kx hv hvw hvU hUr hwr HPS HP s0 s1 s2 s3 s4 s5
                have hbel := (Below.refl U.heap.size U).drew
                cases x1 with
                | true =>
                  have u0 := bel_cell t0.1 zga
                  have u1 := bel_cell t0.2.1 zga
                  have u2 := bel_cell t0.2.2 zga
                  have u3 := bel_cell t1.1 zgb
                  have u4 := bel_cell t1.2.1 zgb
                  have u5 := bel_cell t1.2.2 zgb
                  refine bel_region (by kernel_rfl) (by kernel_rfl) ?_
                  repeat (go_big_quiet_step ((first | (go_at_call 17; with_reducible first | exact bel_call (HSA.out _) | exact bel_call (HSB.out _)) | (go_at_call 16; with_reducible exact bel_call (HIP1.out _ (BelT.below _))))))
                  refine wpQuiet_nil ?_
                  intro p
                  have hQ1 := p.below
                  obtain ⟨w4, hw4⟩ : ∃ w4, w4 = p.w := ⟨_, rfl⟩
                  rw [← hw4] at hQ1 ⊢
                  clear hw4
                  have HV4 := Lib.hid (HBU.out.trans (hQ1.mono HBU.out.size))
                  clear hQ1 t0 t1 hbel u0 u1 u2 u3 u4 u5
                  go_wp2
                  go_roundw
                  case rel => exact ⟨i + 1, by omega, by go_num, Lib.hid (by rw [HPX.out]; rfl), HV4.out⟩
                  case measure => simp [intOf]; omega
                | false =>
                  have u0 := bel_cell t0.1 zga
                  have u1 := bel_cell t0.2.1 zga
                  have u2 := bel_cell t0.2.2 zga
                  have u3 := bel_cell t1.1 zgb
                  have u4 := bel_cell t1.2.1 zgb
                  have u5 := bel_cell t1.2.2 zgb
                  refine bel_region (by kernel_rfl) (by kernel_rfl) ?_
                  repeat (go_big_quiet_step ((first | (go_at_call 17; with_reducible first | exact bel_call (HSA.out _) | exact bel_call (HSB.out _)) | (go_at_call 16; with_reducible exact bel_call (HIP1.out _ (BelT.below _))) | (go_at_call 16; with_reducible exact bel_call (HIP2.out _ (BelT.below _))))))
                  refine wpQuiet_nil ?_
                  intro p
                  have hQ1 := p.below
                  obtain ⟨w4, hw4⟩ : ∃ w4, w4 = p.w := ⟨_, rfl⟩
                  rw [← hw4] at hQ1 ⊢
                  clear hw4
                  have HV4 := Lib.hid (HBU.out.trans (hQ1.mono HBU.out.size))
                  clear hQ1 t0 t1 hbel u0 u1 u2 u3 u4 u5
                  cases x2 with
                  | true =>
                    go_wp2
                    go_roundw
                    case rel => exact ⟨i + 1, by omega, by go_num, Lib.hid (by rw [HPX.out]; rfl), HV4.out⟩
                    case measure => simp [intOf]; omega
                  | false =>
                    have hpf : pb = false := by rw [HPX.out]; rfl
                    have HNO := Lib.hid (ret_bool (show false = r by rw [HRQ.out, hpf]; rfl))
                    have HB4 := Lib.hid (HBV.out.trans (HV4.out.mono HBV.out.size))
                    clear hpf
                    go_wp2
                    go_ret
                    exact ⟨HNO.out, HB4.out⟩
              · have hpt : pb = true := by rw [HP.out, all_end (by rw [List.length_map, HN.out]; omega)]
                have HRT := Lib.hid (show r = ((hs.map rdat).drop (k + 1)).all (oneB ((q : Int)) (hs.map rdat)) by rw [HRQ.out, hpt, Bool.true_and])
                have HWW := Lib.hid (HWV.out.trans (hv.mono HWV.out.size))
                clear hpt HP hv hvw hwr kv kx a1 a2 y0 y2
                go_wp2
                go_roundw
                case rel => exact ⟨k + 1, by omega, by go_num, HRT.out, HWW.out⟩
                case measure => simp [intOf]; omega
      · have HYES := Lib.hid (ret_bool (show true = r by rw [HR.out, all_end (by rw [List.length_map, HN.out]; omega)]))
        have HBE := Lib.hid hbw
        go_wp2
        go_ret
        exact ⟨HYES.out, HBE.out⟩
end Go.Proofs.Ytcelbnemblnabaa.Gr
