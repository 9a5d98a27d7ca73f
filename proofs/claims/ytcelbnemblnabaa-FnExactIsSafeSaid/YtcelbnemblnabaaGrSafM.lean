/-
  What IsSafe asks, as data; IsSafe of the model.
-/
import Derived.Test.YtcelbnemblnabaaGrSure
import Derived.Test.YtcelbnemblnabaaGrBegM
import Derived.Deep.RegionHeld3
import Derived.Deep.QuietTactic
import Derived.BigQuiet
import Derived.Deep.Cut
namespace Go.Proofs.Ytcelbnemblnabaa.Gr
open Go.RowKit CM
set_option linter.unusedVariables false
set_option linter.unusedSimpArgs false

def pairB (a b : RD) : Bool := decide (Nat.min a.su.toNat b.su.toNat ≤ shN a.log b.log)
def leadLog (rs : List RD) (i : Nat) : List ED := match rs[i]? with | some r => r.log | none => []
theorem leadLog_map {rs : List RH} {k : Nat} (h : k < rs.length) : leadLog (rs.map rdat) k = rs[k].es.map EH.d := by simp [leadLog, List.getElem?_eq_getElem h, rdat]
def ldB (ld : Int) (rs : List RD) (a : RD) : Bool := decide (ld < 0) || decide (a.su.toNat ≤ shN (leadLog rs ld.toNat) a.log)
def oneB (ld : Int) (rs : List RD) (a : RD) : Bool := rs.all (pairB a) && ldB ld rs a
def safeB (tm ld : Int) (rs : List RD) : Bool := grpB tm ld rs && rs.all (oneB ld rs)
theorem all_step {α : Type} {f : α → Bool} {l : List α} {k : Nat} (h : k < l.length) : (l.drop k).all f = (f l[k] && (l.drop (k + 1)).all f) := by
  rw [List.drop_eq_getElem_cons h, List.all_cons]
theorem all_end {α : Type} {f : α → Bool} {l : List α} {k : Nat} (h : l.length ≤ k) : (l.drop k).all f = true := by rw [List.drop_of_length_le h]; rfl
/-- A valid group's rows: what its sure numbers are, and who leads. -/
theorem grp_sure {tm ld : Int} {hs : List RH} (h : grpB tm ld (hs.map rdat) = true) : ∀ x ∈ hs, 0 ≤ x.su ∧ x.su ≤ (x.es.length : Int) := fun x hx => by
  unfold grpB at h
  simp only [Bool.and_eq_true] at h
  have := repsB_mem h.2.2.2.2 (rdat x) (List.mem_map_of_mem hx)
  unfold repB rdat at this
  simp only [Bool.and_eq_true, decide_eq_true_eq, List.length_map] at this
  exact this.2

theorem l1Least_any (a b m : Nat) (hm : m = Nat.min a b) (w : World) (ha : a ≤ 1048576) (hb : b ≤ 1048576) :
    Calls Try.prog 12 #[.int .i64 (a : Int), .int .i64 (b : Int)] w fun e w' => e = .returned (.int .i64 (m : Int)) ∧ w = w' := by
  by_cases h : a < b
  · have hf : m = a := by rw [hm]; exact Nat.min_eq_left (by omega)
    subst hf
    have h1 : (m : Int) < (b : Int) := by omega
    clear hm
    go_enter Try.func12, Try.ntmps12
    go_wp2
    go_ret
    exact ⟨rfl, rfl⟩
  · have hf : m = b := by rw [hm]; exact Nat.min_eq_right (by omega)
    subst hf
    have h1 : ¬ (a : Int) < (m : Int) := by omega
    have h2 : decide (a < m) = false := by simp; omega
    clear hm
    go_enter Try.func12, Try.ntmps12
    go_wp2
    go_ret
    exact ⟨rfl, rfl⟩

set_option maxRecDepth 100000 in
set_option maxHeartbeats 16000000 in
theorem specIsSafe_any (A : Option Addr) (n c : Nat) (tm ld : Int) (hs : List RH) (B : Nat) (w : World) (hn : hs.length = n) (h : RowsB KR w B A hs) (hB : B ≤ w.heap.size) (hm : RpSmall (hs.map rdat)) :
    Calls Try.prog 5 #[.agg #[.slice A n c, .int .i64 tm, .int .i64 ld]] w fun e w' => e = .returned (.bool (safeB tm ld (hs.map rdat))) ∧ Below w.heap.size w w' := by
  have hb0 := below1 w (.cells #[.slice A n c, .int .i64 tm, .int .i64 ld] 29)
  have hk0 := heap_alloc_new w (.cells #[.slice A n c, .int .i64 tm, .int .i64 ld] 29)
  have hnl : n ≤ 1048576 := by have := hm.1; simp at this; omega
  have HGG := Lib.hid (specGoodGroup_any A n c tm ld hs B _ hn (h.below (hb0.mono hB)) (Nat.le_trans hB hb0.size) hm)
  have HB0 := Lib.hid hb0
  have HK0 := Lib.hid hk0
  have hwl : w.heap.size < (w.alloc (.cells #[.slice A n c, .int .i64 tm, .int .i64 ld] 29)).heap.size := by simp
  clear hb0 hk0
  obtain ⟨r, hr⟩ : ∃ r, r = safeB tm ld (hs.map rdat) := ⟨_, rfl⟩
  rw [← hr]
  unfold safeB at hr
  cases hg : grpB tm ld (hs.map rdat) with
  | false =>
    rw [hg] at HGG
    rw [hg, Bool.false_and] at hr
    subst hr
    clear hg
    go_enter Try.func5, Try.ntmps5
    go_wp2_with fail
    (with_reducible refine HGG.out.mono ?_)
    rintro e w1 ⟨rfl, ha1⟩
    have HB1 := Lib.hid (HB0.out.trans (ha1.mono HB0.out.size))
    clear ha1
    go_wp2
    go_ret
    exact ⟨rfl, HB1.out⟩
  | true =>
    rw [hg] at HGG
    rw [hg, Bool.true_and] at hr
    have HSU := Lib.hid (grp_sure hg)
    have HLD := Lib.hid (show ld = -1 ∨ ∃ q : Nat, ld = (q : Int) ∧ q < hs.length from by
      by_cases h1 : ld = -1
      · exact .inl h1
      · obtain ⟨q, h2, h3⟩ := lead_of hg h1
        exact .inr ⟨q, h2, by simpa using h3⟩)
    have hpos : 0 < n := by
      unfold grpB szB at hg
      simp only [Bool.and_eq_true, Bool.or_eq_true, decide_eq_true_eq, List.length_map] at hg
      omega
    obtain ⟨b, off, rfl, hbB, hc⟩ := rp_get h (by omega)
    have HC := Lib.hid hc
    have HS := Lib.hid h
    have HN := Lib.hid hn
    have HM := Lib.hid (fun x (hx : x ∈ hs) => (show LgSmall (x.es.map EH.d) from hm.2 (rdat x) (List.mem_map_of_mem hx)))
    have HR0 := Lib.hid (show r = ((hs.map rdat).drop 0).all (oneB ld (hs.map rdat)) by rw [hr, List.drop_zero])
    clear hr hc h hn hm hg
    go_enter Try.func5, Try.ntmps5
    go_wp2_with fail
    (with_reducible refine HGG.out.mono ?_)
    rintro e w1 ⟨rfl, ha1⟩
    have HB1 := Lib.hid (HB0.out.trans (ha1.mono HB0.out.size))
    have HK1 := Lib.hid ((ha1.block w.heap.size hwl).trans HK0.out)
    have hz1 : w.heap.size < w1.heap.size := Nat.lt_of_lt_of_le hwl ha1.size
    clear ha1
    go_wp2
    go_loopw [3] (fun j wr => ∃ k : Nat, k ≤ n ∧ j = .int .i64 k ∧ Hid (r = ((hs.map rdat).drop k).all (oneB ld (hs.map rdat))) ∧ Below w1.heap.size w1 wr) (fun j _ => n - (intOf j).toNat)
    case atStart => exact ⟨0, by omega, rfl, HR0, Below.refl _ _⟩
    case round =>
      clear HR0
      obtain ⟨k, hk, rfl, HR, hb⟩ := hrel
      obtain ⟨wo, hwo⟩ : ∃ wo, wo = wr := ⟨_, rfl⟩
      subst hwo
      have hbw := HB1.out.trans (hb.mono HB1.out.size)
      have hwo := hbw.size
      have ka2 := (hb.block w.heap.size hz1).trans HK1.out
      have y0 := cell_blk (i := 0) ka2 rfl
      have y2 := cell_blk (i := 2) ka2 rfl
      have yl := lt_blk ka2
      by_cases hlt : k < n
      · have ph : k < hs.length := by have := HN.out; omega
        obtain ⟨hc0, hc1, hc2⟩ := HC.out k ph
        have p0 := (hbw.cell (p := ⟨b, off + k * 3, none⟩) (Nat.lt_of_lt_of_le hbB hB)).trans hc0
        have p1 := (hbw.cell (p := ⟨b, off + k * 3 + 1, none⟩) (Nat.lt_of_lt_of_le hbB hB)).trans hc1
        have p2 := (hbw.cell (p := ⟨b, off + k * 3 + 2, none⟩) (Nat.lt_of_lt_of_le hbB hB)).trans hc2
        have HRS := Lib.hid (HR.out.trans (by rw [all_step (show k < (hs.map rdat).length by simpa using ph), r_at ph]))
        have hrd := KR.rd_below (HS.out.at k ph) (hbw.mono hB)
        have hsm := HM.out hs[k] (List.getElem_mem ph)
        have hsu := HSU.out hs[k] (List.getElem_mem ph)
        obtain ⟨y, hy⟩ : ∃ y, y = hs[k]'ph := ⟨_, rfl⟩
        rw [← hy] at p0 p1 p2 hrd hsm hsu HRS
        obtain ⟨ua, sau, Al, cl, es, rlo, rhi⟩ := y
        simp only at p0 p1 p2 hrd hsm hsu
        obtain ⟨sa, hsa⟩ : ∃ sa : Nat, sau = (sa : Int) := ⟨sau.toNat, by omega⟩
        subst hsa
        obtain ⟨nl, hvnl⟩ : ∃ nl, nl = es.length := ⟨_, rfl⟩
        rw [← hvnl] at p1 hsu
        have HVL := Lib.hid hvnl.symm
        have HRD := Lib.hid (show RowsB KE wo B Al es from hrd)
        have HSM := Lib.hid hsm
        obtain ⟨da, hda⟩ : ∃ da, da = rdat ⟨ua, (sa : Int), Al, cl, es, rlo, rhi⟩ := ⟨_, rfl⟩
        rw [← hda] at HRS
        have HDA := Lib.hid hda
        obtain ⟨pb, hpb⟩ : ∃ pb, pb = (hs.map rdat).all (pairB da) := ⟨_, rfl⟩
        obtain ⟨lb, hlb⟩ : ∃ lb, lb = ldB ld (hs.map rdat) da := ⟨_, rfl⟩
        have HRP := Lib.hid (show r = ((pb && lb) && ((hs.map rdat).drop (k + 1)).all (oneB ld (hs.map rdat))) by rw [HRS.out, oneB, hpb, hlb])
        have HLB := Lib.hid hlb
        have HP0 := Lib.hid (show pb = ((hs.map rdat).drop 0).all (pairB da) by rw [hpb, List.drop_zero])
        have hkn : (k : Int) < (n : Int) := by omega
        have hk0 : (0 : Int) ≤ (k : Int) := by omega
        have hbx := below1 wo (.cells #[.bool ua, .slice Al nl cl, .int .i64 (sa : Int)] 36)
        have kax := heap_alloc_new wo (.cells #[.bool ua, .slice Al nl cl, .int .i64 (sa : Int)] 36)
        have hnl2 : nl ≤ 1048576 := by rw [hvnl]; have := hsm.1; simpa using this
        have hsa2 : sa ≤ nl := by have := hsu.2; omega
        clear hvnl hda hpb hlb
        go_upto_region 7 with fail
        obtain ⟨V, hV⟩ : ∃ V, V = wo.alloc (.cells #[.bool ua, .slice Al nl cl, .int .i64 (sa : Int)] 36) := ⟨_, rfl⟩
        rw [← hV] at hbx kax ⊢
        obtain ⟨ga, hga⟩ : ∃ ga, ga = wo.heap.size := ⟨_, rfl⟩
        rw [← hga] at kax ⊢
        have hbV := hbw.trans (hbx.mono hbw.size)
        have HKV := Lib.hid ((hbx.block w.heap.size yl).trans ka2)
        have HKX := Lib.hid kax
        have HBX := Lib.hid hbx
        have HBV := Lib.hid hbV
        have HWV := Lib.hid (hb.trans (hbx.mono hb.size))
        have hzV : w.heap.size < V.heap.size := lt_blk HKV.out
        have hzg : ga < V.heap.size := lt_blk kax
        have HGA := Lib.hid hga
        clear hV hga hbx kax hbV p0 p1 p2 hc0 hc1 hc2 hy hrd hsm HRS HR hb hbw ka2 y0 y2 yl hsu
        go_wp2
        go_loopw [5] (fun j wv => ∃ i : Nat, i ≤ n ∧ j = .int .i64 i ∧ Hid (pb = ((hs.map rdat).drop i).all (pairB da)) ∧ Below V.heap.size V wv) (fun j _ => n - (intOf j).toNat)
        case atStart => exact ⟨0, by omega, rfl, HP0, Below.refl _ _⟩
        case round =>
          clear HP0
          obtain ⟨i, hi, rfl, HP, hv⟩ := hrel
          have hvw := HBV.out.trans (hv.mono HBV.out.size)
          have kv := (hv.block w.heap.size hzV).trans HKV.out
          have kx := (hv.block ga hzg).trans HKX.out
          have y0 := cell_blk (i := 0) kv rfl
          have y2 := cell_blk (i := 2) kv rfl
          have yl := lt_blk kv
          have a1 := cell_blk (i := 1) kx rfl
          have a2 := cell_blk (i := 2) kx rfl
          have al := lt_blk kx
          have hwr := HBX.out.trans (hv.mono HBX.out.size)
          by_cases hlt2 : i < n
          · have qh : i < hs.length := by have := HN.out; omega
            obtain ⟨hc0, hc1, hc2⟩ := HC.out i qh
            have q0 := (hvw.cell (p := ⟨b, off + i * 3, none⟩) (Nat.lt_of_lt_of_le hbB hB)).trans hc0
            have q1 := (hvw.cell (p := ⟨b, off + i * 3 + 1, none⟩) (Nat.lt_of_lt_of_le hbB hB)).trans hc1
            have q2 := (hvw.cell (p := ⟨b, off + i * 3 + 2, none⟩) (Nat.lt_of_lt_of_le hbB hB)).trans hc2
            have HPS := Lib.hid (HP.out.trans (by rw [all_step (show i < (hs.map rdat).length by simpa using qh), r_at qh]))
            have hrd := KR.rd_below (HS.out.at i qh) (hvw.mono hB)
            have hsm := HM.out hs[i] (List.getElem_mem qh)
            have hsu := HSU.out hs[i] (List.getElem_mem qh)
            obtain ⟨y, hy⟩ : ∃ y, y = hs[i]'qh := ⟨_, rfl⟩
            rw [← hy] at q0 q1 q2 hrd hsm hsu HPS
            obtain ⟨ub, sbu, Bl, dl, fs, rlo2, rhi2⟩ := y
            simp only at q0 q1 q2 hrd hsm hsu
            obtain ⟨sb, hsb⟩ : ∃ sb : Nat, sbu = (sb : Int) := ⟨sbu.toNat, by omega⟩
            subst hsb
            obtain ⟨ml, hvml⟩ : ∃ ml, ml = fs.length := ⟨_, rfl⟩
            rw [← hvml] at q1 hsu
            have hml2 : ml ≤ 1048576 := by rw [hvml]; have := hsm.1; simpa using this
            have hsb2 : sb ≤ ml := by have := hsu.2; omega
            have hbx2 := below1 wr (.cells #[.bool ub, .slice Bl ml dl, .int .i64 (sb : Int)] 36)
            have kb2 := heap_alloc_new wr (.cells #[.bool ub, .slice Bl ml dl, .int .i64 (sb : Int)] 36)
            obtain ⟨mn, hmn⟩ : ∃ mn, mn = Nat.min sa sb := ⟨_, rfl⟩
            have HLE := Lib.hid (fun W => l1Least_any sa sb mn hmn W (by omega) (by omega))
            obtain ⟨x, hx⟩ : ∃ x, x = decide (mn ≤ shN (es.map EH.d) (fs.map EH.d)) := ⟨_, rfl⟩
            have HPX := Lib.hid (show pb = (x && ((hs.map rdat).drop (i + 1)).all (pairB da)) by rw [HPS.out, HDA.out, hx, hmn]; rfl)
            have hin : (i : Int) < (n : Int) := by omega
            have hi0 : (0 : Int) ≤ (i : Int) := by omega
            have HX := Lib.hid hx
            have HVM := Lib.hid hvml.symm
            clear hx hvml hmn
            go_upto_region 11 with fail
            obtain ⟨U, hU⟩ : ∃ U, U = wr.alloc (.cells #[.bool ub, .slice Bl ml dl, .int .i64 (sb : Int)] 36) := ⟨_, rfl⟩
            rw [← hU] at hbx2 kb2 ⊢
            obtain ⟨gb, hgb⟩ : ∃ gb, gb = wr.heap.size := ⟨_, rfl⟩
            rw [← hgb] at kb2 ⊢
            have s1 := (hbx2.cell (p := ⟨ga, 1, none⟩) al).trans a1
            have s2 := (hbx2.cell (p := ⟨ga, 2, none⟩) al).trans a2
            have s3 := cell_blk (i := 1) kb2 rfl
            have s4 := cell_blk (i := 2) kb2 rfl
            have zga : ga < U.heap.size := Nat.lt_of_lt_of_le al hbx2.size
            have zgb : gb < U.heap.size := lt_blk kb2
            have hvU := hv.trans (hbx2.mono hv.size)
            have HBU := Lib.hid hvU
            have hUr := HBX.out.trans (hvU.mono HBX.out.size)
            have HUr := Lib.hid hUr
            have hBr : B ≤ wo.heap.size := Nat.le_trans hB hwo
            have HBG := Lib.hid (fun (W : World) (hW : Below U.heap.size U W) => l9Begins_any Al nl cl es Bl ml dl mn fs B W HVL.out (HRD.out.below ((hUr.trans (hW.mono hUr.size)).mono hBr)) HSM.out HVM.out (RowsB.below (K := KE) hrd (((hbx2.trans (hW.mono hbx2.size))).mono (Nat.le_trans hB hvw.size))) hsm (Nat.le_trans (Nat.le_trans hBr hUr.size) hW.size) x HX.out)
            clear hU hgb q0 q1 q2 hc0 hc1 hc2 hy hrd hsm hsu hbx2 kb2 y0 y2 yl a1 a2 al kv kx hv hvw hvU hUr hwr HPS HP
            have t1 : U.cell? ⟨ga, 1, none⟩ = some (.slice Al nl cl) := s1
            have t2 : U.cell? ⟨ga, 2, none⟩ = some (.int .i64 (sa : Int)) := s2
            have t3 : U.cell? ⟨gb, 1, none⟩ = some (.slice Bl ml dl) := s3
            have t4 : U.cell? ⟨gb, 2, none⟩ = some (.int .i64 (sb : Int)) := s4
            clear s1 s2 s3 s4
            have hbel := (Below.refl U.heap.size U).drew
            go_region_held3 (fun w' => w'.cell? ⟨ga, 1, none⟩ = some (.slice Al nl cl) ∧ w'.cell? ⟨ga, 2, none⟩ = some (.int .i64 (sa : Int)) ∧ w'.cell? ⟨gb, 1, none⟩ = some (.slice Bl ml dl) ∧ w'.cell? ⟨gb, 2, none⟩ = some (.int .i64 (sb : Int)))
              (first | exact ⟨t1, t2, t3, t4⟩ | with_reducible exact ⟨kept2 hQ1 t1 zga, kept2 hQ1 t2 zga, kept2 hQ1 t3 zgb, kept2 hQ1 t4 zgb⟩ | fail)
              (first
                | (go_at_call 12; (with_reducible refine (HLE.out _).mono ?_); rintro e w3 ⟨rfl, rfl⟩)
                | (go_at_call 11; (with_reducible refine (HBG.out _ hbel).mono ?_); rintro e w4 ⟨rfl, ha4⟩; have hQ1 : Below U.heap.size U w4 := ⟨ha4.1, ha4.2, ha4.3, ha4.4, fun k hk => ha4.5 k hk⟩)
                | fail)
            have HV4 := Lib.hid (HBU.out.trans (hQ1.mono HBU.out.size))
            clear hQ1 ha4 t1 t2 t3 t4 hbel
            cases x with
            | false =>
              have hpf : pb = false := by rw [HPX.out, Bool.false_and]
              have HNO := Lib.hid (ret_bool (show false = r by rw [HRP.out, hpf]; rfl))
              have HB4 := Lib.hid (HBV.out.trans (HV4.out.mono HBV.out.size))
              clear hpf
              go_wp2
              go_ret
              exact ⟨HNO.out, HB4.out⟩
            | true =>
              go_wp2
              go_roundw
              case rel => exact ⟨i + 1, by omega, by go_num, Lib.hid (by rw [HPX.out, Bool.true_and]), HV4.out⟩
              case measure => simp [intOf]; omega
          · have hpt : pb = true := by rw [HP.out, all_end (by rw [List.length_map, HN.out]; omega)]
            have HRL := Lib.hid (show r = (lb && ((hs.map rdat).drop (k + 1)).all (oneB ld (hs.map rdat))) by rw [HRP.out, hpt, Bool.true_and])
            have HVV := Lib.hid hv
            have HWW := Lib.hid (HWV.out.trans (hv.mono HWV.out.size))
            clear hpt HP HRP
            rcases HLD.out with hld | ⟨q, hld, hqh⟩
            · subst hld
              have hlt' : lb = true := by rw [HLB.out]; rfl
              have HRT := Lib.hid (show r = ((hs.map rdat).drop (k + 1)).all (oneB (-1) (hs.map rdat)) by rw [HRL.out, hlt', Bool.true_and])
              clear hlt' hv hvw hwr kv kx
              go_wp2_with fail
              go_quiet (fail)
              clear a1 a2 y0 y2
              go_wp2
              go_roundw
              case rel => exact ⟨k + 1, by omega, by go_num, HRT.out, below_drewN HWW.out _⟩
              case measure => simp [intOf]; omega
            · subst hld
              obtain ⟨hc0, hc1, hc2⟩ := HC.out q hqh
              have pq := (hvw.cell (p := ⟨b, off + q * 3 + 1, none⟩) (Nat.lt_of_lt_of_le hbB hB)).trans hc1
              have hrq := KR.rd_below (HS.out.at q hqh) (hvw.mono hB)
              have hsq := HM.out hs[q] (List.getElem_mem hqh)
              have hlq : lb = decide (sa ≤ shN (hs[q].es.map EH.d) (es.map EH.d)) := by rw [HLB.out, HDA.out]; unfold ldB; rw [Int.toNat_natCast, leadLog_map hqh, show decide ((q : Int) < 0) = false from decide_eq_false (by omega), Bool.false_or]; rfl
              obtain ⟨y, hy⟩ : ∃ y, y = hs[q]'hqh := ⟨_, rfl⟩
              rw [← hy] at pq hrq hsq hlq
              obtain ⟨uq, suq, Aq, cq, esq, rloq, rhiq⟩ := y
              simp only at pq hrq hsq hlq
              obtain ⟨nq, hnq⟩ : ∃ nq, nq = esq.length := ⟨_, rfl⟩
              rw [← hnq] at pq
              have hq0 : (0 : Int) ≤ (q : Int) := by omega
              have hqn : (q : Int) < (n : Int) := by have := HN.out; omega
              have hBv : B ≤ wr.heap.size := Nat.le_trans hB hvw.size
              have hBr : B ≤ wo.heap.size := Nat.le_trans hB hwo
              have HBG := Lib.hid (fun (W : World) (hW : Below wr.heap.size wr W) => l9Begins_any Aq nq cq esq Al nl cl sa es B W hnq.symm (RowsB.below (K := KE) hrq (hW.mono hBv)) hsq HVL.out (HRD.out.below ((hwr.trans (hW.mono hwr.size)).mono hBr)) HSM.out (Nat.le_trans hBv hW.size) lb hlq)
              have hbq : b < wr.heap.size := Nat.lt_of_lt_of_le hbB hBv
              have t0 : wr.cell? ⟨w.heap.size, 0, none⟩ = some (.slice (some ⟨b, off, none⟩) n c) := y0
              have t2 : wr.cell? ⟨w.heap.size, 2, none⟩ = some (.int .i64 (q : Int)) := y2
              have t3 : wr.cell? ⟨b, off + q * 3 + 1, none⟩ = some (.slice Aq nq cq) := pq
              have t4 : wr.cell? ⟨ga, 1, none⟩ = some (.slice Al nl cl) := a1
              have t5 : wr.cell? ⟨ga, 2, none⟩ = some (.int .i64 (sa : Int)) := a2
              clear hc0 hc1 hc2 hy hrq hsq hlq hnq hv hvw hwr kv kx y0 y2 a1 a2 pq
              have hbel := (Below.refl wr.heap.size wr).drew
              go_wp2_with fail
              go_region_held3 (fun w' => w'.cell? ⟨w.heap.size, 0, none⟩ = some (.slice (some ⟨b, off, none⟩) n c) ∧ w'.cell? ⟨w.heap.size, 2, none⟩ = some (.int .i64 (q : Int)) ∧ w'.cell? ⟨b, off + q * 3 + 1, none⟩ = some (.slice Aq nq cq) ∧ w'.cell? ⟨ga, 1, none⟩ = some (.slice Al nl cl) ∧ w'.cell? ⟨ga, 2, none⟩ = some (.int .i64 (sa : Int)))
                (first | exact ⟨t0, t2, t3, t4, t5⟩ | with_reducible exact ⟨kept2 hQ1 t0 yl, kept2 hQ1 t2 yl, kept2 hQ1 t3 hbq, kept2 hQ1 t4 al, kept2 hQ1 t5 al⟩ | fail)
                ((go_at_call 11; (with_reducible refine (HBG.out _ hbel).mono ?_); rintro e w4 ⟨rfl, ha4⟩; have hQ1 : Below wr.heap.size wr w4 := ⟨ha4.1, ha4.2, ha4.3, ha4.4, fun k hk => ha4.5 k hk⟩))
              have HW4 := Lib.hid (HWW.out.trans (hQ1.mono HWW.out.size))
              clear hQ1 ha4 t0 t2 t3 t4 t5 hbel
              cases lb with
              | false =>
                have HNO := Lib.hid (ret_bool (show false = r by rw [HRL.out, Bool.false_and]))
                have HB4 := Lib.hid (HB1.out.trans (HW4.out.mono HB1.out.size))
                go_wp2
                go_ret
                exact ⟨HNO.out, HB4.out⟩
              | true =>
                go_wp2
                go_roundw
                case rel => exact ⟨k + 1, by omega, by go_num, Lib.hid (by rw [HRL.out, Bool.true_and]), HW4.out⟩
                case measure => simp [intOf]; omega
      · have HYES := Lib.hid (ret_bool (show true = r by rw [HR.out, all_end (by rw [List.length_map, HN.out]; omega)]))
        have HBE := Lib.hid hbw
        go_wp2
        go_ret
        exact ⟨HYES.out, HBE.out⟩
end Go.Proofs.Ytcelbnemblnabaa.Gr
