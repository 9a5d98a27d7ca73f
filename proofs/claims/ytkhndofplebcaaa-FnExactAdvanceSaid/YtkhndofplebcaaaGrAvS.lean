/-
  Contracts for Advance of the model: l9Many, Advance.
-/
import Derived.Test.YtkhndofplebcaaaGrAvM
import Derived.Test.YtkhndofplebcaaaGrLead
import Derived.Test.YtkhndofplebcaaaGrBegM
import Derived.Test.YtkhndofplebcaaaGrOw
import Derived.Test.YtkhndofplebcaaaBel
import Derived.Deep.QuietTactic
import Derived.BigQuiet
import Derived.Deep.Cut
namespace Go.Proofs.Ytkhndofplebcaaa.Gr
open Go.RowKit CM
set_option linter.unusedVariables false
set_option linter.unusedSimpArgs false

set_option maxRecDepth 100000 in
set_option maxHeartbeats 4000000 in
theorem l9Many_any (A : Option Addr) (n c : Nat) (tm ld : Int) (hs : List RH) (A1 : Option Addr) (n1 c1 m : Nat) (es1 : List EH) (B : Nat) (w : World) (hn : hs.length = n) (h : RowsB KR w B A hs) (hB : B ≤ w.heap.size) (hm : RpSmall (hs.map rdat)) (hn1 : es1.length = n1) (h1 : RowsB KE w B A1 es1) (hm1 : LgSmall (es1.map EH.d)) (tot : Nat) (htot : tot = cntS (es1.map EH.d) m (hs.map rdat)) :
    Calls Try.prog 79 #[.agg #[.slice A n c, .int .i64 tm, .int .i64 ld], .slice A1 n1 c1, .int .i64 (m : Int)] w fun e w' => e = .returned (.int .i64 (tot : Int)) ∧ Below w.heap.size w w' := by
  have hb0 := below1 w (.cells #[.slice A n c, .int .i64 tm, .int .i64 ld] 45)
  have hk0 := heap_alloc_new w (.cells #[.slice A n c, .int .i64 tm, .int .i64 ld] 45)
  have hnl : n ≤ 1048576 := by have := hm.1; simp at this; omega
  have htl : tot ≤ n := by rw [htot, ← hn]; have := cntS_le (es1.map EH.d) m (hs.map rdat); simpa using this
  have HN := Lib.hid hn
  have HS := Lib.hid h
  have HM := Lib.hid (fun x (hx : x ∈ hs) => (show LgSmall (x.es.map EH.d) from hm.2 (rdat x) (List.mem_map_of_mem hx)))
  have HN1 := Lib.hid hn1
  have H1 := Lib.hid h1
  have HM1 := Lib.hid hm1
  have HR0 := Lib.hid (show tot = 0 + cntS (es1.map EH.d) m ((hs.map rdat).drop 0) by rw [htot]; simp)
  have HB0 := Lib.hid hb0
  have HK0 := Lib.hid hk0
  clear htot hn h hm hn1 h1 hm1 hb0 hk0
  go_enter Try.func79, Try.ntmps79
  go_wp2_with fail
  go_loopw [7, 8] (fun v j wr => ∃ (k a : Nat), k ≤ n ∧ a ≤ k ∧ j = .int .i64 k ∧ v = .int .i64 a ∧ Hid (tot = a + cntS (es1.map EH.d) m ((hs.map rdat).drop k)) ∧ Below w.heap.size w wr ∧ Hid (wr.heap[w.heap.size]? = some (.cells #[.slice A n c, .int .i64 tm, .int .i64 ld] 45))) (fun _ j _ => n - (intOf j).toNat)
  case atStart => exact ⟨0, 0, by omega, by omega, rfl, rfl, HR0, HB0.out, HK0⟩
  case round =>
    clear HR0
    obtain ⟨k, a, hk, hak, rfl, rfl, HR, hb, HK⟩ := hrel
    have y0 := cell_blk (i := 0) HK.out rfl
    have yl := lt_blk HK.out
    by_cases hlt : k < n
    · have hkh : k < hs.length := by have := HN.out; omega
      obtain ⟨b, off, rfl, hbB, hc⟩ := rp_get HS.out (by omega)
      obtain ⟨hc0, hc1, hc2⟩ := hc k hkh
      have p1 := (hb.cell (p := ⟨b, off + k * 3 + 1, none⟩) (Nat.lt_of_lt_of_le hbB hB)).trans hc1
      have HRS := Lib.hid (HR.out.trans (by rw [cntS_step (show k < (hs.map rdat).length by simpa using hkh), r_at hkh]))
      have HBr := Nat.le_trans hB hb.size
      have hrd := KR.rd_below (HS.out.at k hkh) (hb.mono hB)
      have hsm := HM.out hs[k] (List.getElem_mem hkh)
      obtain ⟨y, hy⟩ : ∃ y, y = hs[k]'hkh := ⟨_, rfl⟩
      rw [← hy] at p1 hrd hsm HRS
      obtain ⟨up, su, Al, cl, es, rlo, rhi⟩ := y
      simp only [rdat] at p1 hrd hsm HRS
      obtain ⟨v, hv⟩ : ∃ v, v = decide (m ≤ shN (es.map EH.d) (es1.map EH.d)) := ⟨_, rfl⟩
      have HRS := Lib.hid (show tot = a + (v.toNat + cntS (es1.map EH.d) m ((hs.map rdat).drop (k + 1))) by rw [hv]; exact HRS.out)
      have HF := Lib.hid (l9Begins_any Al es.length cl es A1 n1 c1 m es1 B wr rfl hrd hsm HN1.out (H1.out.below (hb.mono hB)) HM1.out HBr v hv)
      obtain ⟨nl, hvnl⟩ : ∃ nl, nl = es.length := ⟨_, rfl⟩
      rw [← hvnl] at p1 HF
      have HBB := Lib.hid hb
      have hk0 : (0 : Int) ≤ (k : Int) := by omega
      have ha0 : (0 : Int) ≤ (a : Int) := by omega
      have hkn : (k : Int) < (n : Int) := by omega
      clear hc hc0 hc1 hc2 hy hrd hsm hv hvnl hb HR HBr
      go_wp2_with fail
      refine HF.out.mono ?_
      rintro e w1 ⟨rfl, ha1⟩
      have HB1 := Lib.hid (HBB.out.trans (ha1.mono HBB.out.size))
      have HK1 := Lib.hid ((ha1.block _ yl).trans HK.out)
      clear ha1 p1 y0 yl
      cases v with
      | false =>
        go_wp2
        go_roundw
        case rel => exact ⟨k + 1, a, by omega, by omega, by go_num, rfl, Lib.hid (by have h9 := HRS.out; simp at h9; omega), HB1.out, HK1⟩
        case measure => simp [intOf]; omega
      | true =>
        go_wp2
        go_roundw
        case rel => exact ⟨k + 1, a + 1, by omega, by omega, by go_num, by go_num, Lib.hid (by have h9 := HRS.out; simp at h9; omega), HB1.out, HK1⟩
        case measure => simp [intOf]; omega
    · have hkn : k = n := by omega
      subst hkn
      have hta : tot = a := by have h9 := HR.out; rw [List.drop_of_length_le (by rw [List.length_map, HN.out]; exact Nat.le_refl _)] at h9; simpa [cntS] using h9
      subst hta
      have HBE := Lib.hid hb
      clear hb HR
      go_wp2
      go_ret
      exact ⟨rfl, HBE.out⟩

/-- The end of Advance: the group's variable is the answer. -/
theorem adv_end {w wr : World} {A2 : Option Addr} {n c2 g2 : Nat} {tm : Int} {q v : Nat} {hs gs : List RH} (hg : grpB tm (q : Int) (hs.map rdat) = true) (hn : hs.length = n) (hv : v = advV tm (hs.map rdat) q) (hd : gs.map rdat = setSu (hs.map rdat) q (v : Int)) (ho : OwnK KR wr w.heap.size wr.heap.size A2 c2 gs) (hb : Below w.heap.size w wr) : GAPost (advA tm (q : Int) (hs.map rdat)) w (.returned (.tuple #[.agg #[.slice A2 n c2, .int .i64 tm, .int .i64 (q : Int)], .bool true])) wr := by
  have e1 : advA tm (q : Int) (hs.map rdat) = (setSu (hs.map rdat) q (v : Int), tm, (q : Int), true) := by
    unfold advA
    rw [if_pos ⟨hg, by omega⟩, Int.toNat_natCast, ← hv]
  rw [e1, GAPost_un]
  exact ⟨A2, c2, gs, by rw [setSu_len, List.length_map, hn], hd, ho, hb⟩

set_option maxRecDepth 100000 in
set_option maxHeartbeats 8000000 in
theorem specAdvance_any (A : Option Addr) (n c : Nat) (tm ld : Int) (hs : List RH) (B : Nat) (w : World) (hn : hs.length = n) (h : RowsB KR w B A hs) (hB : B ≤ w.heap.size) (hm : RpSmall (hs.map rdat)) :
    Calls Try.prog 36 #[.agg #[.slice A n c, .int .i64 tm, .int .i64 ld]] w (GAPost (advA tm ld (hs.map rdat)) w) := by
  have hb0 := below2 w (.cells #[.slice A n c, .int .i64 tm, .int .i64 ld] 45) (.cells #[.slice none 0 0, .int .i64 0, .int .i64 0] 45)
  have ka0 := alloc2_a w (.cells #[.slice A n c, .int .i64 tm, .int .i64 ld] 45) (.cells #[.slice none 0 0, .int .i64 0, .int .i64 0] 45)
  have kb0 := alloc2_b w (.cells #[.slice A n c, .int .i64 tm, .int .i64 ld] 45) (.cells #[.slice none 0 0, .int .i64 0, .int .i64 0] 45)
  have HGG := Lib.hid (specGoodGroup_any A n c tm ld hs B _ hn (h.below (hb0.mono hB)) (Nat.le_trans hB hb0.size) hm)
  have HOW := Lib.hid (fun W (hW : Below w.heap.size w W) => l9Own_any A n c tm ld hs B W hn (h.below (hW.mono hB)) (Nat.le_trans hB hW.size) hm)
  have HB0 := Lib.hid hb0
  have HKA := Lib.hid ka0
  have HKB := Lib.hid kb0
  have hza : w.heap.size < ((w.alloc (.cells #[.slice A n c, .int .i64 tm, .int .i64 ld] 45)).alloc (.cells #[.slice none 0 0, .int .i64 0, .int .i64 0] 45)).heap.size := by simp; omega
  have hzb : w.heap.size + 1 < ((w.alloc (.cells #[.slice A n c, .int .i64 tm, .int .i64 ld] 45)).alloc (.cells #[.slice none 0 0, .int .i64 0, .int .i64 0] 45)).heap.size := by simp
  clear hb0 ka0 kb0
  cases hg : grpB tm ld (hs.map rdat) with
  | false =>
    rw [hg] at HGG
    rw [advA_no (.inl hg)]
    clear hg h hm hn
    go_enter Try.func36, Try.ntmps36
    go_wp2_with fail
    (with_reducible refine HGG.out.mono ?_)
    rintro e w1 ⟨rfl, ha1⟩
    have HB1 := Lib.hid (HB0.out.trans (ha1.mono HB0.out.size))
    have ka1 := (ha1.block w.heap.size hza).trans HKA.out
    have kb1 := (ha1.block (w.heap.size + 1) hzb).trans HKB.out
    have hz1 : w.heap.size + 1 < w1.heap.size := Nat.lt_of_lt_of_le hzb ha1.size
    have hz0 : w.heap.size < w1.heap.size := by omega
    have a2 := cell_blk (i := 2) ka1 rfl
    have b0 := cell_blk (i := 0) kb1 rfl
    have b1 := cell_blk (i := 1) kb1 rfl
    have b2 := cell_blk (i := 2) kb1 rfl
    have fb := free_all kb1
    clear ha1 ka1 kb1
    go_wp2
    exact bodyPost_ret (v := .tuple #[.agg #[.slice none 0 0, .int .i64 0, .int .i64 0], .bool false]) (by simp [results, Try.results36, go_sem, *]) rfl (noGA_post (below_putN HB1.out (show w.heap.size ≤ w.heap.size + 1 by omega) 0 [.slice none 0 0, .int .i64 0, .int .i64 0]))
  | true =>
    rw [hg] at HGG
    by_cases hl : ld = -1
    · subst hl
      rw [advA_no (.inr rfl)]
      clear hg h hm hn
      go_enter Try.func36, Try.ntmps36
      go_wp2_with fail
      (with_reducible refine HGG.out.mono ?_)
      rintro e w1 ⟨rfl, ha1⟩
      have HB1 := Lib.hid (HB0.out.trans (ha1.mono HB0.out.size))
      have ka1 := (ha1.block w.heap.size hza).trans HKA.out
      have kb1 := (ha1.block (w.heap.size + 1) hzb).trans HKB.out
      have hz1 : w.heap.size + 1 < w1.heap.size := Nat.lt_of_lt_of_le hzb ha1.size
      have hz0 : w.heap.size < w1.heap.size := by omega
      have a2 := cell_blk (i := 2) ka1 rfl
      have b0 := cell_blk (i := 0) kb1 rfl
      have b1 := cell_blk (i := 1) kb1 rfl
      have b2 := cell_blk (i := 2) kb1 rfl
      have fb := free_all kb1
      clear ha1 ka1 kb1
      go_wp2
      exact bodyPost_ret (v := .tuple #[.agg #[.slice none 0 0, .int .i64 0, .int .i64 0], .bool false]) (by simp [results, Try.results36, go_sem, *]) rfl (noGA_post (below_putN HB1.out (show w.heap.size ≤ w.heap.size + 1 by omega) 0 [.slice none 0 0, .int .i64 0, .int .i64 0]))
    · obtain ⟨q, hq, hqn⟩ := lead_of hg hl
      rw [List.length_map] at hqn
      subst hq
      have hnl : n ≤ 1048576 := by have := hm.1; simp at this; omega
      have hsu := sure_of hg q (by simpa using hqn)
      rw [r_at hqn] at hsu
      have hlg := lead_log hg q (by simpa using hqn)
      obtain ⟨b, off, rfl, hbB, hc⟩ := rp_get h (by omega)
      obtain ⟨hc0, hc1, hc2⟩ := hc q hqn
      have hrq0 := h.2 hs[q] (List.getElem_mem hqn)
      have hsq0 := (show LgSmall (hs[q].es.map EH.d) from hm.2 (rdat hs[q]) (List.mem_map_of_mem (List.getElem_mem hqn)))
      obtain ⟨v, hv⟩ : ∃ v, v = advV tm (hs.map rdat) q := ⟨_, rfl⟩
      have hv2 := hv
      unfold advV at hv2
      rw [logOf_map hqn, suOf_map hqn] at hv2
      rw [logOf_map hqn] at hlg
      have HEND := Lib.hid (fun (A2 : Option Addr) (c2 : Nat) (gs : List RH) (wr : World) => adv_end (w := w) (wr := wr) (A2 := A2) (c2 := c2) (g2 := 0) (gs := gs) hg hn hv)
      obtain ⟨yq, hyq⟩ : ∃ yq, yq = hs[q]'hqn := ⟨_, rfl⟩
      rw [← hyq] at hc0 hc1 hc2 hrq0 hsq0 hv2 hsu hlg
      have HYS := Lib.hid (show suOf (hs.map rdat) q = yq.su by rw [suOf_map hqn, hyq])
      obtain ⟨upq, suq, Aq, cq, esq, qlo, qhi⟩ := yq
      simp only [rdat] at hc0 hc1 hc2 hrq0 hsq0 hv2 hsu HYS hlg
      obtain ⟨s, rfl⟩ : ∃ s : Nat, suq = (s : Int) := ⟨suq.toNat, by omega⟩
      rw [Int.toNat_natCast, List.length_map] at hv2
      have hsn : s ≤ esq.length := by have := hsu.2; simp only [List.length_map] at this; omega
      have HR0 := Lib.hid hv2
      obtain ⟨nq, hnq⟩ : ∃ nq, nq = esq.length := ⟨_, rfl⟩
      rw [← hnq] at hc1 hsn HR0
      have HNQ := Lib.hid hnq.symm
      have hnq2 : nq ≤ 1048576 := by have := hsq0.1; simp at this; omega
      have HS := Lib.hid h
      have HN := Lib.hid hn
      have HMM := Lib.hid hm
      have HRQ := Lib.hid (show RowsB KE w B Aq esq from hrq0)
      have HSQ := Lib.hid hsq0
      have HLG := Lib.hid hlg
      have HC0 := Lib.hid hc0
      have HC1 := Lib.hid hc1
      have HC2 := Lib.hid hc2
      have hq0 : (0 : Int) ≤ (q : Int) := by omega
      have hq1 : (q : Int) < (n : Int) := by omega
      have HQN := Lib.hid hqn
      have hBB := Nat.lt_of_lt_of_le hbB hB
      clear hg hl h hm hn hv hv2 hyq hc hc0 hc1 hc2 hrq0 hsq0 hnq hqn hsu hlg
      go_enter Try.func36, Try.ntmps36
      go_wp2_with fail
      (with_reducible refine HGG.out.mono ?_)
      rintro e w1 ⟨rfl, ha1⟩
      have HB1 := Lib.hid (HB0.out.trans (ha1.mono HB0.out.size))
      have ka1 := (ha1.block w.heap.size hza).trans HKA.out
      have kb1 := (ha1.block (w.heap.size + 1) hzb).trans HKB.out
      have hz1 : w.heap.size + 1 < w1.heap.size := Nat.lt_of_lt_of_le hzb ha1.size
      have hz0 : w.heap.size < w1.heap.size := by omega
      have a0 := cell_blk (i := 0) ka1 rfl
      have a1 := cell_blk (i := 1) ka1 rfl
      have a2 := cell_blk (i := 2) ka1 rfl
      have HKA1 := Lib.hid ka1
      have HKB1 := Lib.hid kb1
      clear ha1 ka1 kb1
      go_wp2_with fail
      (with_reducible refine (HOW.out _ HB1.out).mono ?_)
      rintro e w2 ⟨A2, c2, gs, rfl, hd2, ho2, ha2⟩
      have hz2 := ha2.size
      have hb2 := HB1.out.trans (ha2.mono HB1.out.size)
      obtain ⟨V, hV⟩ : ∃ V, V = (w2.alloc (.cells #[.slice A2 n c2, .int .i64 tm, .int .i64 (q : Int)] 45)).alloc (.cells #[.bool upq, .slice Aq nq cq, .int .i64 (s : Int)] 91) := ⟨_, rfl⟩
      have hbx : Below w2.heap.size w2 V := by rw [hV]; exact below2 _ _ _
      have kg : V.heap[w2.heap.size]? = some (.cells #[.slice A2 n c2, .int .i64 tm, .int .i64 (q : Int)] 45 (0, 0)) := by rw [hV]; exact alloc2_a _ _ _
      have kl : V.heap[w2.heap.size + 1]? = some (.cells #[.bool upq, .slice Aq nq cq, .int .i64 (s : Int)] 91 (0, 0)) := by rw [hV]; exact alloc2_b _ _ _
      have ka2 := (ha2.block w.heap.size hz0).trans HKA1.out
      have kb2 := (ha2.block (w.heap.size + 1) hz1).trans HKB1.out
      have HKA2 := Lib.hid ((hbx.block w.heap.size (by omega)).trans ka2)
      have HKB2 := Lib.hid ((hbx.block (w.heap.size + 1) (by omega)).trans kb2)
      have a0 := cell_blk (i := 0) ka2 rfl
      have a1 := cell_blk (i := 1) ka2 rfl
      have a2 := cell_blk (i := 2) ka2 rfl
      have p0 := (hb2.cell (p := ⟨b, off + q * 3, none⟩) hBB).trans HC0.out
      have p1 := (hb2.cell (p := ⟨b, off + q * 3 + 1, none⟩) hBB).trans HC1.out
      have p2 := (hb2.cell (p := ⟨b, off + q * 3 + 2, none⟩) hBB).trans HC2.out
      have hl1 : w.heap.size < w2.heap.size := by omega
      have hl2 : b < w2.heap.size := Nat.lt_of_lt_of_le hBB hb2.size
      have HBV := Lib.hid (hb2.trans (hbx.mono hb2.size))
      have HOV := Lib.hid (ho2.since hbx)
      have HDD := Lib.hid (show gs.map rdat = hs.map rdat from hd2)
      have HKG := Lib.hid kg
      have HKL := Lib.hid kl
      have HVS := Lib.hid hV
      clear hV hbx kg kl ka2 kb2 hd2 ho2 ha2 hb2
      go_wp2
      rw [← HVS.out]
      clear a0 a1 a2 p0 p1 p2
      have hgl : gs.length = n := (dats_len HDD.out).trans HN.out
      obtain ⟨g, cur, rfl, hg1, hg2, _⟩ := HOV.out.form (by have := HQN.out; have := HN.out; omega)
      have HGL := Lib.hid hgl
      have hV1 := lt_blk HKL.out
      have hqg : q < gs.length := by have := HQN.out; have := HN.out; omega
      have HQG := Lib.hid hqg
      clear hgl hqg
      go_loopw [6] (fun j wr => ∃ k : Nat, k ≤ nq ∧ j = .int .i64 k ∧ Hid (v = advF (advP tm (esq.map EH.d) (hs.map rdat)) s k) ∧ Below V.heap.size V wr) (fun j _ => (intOf j).toNat)
      case atStart => exact ⟨nq, Nat.le_refl _, rfl, HR0, Below.refl _ _⟩
      case round =>
        clear HR0
        obtain ⟨k, hk, rfl, HR, hb⟩ := hrel
        have hbw := HBV.out.trans (hb.mono HBV.out.size)
        have HKA3 := Lib.hid ((hb.block _ (lt_blk HKA2.out)).trans HKA2.out)
        have HKB3 := Lib.hid ((hb.block _ (lt_blk HKB2.out)).trans HKB2.out)
        have HKG3 := Lib.hid ((hb.block _ (lt_blk HKG.out)).trans HKG.out)
        have HKL3 := Lib.hid ((hb.block _ (lt_blk HKL.out)).trans HKL.out)
        have l1 := cell_blk (i := 1) HKL3.out rfl
        have l2 := cell_blk (i := 2) HKL3.out rfl
        have l9 := lt_blk HKL3.out
        have HO3 := Lib.hid (HOV.out.since hb)
        have HBW := Lib.hid hbw
        have HB3 := Lib.hid hb
        by_cases hks : s < k
        · obtain ⟨k', hk'⟩ : ∃ k', k = k' + 1 := ⟨k - 1, by omega⟩
          have HR2 := Lib.hid (show v = if advP tm (esq.map EH.d) (hs.map rdat) (k' + 1) = true then k' + 1 else advF (advP tm (esq.map EH.d) (hs.map rdat)) s k' by have h9 := HR.out; rw [hk', advF_step (by omega)] at h9; exact h9)
          obtain ⟨be, offe, rfl, hbe, hce⟩ := en_get HRQ.out (by have := HNQ.out; omega)
          have hkq : k' < esq.length := by have := HNQ.out; omega
          have ce0 := (hbw.cell (p := ⟨be, offe + k' * 8, none⟩) (Nat.lt_of_lt_of_le hbe hB)).trans (hce k' hkq).1
          have hbel : be < wr.heap.size := Nat.lt_of_lt_of_le hbe (Nat.le_trans hB hbw.size)
          have hte := tmAt_map (es := esq) hkq
          obtain ⟨te, hte0⟩ : ∃ te, te = esq[k'].d.tm := ⟨_, rfl⟩
          rw [← hte0] at ce0 hte
          obtain ⟨tot, htot⟩ : ∃ tot, tot = cntS (esq.map EH.d) (k' + 1) (hs.map rdat) := ⟨_, rfl⟩
          have htl : tot ≤ n := by rw [htot, ← HN.out]; have := cntS_le (esq.map EH.d) (k' + 1) (hs.map rdat); simpa using this
          have HP := Lib.hid (show advP tm (esq.map EH.d) (hs.map rdat) (k' + 1) = (decide (te = tm) && decide (n < 2 * tot)) by unfold advP; rw [Nat.add_sub_cancel, hte, List.length_map, HN.out, ← htot])
          have hmy := fun (p : BelT wr) => l9Many_any (some ⟨b, off, none⟩) n c tm (q : Int) hs (some ⟨be, offe, none⟩) nq cq (k' + 1) esq B p.w HN.out (HS.out.below ((hbw.trans (p.below.mono hbw.size)).mono hB)) (Nat.le_trans hB (Nat.le_trans hbw.size p.sz)) HMM.out HNQ.out (HRQ.out.below ((hbw.trans (p.below.mono hbw.size)).mono hB)) HSQ.out tot htot
          have hkk : (k : Int) - 1 = (k' : Int) := by omega
          have hkc : ((k' + 1 : Nat) : Int) = (k : Int) := by omega
          rw [hkc] at hmy
          have HMY := Lib.hid hmy
          have HKC := Lib.hid hkc
          have a0 := cell_blk (i := 0) HKA3.out rfl
          have a1 := cell_blk (i := 1) HKA3.out rfl
          have a2 := cell_blk (i := 2) HKA3.out rfl
          have a9 := lt_blk HKA3.out
          have y0 := bel_cell a0 a9
          have y1 := bel_cell a1 a9
          have y2 := bel_cell a2 a9
          have y3 := bel_cell l1 l9
          have y4 := bel_cell ce0 hbel
          have hk0 : (0 : Int) ≤ (k' : Int) := by omega
          have hkn : (k' : Int) < (nq : Int) := by omega
          have hks2 : (s : Int) < (k : Int) := by omega
          have hw2 : IntKind.i64.wrap (2 * (tot : Int)) = 2 * (tot : Int) := by rw [IntKind.wrap_i64]; omega
          have hw3 : IntKind.i64.wrap ((k : Int) - 1) = (k' : Int) := by rw [IntKind.wrap_i64]; omega
          have hkk2 : k' < k := by omega
          clear hk' hce hkq hte hte0 htot hb hbw hmy hkc HR
          by_cases ht : te = tm
          · have e1 : (te == tm) = true := by simp [ht]
            by_cases hw : n < 2 * tot
            · have hw4 : (n : Int) < 2 * (tot : Int) := by omega
              have HV9 := Lib.hid (show v = k by have h9 := HR2.out; rw [HP.out, decide_eq_true ht, decide_eq_true hw] at h9; simp only [Bool.and_self, if_true] at h9; rw [h9]; have := HKC.out; omega)
              clear ht hw HR2 HP
              go_wp2_with fail
              clear a0 a1 a2 ce0
              refine bel_region (by kernel_rfl) (by kernel_rfl) ?_
              repeat (go_big_quiet_step ((go_at_call 79; exact bel_call (HMY.out _))))
              refine wpQuiet_nil ?_
              intro p
              obtain ⟨W5, hW5⟩ : ∃ W5, W5 = p.w := ⟨_, rfl⟩
              have hb5 : Below wr.heap.size wr W5 := by rw [hW5]; exact p.below
              rw [← hW5]
              have HBW5 := Lib.hid (HBW.out.trans (hb5.mono HBW.out.size))
              have ka5 := (hb5.block _ (lt_blk HKA3.out)).trans HKA3.out
              have kb5 := (hb5.block _ (lt_blk HKB3.out)).trans HKB3.out
              have kg5 := (hb5.block _ (lt_blk HKG3.out)).trans HKG3.out
              have ho5 := HO3.out.since hb5
              have HO5 := Lib.hid ho5
              have a2 := cell_blk (i := 2) ka5 rfl
              have b0 := cell_blk (i := 0) kb5 rfl
              have b1 := cell_blk (i := 1) kb5 rfl
              have b2 := cell_blk (i := 2) kb5 rfl
              have fb := free_all kb5
              have g0 := cell_blk (i := 0) kg5 rfl
              have g1' := cell_blk (i := 1) kg5 rfl
              have g2' := cell_blk (i := 2) kg5 rfl
              have r2 : W5.cell? ⟨g, q * 3 + 2, none⟩ = some (.int .i64 gs[q].su) := ho5.cell q HQG.out 2 (by decide)
              have fr := fun i => ho5.free (by have := HQG.out; omega) i
              have hgl5 : g < W5.heap.size := ho5.bounds.2.2
              have hz5 := hb5.size
              have hbb5 := lt_blk kb5
              have hgg5 := lt_blk kg5
              have n1 : w.heap.size + 1 ≠ g := by omega
              have n2 : w2.heap.size ≠ g := by omega
              have n3 : g ≠ w2.heap.size := by omega
              have n4 : g ≠ w.heap.size + 1 := by omega
              clear hW5 hb5 ka5 kb5 kg5 ho5 y0 y1 y2 y3 y4 l1 l2 HMY p
              go_wp2
              exact bodyPost_ret (v := .tuple #[.agg #[.slice (some ⟨g, 0, none⟩) n c2, .int .i64 tm, .int .i64 (q : Int)], .bool true]) (by simp [results, Try.results36, go_sem, *]) rfl
                (HEND.out (some ⟨g, 0, none⟩) c2 (suH gs q (k : Int)) _ (by rw [suH_map, HDD.out, HV9.out])
                  (((own_suH HO5.out q HQG.out (k : Int)).keep (keep_putN (g := w.heap.size + 1) (.inl hz1) 0 [.slice (some ⟨g, 0, none⟩) n c2, .int .i64 tm, .int .i64 (q : Int)])).wider (by omega) (by simp [World.setCell]; omega))
                  (below_putN (HBW5.out.setCell (p := ⟨g, q * 3 + 2, none⟩) (show w.heap.size ≤ g by omega) _) (show w.heap.size ≤ w.heap.size + 1 by omega) 0 [.slice (some ⟨g, 0, none⟩) n c2, .int .i64 tm, .int .i64 (q : Int)]))
            · have hw4 : ¬ (n : Int) < 2 * (tot : Int) := by omega
              have HV9 := Lib.hid (show v = advF (advP tm (esq.map EH.d) (hs.map rdat)) s k' by have h9 := HR2.out; rw [HP.out, decide_eq_false hw] at h9; simpa using h9)
              clear ht hw HR2 HP
              go_wp2_with fail
              clear a0 a1 a2 ce0
              refine bel_region (by kernel_rfl) (by kernel_rfl) ?_
              repeat (go_big_quiet_step ((go_at_call 79; exact bel_call (HMY.out _))))
              refine wpQuiet_nil ?_
              intro p
              have HB5 := Lib.hid (HB3.out.trans (p.below.mono HB3.out.size))
              clear y0 y1 y2 y3 y4 l1 l2 HMY
              go_wp2
              go_roundw
              case rel => exact ⟨k', by omega, by go_num, HV9, HB5.out⟩
              case measure => simp [intOf]; omega
          · have e1 : (te == tm) = false := by simp [ht]
            have HV9 := Lib.hid (show v = advF (advP tm (esq.map EH.d) (hs.map rdat)) s k' by have h9 := HR2.out; rw [HP.out, decide_eq_false ht] at h9; simpa using h9)
            clear ht HR2 HP
            go_wp2_with fail
            clear a0 a1 a2 ce0
            refine bel_region (by kernel_rfl) (by kernel_rfl) ?_
            repeat (go_big_quiet_step ((go_at_call 79; exact bel_call (HMY.out _))))
            refine wpQuiet_nil ?_
            intro p
            have HB5 := Lib.hid (HB3.out.trans (p.below.mono HB3.out.size))
            clear y0 y1 y2 y3 y4 l1 l2 HMY
            go_wp2
            go_roundw
            case rel => exact ⟨k', by omega, by go_num, HV9, HB5.out⟩
            case measure => simp [intOf]; omega
        · have hks2 : (k : Int) ≤ (s : Int) := by omega
          have hks3 : ¬ (s : Int) < (k : Int) := by omega
          have HV9 := Lib.hid (show v = s by have h9 := HR.out; rw [advF_low (by omega)] at h9; exact h9)
          have b0 := cell_blk (i := 0) HKB3.out rfl
          have b1 := cell_blk (i := 1) HKB3.out rfl
          have b2 := cell_blk (i := 2) HKB3.out rfl
          have fb := free_all HKB3.out
          have g0 := cell_blk (i := 0) HKG3.out rfl
          have g1' := cell_blk (i := 1) HKG3.out rfl
          have g2' := cell_blk (i := 2) HKG3.out rfl
          have hz5 := hb.size
          have hbb5 := lt_blk HKB3.out
          have hgg5 := lt_blk HKG3.out
          clear hb hbw HR hks
          go_wp2
          exact bodyPost_ret (v := .tuple #[.agg #[.slice (some ⟨g, 0, none⟩) n c2, .int .i64 tm, .int .i64 (q : Int)], .bool true]) (by simp [results, Try.results36, go_sem, *]) rfl
            (HEND.out (some ⟨g, 0, none⟩) c2 gs _ (by rw [HDD.out, HV9.out, ← HYS.out, setSu_same])
              ((HO3.out.keep (keep_putN (g := w.heap.size + 1) (.inl hz1) 0 [.slice (some ⟨g, 0, none⟩) n c2, .int .i64 tm, .int .i64 (q : Int)])).wider (by omega) (by simp [World.setCell]; omega))
              (below_putN HBW.out (show w.heap.size ≤ w.heap.size + 1 by omega) 0 [.slice (some ⟨g, 0, none⟩) n c2, .int .i64 tm, .int .i64 (q : Int)]))
end Go.Proofs.Ytkhndofplebcaaa.Gr
