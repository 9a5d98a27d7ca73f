/-
  Contracts for Advance of the program: the majority over numbers, committed.
-/
import Derived.Test.YtkhndofplebcaaaGrAvM
import Derived.Test.YtkhndofplebcaaaGrLead
import Derived.Test.YtkhndofplebcaaaGrBeg
import Derived.Test.YtkhndofplebcaaaGrEl
import Derived.Test.YtkhndofplebcaaaBel
import Derived.Deep.Cut
import Derived.WalkMore
namespace Go.Proofs.Ytkhndofplebcaaa.Gr
open Go.RowKit CM
set_option linter.unusedVariables false
set_option linter.unusedSimpArgs false

def numCs (x : Nat) : List Value := [.int .i64 (x : Int)]
/-- How many numbers are m at least. -/
def cntI (m : Nat) (is : List Nat) : Nat := (is.filter fun x => decide (m ≤ x)).length
theorem cntI_step {m : Nat} {is : List Nat} {k : Nat} (h : k < is.length) : cntI m (is.drop k) = (decide (m ≤ is[k])).toNat + cntI m (is.drop (k + 1)) := by
  unfold cntI
  rw [List.drop_eq_getElem_cons h, List.filter_cons]
  cases decide (m ≤ is[k]) <;> simp; omega
theorem cntI_le (m : Nat) (is : List Nat) : cntI m is ≤ is.length := List.length_filter_le _ _
theorem same_comm (a b : ED) : sameE a b = sameE b a := by
  unfold sameE sameB
  rw [Bool.eq_iff_iff]
  simp only [Bool.and_eq_true, beq_iff_eq]
  constructor <;> (intro h; simp_all)
theorem sh_comm : ∀ (a b : List ED), shN a b = shN b a
  | [], [] => rfl
  | [], _ :: _ => rfl
  | _ :: _, [] => rfl
  | x :: a, y :: b => by simp only [shN]; rw [same_comm x y, sh_comm a b]
def shs (L : List ED) (rs : List RD) : List Nat := rs.map fun r => shN L r.log
theorem cnt_shs (L : List ED) (m : Nat) (rs : List RD) : cntI m (shs L rs) = cntS L m rs := by
  unfold cntI cntS shs
  rw [List.filter_map, List.length_map]
  congr 1
  refine List.filter_congr fun r _ => ?_
  simp only [Function.comp_apply]
  rw [sh_comm]

set_option maxHeartbeats 1000000 in
theorem committedFn_any (s m pb : Nat) (w : World) (hp : w.cell? ⟨pb, 0, none⟩ = some (.int .i64 (m : Int))) :
    Calls Try.prog 159 #[.int .i64 (s : Int), .pointer (some ⟨pb, 0, none⟩)] w fun e w' => e = .returned (.bool (decide (m ≤ s))) ∧ w = w' := by
  by_cases h : m ≤ s
  · rw [decide_eq_true h]
    have h1 : (m : Int) ≤ (s : Int) := by omega
    clear h
    go_enter Try.func159, Try.ntmps159
    go_wp2
    go_ret
    exact ⟨rfl, rfl⟩
  · rw [decide_eq_false h]
    have h1 : (s : Int) < (m : Int) := by omega
    have h2 : decide ((m : Int) ≤ (s : Int)) = false := by simp; omega
    have h3 : decide (m ≤ s) = false := by simp; omega
    clear h
    go_enter Try.func159, Try.ntmps159
    go_wp2
    go_ret
    exact ⟨rfl, rfl⟩

set_option maxRecDepth 100000 in
set_option maxHeartbeats 4000000 in
theorem mostInt_any (A : Option Addr) (n c : Nat) (is : List Nat) (pb m B : Nat) (w : World) (hn : is.length = n) (h : RowB w B A 1 (is.map numCs)) (hl : n ≤ 1048576) (hB : B ≤ w.heap.size) (hp : w.cell? ⟨pb, 0, none⟩ = some (.int .i64 (m : Int))) (r : Bool) (hr : r = decide (n < 2 * cntI m is)) :
    Calls Try.prog 158 #[.slice A n c, .func (Fn.func 159) #[] #[.pointer (some ⟨pb, 0, none⟩)]] w fun e w' => e = .returned (.bool r) ∧ w = w' := by
  obtain ⟨tot, htot⟩ : ∃ tot, tot = cntI m is := ⟨_, rfl⟩
  rw [← htot] at hr
  have htl : tot ≤ n := by rw [htot, ← hn]; exact cntI_le m is
  have HMJ := Lib.hid (fun W => isMajority_any tot n W (by omega) hl)
  rw [← hr] at HMJ
  have HN := Lib.hid hn
  have HS := Lib.hid h
  have HR0 := Lib.hid (show tot = 0 + cntI m (is.drop 0) by rw [htot]; simp)
  have HF := Lib.hid (fun s => committedFn_any s m pb w hp)
  clear hr htot hn h hp
  go_enter Try.func158, Try.ntmps158
  go_wp2_with fail
  go_loopw [5, 10] (fun v j wr => ∃ (k a : Nat), k ≤ n ∧ a ≤ k ∧ j = .int .i64 k ∧ v = .int .i64 a ∧ Hid (tot = a + cntI m (is.drop k)) ∧ wr = w) (fun _ j _ => n - (intOf j).toNat)
  case atStart => exact ⟨0, 0, by omega, by omega, rfl, rfl, HR0, rfl⟩
  case round =>
    clear HR0
    obtain ⟨k, a, hk, hak, rfl, rfl, HR, rfl⟩ := hrel
    by_cases hlt : k < n
    · have hkh : k < is.length := by have := HN.out; omega
      obtain ⟨b, off, rfl, hc⟩ : ∃ b off, A = some ⟨b, off, none⟩ ∧ wr.cell? ⟨b, off + k, none⟩ = some (.int .i64 (is[k] : Int)) := by
        rcases HS.out with h0 | ⟨b, off, hA, _, hc⟩
        · rw [List.map_eq_nil_iff] at h0; rw [h0] at hkh; simp at hkh
        · have h1 := hc k (by simpa using hkh) 0 (by omega)
          simp only [List.getElem_map, Nat.mul_one, Nat.add_zero] at h1
          exact ⟨b, off, hA, h1⟩
      have HRS0 := HR.out.trans (by rw [cntI_step hkh])
      obtain ⟨x, hx⟩ : ∃ x, x = is[k]'hkh := ⟨_, rfl⟩
      rw [← hx] at hc HRS0
      obtain ⟨v, hv⟩ : ∃ v, v = decide (m ≤ x) := ⟨_, rfl⟩
      have HRS := Lib.hid (show tot = a + (v.toNat + cntI m (is.drop (k + 1))) by rw [hv]; exact HRS0)
      have HC := Lib.hid (HF.out x)
      rw [← hv] at HC
      have hk0 : (0 : Int) ≤ (k : Int) := by omega
      have ha0 : (0 : Int) ≤ (a : Int) := by omega
      have hkn : (k : Int) < (n : Int) := by omega
      clear hx hv HRS0 HR
      go_wp2_with fail
      refine HC.out.mono ?_
      rintro e w1 ⟨rfl, rfl⟩
      clear hc
      cases v with
      | false =>
        go_wp2
        go_roundw
        case rel => exact ⟨k + 1, a, by omega, by omega, by go_num, rfl, Lib.hid (by have h9 := HRS.out; simp at h9; omega), by trivial⟩
        case measure => simp [intOf]; omega
      | true =>
        go_wp2
        go_roundw
        case rel => exact ⟨k + 1, a + 1, by omega, by omega, by go_num, by go_num, Lib.hid (by have h9 := HRS.out; simp at h9; omega), by trivial⟩
        case measure => simp [intOf]; omega
    · have hkn : k = n := by omega
      subst hkn
      have hta : tot = a := by have h9 := HR.out; rw [List.drop_of_length_le (by rw [HN.out]; exact Nat.le_refl _)] at h9; simpa [cntI] using h9
      subst hta
      clear HR
      go_wp2_with fail
      refine (HMJ.out _).mono ?_
      rintro e w1 ⟨rfl, rfl⟩
      go_wp2
      go_ret
      exact ⟨rfl, rfl⟩
theorem infoI : (Try.prog.info? 3).map (fun i => (i.zero, i.size, i.bytes)) = some (some (.int .i64 0), 1, 8) := by kernel_rfl
theorem Fill.snocN1 {w : World} {g n k : Nat} {t : TypeId} {is : List Nat} (h : Fill w g n 1 t ((is.take k).map numCs) k) (hk : k < is.length) (hn : k < n) (x : Nat) (hx : x = is[k]) :
    Fill (w.setCell ⟨g, k, none⟩ (.int .i64 (x : Int))) g n 1 t ((is.take (k + 1)).map numCs) (k + 1) := by
  subst hx
  have hl : ((is.take k).map numCs).length = k := by simp; omega
  have e : (is.take (k + 1)).map numCs = (is.take k).map numCs ++ [[.int .i64 (is[k] : Int)]] := by
    rw [List.take_succ_eq_append_getElem hk, List.map_append]
    rfl
  rw [e]
  obtain ⟨cur, hh, hs, hc⟩ := h
  refine ⟨cur.setIfInBounds k (.int .i64 (is[k] : Int)), ?_, by simp [hs], fun j hj hjk i hi => ?_⟩
  · simp [World.setCell, Array.getElem?_modify, hh]
  · have hi0 : i = 0 := by omega
    subst hi0
    rcases Nat.lt_or_ge j k with h1 | h1
    · rw [Array.getElem?_setIfInBounds_ne (by omega), List.getElem_append_left (by rw [hl]; exact h1)]
      exact hc j (by rw [hl]; exact h1) h1 0 (by omega)
    · have hjl : j = k := by omega
      subst hjl
      rw [Nat.mul_one, Nat.add_zero, Array.getElem?_setIfInBounds_self_of_lt (by omega), List.getElem_append_right (by rw [hl]; exact Nat.le_refl _)]
      simp
def ptrInt (v : Value) (w : World) : Nat := match v with
  | .pointer (some a) => match w.cell? a with
    | some (.int _ z) => z.toNat
    | _ => 0
  | _ => 0
theorem fill_row {w : World} {g n : Nat} {t : TypeId} {L : List (List Value)} (h : Fill w g n 1 t L n) (hn : L.length = n) : RowB w w.heap.size (some ⟨g, 0, none⟩) 1 L := by
  have hlt := h.lt
  obtain ⟨cur, hh, hs, hc⟩ := h
  refine .inr ⟨g, 0, rfl, hlt, fun k hk i hi => ?_⟩
  rw [cell_of_row w g _ cur t (0, 0) hh, Nat.zero_add]
  exact hc k hk (by omega) i hi

theorem make_step {w W1 W2 w1 : World} {n : Nat} {a x y : Value} {t : TypeId} (h2 : W2.heap.size = w.heap.size + 2) (hws1 : W1.heap.size ≤ w.heap.size + 1) (hws2 : w.heap.size + 1 ≤ W1.heap.size) (k0 : W2.heap[w.heap.size]? = some (.cells #[a, x, y] t (0, 0))) (hown : w1.ownsRow W2.heap.size 3 1 (.slice (some ⟨W2.heap.size, 0, none⟩) n n) n (madeCells (Value.int .i64 0).cells (n * 1)).toList) (hgr : W2.grownBy w1 none) :
    Hid (Fill w1 (W1.heap.size + 1) n 1 3 [] 0) ∧ Hid (Below (W1.heap.size + 1) W2 w1) ∧ w1.cell? ⟨w.heap.size, 0, none⟩ = some a ∧ w.heap.size < w1.heap.size := by
  have hb1 : Below W2.heap.size W2 w1 := (Below.refl _ _).grown hgr (Nat.le_refl _) (by simp)
  have hf0 := fill_made (by omega) hown
  have e : W2.heap.size = W1.heap.size + 1 := by omega
  have ka := (hb1.block w.heap.size (by omega)).trans k0
  rw [e] at hf0 hb1
  exact ⟨hf0, hb1, cell_blk (i := 0) ka rfl, lt_blk ka⟩
set_option maxRecDepth 100000 in
set_option maxHeartbeats 8000000 in
theorem committed_any (A : Option Addr) (n c : Nat) (tm : Int) (q : Nat) (hs : List RH) (B : Nat) (w : World) (hn : hs.length = n) (h : RowsB KR w B A hs) (hB : B ≤ w.heap.size) (hm : RpSmall (hs.map rdat)) (hqn : q < hs.length) (hs0 : 0 ≤ (hs[q]'hqn).su ∧ (hs[q]'hqn).su ≤ ((hs[q]'hqn).es.length : Int)) (hlg : lgB tm 1 ((hs[q]'hqn).es.map EH.d) = true) (v : Nat) (hv : v = advV tm (hs.map rdat) q) :
    Calls Try.prog 125 #[.agg #[.slice A n c, .int .i64 tm, .int .i64 (q : Int)]] w fun e w' => e = .returned (.int .i64 (v : Int)) ∧ Below w.heap.size w w' := by
  have hnl : n ≤ 1048576 := by have := hm.1; simp at this; omega
  have HI3 := Lib.hid (info_parts infoI)
  obtain ⟨b, off, rfl, hbB, hc⟩ := rp_get h (by omega)
  obtain ⟨hc0, hc1, hc2⟩ := hc q hqn
  have hrq0 := h.2 hs[q] (List.getElem_mem hqn)
  have hsq0 := (show LgSmall (hs[q].es.map EH.d) from hm.2 (rdat hs[q]) (List.mem_map_of_mem (List.getElem_mem hqn)))
  have hv2 := hv
  unfold advV at hv2
  rw [logOf_map hqn, suOf_map hqn] at hv2
  obtain ⟨yq, hyq⟩ : ∃ yq, yq = hs[q]'hqn := ⟨_, rfl⟩
  rw [← hyq] at hc0 hc1 hc2 hrq0 hsq0 hv2 hs0 hlg
  obtain ⟨upq, suq, Aq, cq, esq, qlo, qhi⟩ := yq
  simp only at hc0 hc1 hc2 hrq0 hsq0 hv2 hs0 hlg
  obtain ⟨s, rfl⟩ : ∃ s : Nat, suq = (s : Int) := ⟨suq.toNat, by omega⟩
  rw [Int.toNat_natCast, List.length_map] at hv2
  have hsn : s ≤ esq.length := by omega
  have HR0 := Lib.hid hv2
  obtain ⟨nq, hnq⟩ : ∃ nq, nq = esq.length := ⟨_, rfl⟩
  rw [← hnq] at hc1 hsn HR0
  have HNQ := Lib.hid hnq.symm
  have hnq2 : nq ≤ 1048576 := by have := hsq0.1; simp at this; omega
  have HS := Lib.hid h
  have HN := Lib.hid hn
  have HMM := Lib.hid (fun x (hx : x ∈ hs) => (show LgSmall (x.es.map EH.d) from hm.2 (rdat x) (List.mem_map_of_mem hx)))
  have HRQ := Lib.hid (show RowsB KE w B Aq esq from hrq0)
  have HSQ := Lib.hid hsq0
  have HLG := Lib.hid hlg
  have HC := Lib.hid hc
  have hq0 : (0 : Int) ≤ (q : Int) := by omega
  have hq1 : (q : Int) < (n : Int) := by omega
  have hBB := Nat.lt_of_lt_of_le hbB hB
  have HSL := Lib.hid (show (shs (esq.map EH.d) (hs.map rdat)).length = n by unfold shs; simp; exact hn)
  obtain ⟨W2, hW2⟩ : ∃ W2, W2 = (w.alloc (.cells #[.slice (some ⟨b, off, none⟩) n c, .int .i64 tm, .int .i64 (q : Int)] 45)).alloc (.cells #[.bool upq, .slice Aq nq cq, .int .i64 (s : Int)] 91) := ⟨_, rfl⟩
  have hb2 : Below w.heap.size w W2 := by rw [hW2]; exact below2 _ _ _
  have k0 : W2.heap[w.heap.size]? = some (.cells #[.slice (some ⟨b, off, none⟩) n c, .int .i64 tm, .int .i64 (q : Int)] 45 (0, 0)) := by rw [hW2]; exact alloc2_a _ _ _
  have k1 : W2.heap[w.heap.size + 1]? = some (.cells #[.bool upq, .slice Aq nq cq, .int .i64 (s : Int)] 91 (0, 0)) := by rw [hW2]; exact alloc2_b _ _ _
  have hW2s : W2.heap.size = w.heap.size + 2 := by rw [hW2]; simp
  have HB2 := Lib.hid hb2
  have K0 := Lib.hid k0
  have K1 := Lib.hid k1
  have HW2S := Lib.hid hW2s
  have HVV := Lib.hid hv
  obtain ⟨W1, hW1⟩ : ∃ W1, W1 = w.alloc (.cells #[.slice (some ⟨b, off, none⟩) n c, .int .i64 tm, .int .i64 (q : Int)] 45) := ⟨_, rfl⟩
  have hbw1 : Below w.heap.size w W1 := by rw [hW1]; exact below1 _ _
  have kk1 : W1.heap[w.heap.size]? = some (.cells #[.slice (some ⟨b, off, none⟩) n c, .int .i64 tm, .int .i64 (q : Int)] 45 (0, 0)) := by rw [hW1]; exact heap_alloc_new _ _
  have p0 := (hbw1.cell (p := ⟨b, off + q * 3, none⟩) hBB).trans hc0
  have p1 := (hbw1.cell (p := ⟨b, off + q * 3 + 1, none⟩) hBB).trans hc1
  have p2 := (hbw1.cell (p := ⟨b, off + q * 3 + 2, none⟩) hBB).trans hc2
  have a0 := cell_blk (i := 0) kk1 rfl
  have a2 := cell_blk (i := 2) kk1 rfl
  have a9 := lt_blk kk1
  have hBB1 := Nat.lt_of_lt_of_le hBB hbw1.size
  rw [← hW1] at hW2
  have HW1 := Lib.hid hW1
  have HW2 := Lib.hid hW2
  have hws1 : W1.heap.size ≤ w.heap.size + 1 := by rw [hW1]; simp
  have hws2 : w.heap.size + 1 ≤ W1.heap.size := by rw [hW1]; simp
  have k1 := K1.out
  rw [show w.heap.size + 1 = W1.heap.size by omega] at k1
  have K1 := Lib.hid k1
  clear hW1 hbw1 kk1 k1
  clear h hm hn hv hv2 hyq hc hc0 hc1 hc2 hrq0 hsq0 hnq hs0 hlg hW2 hb2 k0 k1 hW2s
  go_enter Try.func125, Try.ntmps125
  go_wp2_with fail
  go_step3
  rw [← HW1.out]
  have HSTEP := Lib.hid (fun (w1 : World) (hown : w1.ownsRow W2.heap.size 3 1 (.slice (some ⟨W2.heap.size, 0, none⟩) n n) n (madeCells (Value.int .i64 0).cells (n * 1)).toList) (hgr : W2.grownBy w1 none) => make_step (W1 := W1) (w := w) HW2S.out hws1 hws2 K0.out hown hgr)
  have hsz9 : W2.heap.size = W1.heap.size + 1 := by have h1 := HW2S.out; omega
  have HSZ9 := Lib.hid hsz9
  clear hsz9
  go_wp2_with (at_make; obtain ⟨i0, hi, hz0, hz1, hz2⟩ := HI3.out; refine wpList_make_full _ rfl (.tmp 19) (.tmp 19) 180 rfl _ 3 i0 _ 1 Try.underlying180 hi hz0 hz1 .i64 .i64 _ _ n rfl rfl rfl rfl (by rw [hz2]; omega) (by unfold maxLen; omega) (Nat.le_refl _) ?_; intro w1 hown hgr; rw [← HW2.out] at hown hgr; obtain ⟨HF0, HBM, a0', aw'⟩ := HSTEP.out w1 hown hgr; clear hown hgr a0 a2 p0 p1 p2)
  clear a0' aw'
  go_loopw [24] (fun j wr => ∃ k : Nat, k ≤ n ∧ j = .int .i64 k ∧ Hid (Fill wr (W1.heap.size + 1) n 1 3 (((shs (esq.map EH.d) (hs.map rdat)).take k).map numCs) k) ∧ Hid (Below (W1.heap.size + 1) W2 wr)) (fun j _ => n - (intOf j).toNat)
  case atStart => exact ⟨0, by omega, rfl, by simpa using HF0, HBM⟩
  case round =>
    clear HF0 HBM
    obtain ⟨k, hk, rfl, HF, HBR⟩ := hrel
    have hbw := HB2.out.trans (HBR.out.mono (by omega))
    have HK0 := Lib.hid ((HBR.out.block w.heap.size (by omega)).trans K0.out)
    have HK1 := Lib.hid ((HBR.out.block W1.heap.size (by omega)).trans K1.out)
    by_cases hlt : k < n
    · have hkh : k < hs.length := by have := HN.out; omega
      obtain ⟨hc0, hc1, hc2⟩ := HC.out k hkh
      have r0 := (hbw.cell (p := ⟨b, off + k * 3, none⟩) hBB).trans hc0
      have r1 := (hbw.cell (p := ⟨b, off + k * 3 + 1, none⟩) hBB).trans hc1
      have r2 := (hbw.cell (p := ⟨b, off + k * 3 + 2, none⟩) hBB).trans hc2
      have l1 := cell_blk (i := 1) HK1.out rfl
      have l9 := lt_blk HK1.out
      have hrd := KR.rd_below (HS.out.at k hkh) (hbw.mono hB)
      have hsm := HMM.out hs[k] (List.getElem_mem hkh)
      have hMk : (shs (esq.map EH.d) (hs.map rdat))[k]'(by rw [HSL.out]; exact hlt) = shN (esq.map EH.d) (hs[k].es.map EH.d) := by simp [shs, rdat]
      obtain ⟨y, hy⟩ : ∃ y, y = hs[k]'hkh := ⟨_, rfl⟩
      rw [← hy] at r0 r1 r2 hrd hsm hMk
      obtain ⟨up, su, Al, cl, es, rlo, rhi⟩ := y
      simp only at r0 r1 r2 hrd hsm hMk
      have hbox := below1 wr (.cells #[.bool up, .slice Al es.length cl, .int .i64 su] 91)
      obtain ⟨x, hx⟩ : ∃ x, x = shN (esq.map EH.d) (es.map EH.d) := ⟨_, rfl⟩
      have HX := Lib.hid (show x = (shs (esq.map EH.d) (hs.map rdat))[k]'(by rw [HSL.out]; exact hlt) by rw [hMk, hx])
      have HSB := Lib.hid (sharedBy_any Aq nq cq esq Al es.length cl es B (wr.alloc (.cells #[.bool up, .slice Al es.length cl, .int .i64 su] 91)) HNQ.out (HRQ.out.below ((hbw.trans (hbox.mono hbw.size)).mono hB)) HSQ.out rfl (RowsB.below (K := KE) hrd (hbox.mono (Nat.le_trans hB hbw.size))) hsm (Nat.le_trans hB (Nat.le_trans hbw.size hbox.size)) x hx)
      obtain ⟨nl, hvnl⟩ : ∃ nl, nl = es.length := ⟨_, rfl⟩
      rw [← hvnl] at r1 HSB hbox
      have hbr : b < wr.heap.size := Nat.lt_of_lt_of_le hBB hbw.size
      have hk0 : (0 : Int) ≤ (k : Int) := by omega
      have hkn : (k : Int) < (n : Int) := by omega
      have HBX := Lib.hid hbox
      have hzr := HBR.out.size
      clear hc0 hc1 hc2 hy hrd hsm hMk hx hvnl hbox hbw
      go_wp2_with fail
      refine HSB.out.mono ?_
      rintro e w4 ⟨rfl, hb4⟩
      have hbb := HBX.out.trans (hb4.mono HBX.out.size)
      have hf4 := HF.out.below hbb
      obtain ⟨v0, hv0⟩ := hf4.cell k (by omega)
      have hfr0 := hf4.free k
      have hf9 := hf4.lt
      have HF4 := Lib.hid (Fill.snocN1 hf4 (by rw [HSL.out]; exact hlt) hlt x HX.out)
      have HB4 := Lib.hid ((HBR.out.trans (hbb.mono (by have := HSZ9.out; omega))).setCell (p := ⟨W1.heap.size + 1, k, none⟩) (Nat.le_refl _) (.int .i64 (x : Int)))
      clear hb4 hbb hf4 r0 r1 r2 l1 l9
      go_wp2
      go_roundw
      case rel => exact ⟨k + 1, by omega, by go_num, HF4, HB4⟩
      case measure => simp [intOf]; omega
    · have hkn : k = n := by omega
      subst hkn
      obtain ⟨wa, hwa⟩ : ∃ wa, wa = wr := ⟨_, rfl⟩
      subst hwa
      have hff := HF.out
      rw [List.take_of_length_le (by rw [HSL.out]; exact Nat.le_refl _)] at hff
      have HROW := Lib.hid (fill_row hff (by rw [List.length_map, HSL.out]))
      have HFL := Lib.hid hff.lt
      have l1 := cell_blk (i := 1) HK1.out rfl
      have l9 := lt_blk HK1.out
      have hzr := HBR.out.size
      have HBW := Lib.hid hbw
      clear hff HF hbw hlt
      go_wp2_with fail
      go_step3
      go_wp2_with fail
      obtain ⟨V3, hV3⟩ : ∃ V3, V3 = wa.alloc (.cells #[.int .i64 (nq : Int)] 3) := ⟨_, rfl⟩
      have hb3 : Below wa.heap.size wa V3 := by rw [hV3]; exact below1 _ _
      have k3 : V3.heap[wa.heap.size]? = some (.cells #[.int .i64 (nq : Int)] 3 (0, 0)) := by rw [hV3]; exact heap_alloc_new _ _
      have HV3 := Lib.hid hV3
      have HB3 := Lib.hid hb3
      have HK3 := Lib.hid k3
      clear hV3 hb3 k3 l1 l9
      rw [← HV3.out]
      go_loopw [4, 8] (fun x4 p wt => ∃ (j pb : Nat), j ≤ nq ∧ x4 = .int .i64 (s : Int) ∧ p = .pointer (some ⟨pb, 0, none⟩) ∧ Hid (wt.heap[pb]? = some (.cells #[.int .i64 (j : Int)] 3 (0, 0))) ∧ Hid (v = advF (advP tm (esq.map EH.d) (hs.map rdat)) s j) ∧ wa.heap.size ≤ pb ∧ Below wa.heap.size wa wt) (fun _ p wt => ptrInt p wt)
      case atStart => exact ⟨nq, wa.heap.size, Nat.le_refl _, rfl, rfl, HK3, HR0, Nat.le_refl _, HB3.out⟩
      case round =>
        obtain ⟨j, pb, hj, rfl, rfl, HKP, HR2, hpb, hb⟩ := hrel
        have hbw := HBW.out.trans (hb.mono HBW.out.size)
        have HL0 := Lib.hid ((hb.block w.heap.size (lt_blk HK0.out)).trans HK0.out)
        have HL1 := Lib.hid ((hb.block W1.heap.size (lt_blk HK1.out)).trans HK1.out)
        have x0 := cell_blk (i := 0) HKP.out rfl
        have xl := lt_blk HKP.out
        have g1 := cell_blk (i := 1) HL0.out rfl
        have gl := lt_blk HL0.out
        have l1 := cell_blk (i := 1) HL1.out rfl
        have l2 := cell_blk (i := 2) HL1.out rfl
        have ll := lt_blk HL1.out
        have HX0 := Lib.hid x0
        by_cases hjs : s < j
        · obtain ⟨j', hj'⟩ : ∃ j', j = j' + 1 := ⟨j - 1, by omega⟩
          obtain ⟨be, offe, rfl, hbe, hce⟩ := en_get HRQ.out (by have := HNQ.out; omega)
          have hkq : j' < esq.length := by have := HNQ.out; omega
          have ce0 := (hbw.cell (p := ⟨be, offe + j' * 8, none⟩) (Nat.lt_of_lt_of_le hbe hB)).trans (hce j' hkq).1
          have hbel : be < wr.heap.size := Nat.lt_of_lt_of_le hbe (Nat.le_trans hB hbw.size)
          have hte := tmAt_map (es := esq) hkq
          have hri := (tm_rise HLG.out (Nat.le_refl j') (by simpa using hkq)).2
          have hlow := advP_low (rs := hs.map rdat) HLG.out (n := j') (by simpa using hkq)
          obtain ⟨te, hte0⟩ : ∃ te, te = esq[j'].d.tm := ⟨_, rfl⟩
          rw [← hte0] at ce0 hte
          rw [hte] at hri hlow
          have y0 := bel_cell x0 xl
          have y1 := bel_cell g1 gl
          have y2 := bel_cell l1 ll
          have y3 := bel_cell ce0 hbel
          have hjj : (j : Int) - 1 = (j' : Int) := by omega
          have hw3 : IntKind.i64.wrap ((j : Int) - 1) = (j' : Int) := by rw [IntKind.wrap_i64]; omega
          have hk0 : (0 : Int) ≤ (j' : Int) := by omega
          have hkn : (j' : Int) < (nq : Int) := by omega
          have hks2 : (s : Int) < (j : Int) := by omega
          have hjj2 : j' < j := by omega
          by_cases ht : te < tm
          · have HV9 := Lib.hid (show v = s by have h9 := HR2.out; rw [hj', advF_none (j' + 1) (hlow ht)] at h9; exact h9)
            have HRV := Lib.hid (ret_int (k := .i64) (show ((s : Nat) : Int) = (v : Int) by rw [HV9.out]))
            have e1 : te < tm := ht
            have HBE := Lib.hid hbw
            clear hj' hce hkq hte hte0 hri hlow hb hbw HR2
            go_wp2_with fail
            clear x0 g1 l1 l2 ce0
            refine bel_region (by kernel_rfl) (by kernel_rfl) ?_
            repeat (go_big_quiet_step (fail))
            refine wpQuiet_nil ?_
            intro p
            have HB5 := Lib.hid (HBE.out.trans (p.below.mono HBE.out.size))
            clear y0 y1 y2 y3
            go_wp2
            rw [Exit.noGoto_ret]
            go_ret
            exact ⟨HRV.out, HB5.out⟩
          · have hteq : te = tm := by omega
            have e1 : ¬ te < tm := ht
            have e2 : tm ≤ te := by omega
            obtain ⟨yes, hyes⟩ : ∃ yes, yes = decide (k < 2 * cntI j (shs (esq.map EH.d) (hs.map rdat))) := ⟨_, rfl⟩
            have HP := Lib.hid (show advP tm (esq.map EH.d) (hs.map rdat) (j' + 1) = yes by unfold advP; rw [Nat.add_sub_cancel, hte, decide_eq_true hteq, Bool.true_and, List.length_map, HN.out, hyes, ← hj', cnt_shs])
            have HMI := Lib.hid (fun (W : World) (hW : Below wr.heap.size wr W) => mostInt_any (some ⟨W1.heap.size + 1, 0, none⟩) k k (shs (esq.map EH.d) (hs.map rdat)) pb j wa.heap.size W HSL.out (HROW.out.below (hb.trans (hW.mono hb.size))) hnl (Nat.le_trans hb.size hW.size) ((hW.cell (p := ⟨pb, 0, none⟩) xl).trans HX0.out) yes hyes)
            have HR3 := Lib.hid (show v = if advP tm (esq.map EH.d) (hs.map rdat) (j' + 1) = true then j' + 1 else advF (advP tm (esq.map EH.d) (hs.map rdat)) s j' by have h9 := HR2.out; rw [hj', advF_step (by omega)] at h9; exact h9)
            have HJ := Lib.hid hj'
            have hmf : ∀ (fn : Fn) (first cap : Array Value) (w : World), (Instr.makeFunc fn first cap).run Try.prog w = .ok (.func fn first cap) w := fun _ _ _ _ => rfl
            have HBE := Lib.hid hbw
            have HBB := Lib.hid hb
            clear hj' hce hkq hte hte0 hri hlow hb hbw HR2 ht hteq hyes
            go_wp2_with fail
            clear x0 g1 l1 l2 ce0
            refine bel_region (by kernel_rfl) (by kernel_rfl) ?_
            repeat (go_big_quiet_step (fail))
            refine wpQuiet_nil ?_
            intro p
            obtain ⟨W5, hW5⟩ : ∃ W5, W5 = p.w := ⟨_, rfl⟩
            have hb5 : Below wr.heap.size wr W5 := by rw [hW5]; exact p.below
            rw [← hW5]
            have x5 := (hb5.cell (p := ⟨pb, 0, none⟩) xl).trans HX0.out
            have xl5 := Nat.lt_of_lt_of_le xl hb5.size
            have HB5 := Lib.hid (HBE.out.trans (hb5.mono HBE.out.size))
            have HB6 := Lib.hid (HBB.out.trans (hb5.mono HBB.out.size))
            have HM5 := Lib.hid (HMI.out W5 hb5)
            clear hW5 hb5 y0 y1 y2 y3 p HMI
            go_wp2_with fail
            refine HM5.out.mono ?_
            rintro e w6 ⟨rfl, rfl⟩
            cases yes with
            | true =>
              have HV9 := Lib.hid (show v = j by have h9 := HR3.out; rw [HP.out] at h9; simp only [if_true] at h9; rw [h9, HJ.out])
              have HRV := Lib.hid (ret_int (k := .i64) (show ((j : Nat) : Int) = (v : Int) by rw [HV9.out]))
              go_wp2
              rw [Exit.noGoto_ret]
              go_ret
              exact ⟨HRV.out, HB5.out⟩
            | false =>
              have HV9 := Lib.hid (show v = advF (advP tm (esq.map EH.d) (hs.map rdat)) s j' by have h9 := HR3.out; rw [HP.out] at h9; simpa using h9)
              have hz6 := HB6.out.size
              go_wp2
              go_roundw
              case rel => exact ⟨j', W5.heap.size, by omega, by trivial, by trivial, heap_alloc_new _ _, HV9, by omega, HB6.out.trans ((below1 _ _).mono HB6.out.size)⟩
              case measure => simp [ptrInt, HX0.out]; omega
        · have hks2 : (j : Int) ≤ (s : Int) := by omega
          have HV9 := Lib.hid (show v = s by have h9 := HR2.out; rw [advF_low (by omega)] at h9; exact h9)
          have HRV := Lib.hid (ret_int (k := .i64) (show ((s : Nat) : Int) = (v : Int) by rw [HV9.out]))
          have HBE := Lib.hid hbw
          clear hb hbw HR2 hjs
          go_wp2
          rw [Exit.noGoto_ret]
          go_ret
          exact ⟨HRV.out, HBE.out⟩
end Go.Proofs.Ytkhndofplebcaaa.Gr
