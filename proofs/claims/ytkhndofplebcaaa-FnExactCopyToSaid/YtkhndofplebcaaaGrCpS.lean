/-
  Contracts for CopyTo of the model.
-/
import Derived.Test.YtkhndofplebcaaaGrCpM
import Derived.Test.YtkhndofplebcaaaGrUp
import Derived.Test.YtkhndofplebcaaaGrOw
import Derived.Deep.RegionHeld3
import Derived.Deep.RegionWith
namespace Go.Proofs.Ytkhndofplebcaaa.Gr
open Go.RowKit CM
set_option linter.unusedVariables false
set_option linter.unusedSimpArgs false

theorem l1MostI_any (a b : Int) (w : World) :
    Calls Try.prog 76 #[.int .i64 a, .int .i64 b] w fun e w' => e = .returned (.int .i64 (max a b)) ∧ w = w' := by
  by_cases h : b < a
  · rw [show max a b = a by omega]
    go_enter Try.func76, Try.ntmps76
    go_wp2
    go_ret
    exact ⟨rfl, rfl⟩
  · rw [show max a b = b by omega]
    go_enter Try.func76, Try.ntmps76
    go_wp2
    go_ret
    exact ⟨rfl, rfl⟩
theorem l1LeastI_any (a b : Int) (w : World) :
    Calls Try.prog 75 #[.int .i64 a, .int .i64 b] w fun e w' => e = .returned (.int .i64 (min a b)) ∧ w = w' := by
  by_cases h : a < b
  · rw [show min a b = a by omega]
    go_enter Try.func75, Try.ntmps75
    go_wp2
    go_ret
    exact ⟨rfl, rfl⟩
  · rw [show min a b = b by omega]
    go_enter Try.func75, Try.ntmps75
    go_wp2
    go_ret
    exact ⟨rfl, rfl⟩

theorem set3_cell {w : World} {g i j k : Nat} {u1 u2 u3 v : Value} {p : Addr} (h : w.cell? p = some v) (hn : g ≠ p.block) : ((((w.setCell ⟨g, i, none⟩ u1).setCell ⟨g, j, none⟩ u2).setCell ⟨g, k, none⟩ u3).drew).cell? p = some v := by
  show (((w.setCell ⟨g, i, none⟩ u1).setCell ⟨g, j, none⟩ u2).setCell ⟨g, k, none⟩ u3).cell? p = some v
  rw [World.cell?_setCell_far _ _ _ _ hn, World.cell?_setCell_far _ _ _ _ hn, World.cell?_setCell_far _ _ _ _ hn, h]

set_option maxRecDepth 100000 in
set_option maxHeartbeats 8000000 in
theorem specCopyTo_any (A : Option Addr) (n c : Nat) (tm ld r : Int) (hs : List RH) (B : Nat) (w : World) (hn : hs.length = n) (h : RowsB KR w B A hs) (hB : B ≤ w.heap.size) (hm : RpSmall (hs.map rdat)) :
    Calls Try.prog 34 #[.agg #[.slice A n c, .int .i64 tm, .int .i64 ld], .int .i64 r] w (GAPost (cpyA tm ld (hs.map rdat) r) w) := by
  have hb0 := below2 w (.cells #[.slice A n c, .int .i64 tm, .int .i64 ld] 45) (.cells #[.slice none 0 0, .int .i64 0, .int .i64 0] 45)
  have ka0 := alloc2_a w (.cells #[.slice A n c, .int .i64 tm, .int .i64 ld] 45) (.cells #[.slice none 0 0, .int .i64 0, .int .i64 0] 45)
  have kb0 := alloc2_b w (.cells #[.slice A n c, .int .i64 tm, .int .i64 ld] 45) (.cells #[.slice none 0 0, .int .i64 0, .int .i64 0] 45)
  have HUP := Lib.hid (l9Up_any A n c tm ld r true hs B _ hn (h.below (hb0.mono hB)) (Nat.le_trans hB hb0.size) hm)
  have HOW := Lib.hid (fun W (hW : Below w.heap.size w W) => l9Own_any A n c tm ld hs B W hn (h.below (hW.mono hB)) (Nat.le_trans hB hW.size) hm)
  have HB0 := Lib.hid hb0
  have HKA := Lib.hid ka0
  have HKB := Lib.hid kb0
  have hza : w.heap.size < ((w.alloc (.cells #[.slice A n c, .int .i64 tm, .int .i64 ld] 45)).alloc (.cells #[.slice none 0 0, .int .i64 0, .int .i64 0] 45)).heap.size := by simp; omega
  have hzb : w.heap.size + 1 < ((w.alloc (.cells #[.slice A n c, .int .i64 tm, .int .i64 ld] 45)).alloc (.cells #[.slice none 0 0, .int .i64 0, .int .i64 0] 45)).heap.size := by simp
  clear hb0 ka0 kb0
  by_cases hg : grpB tm ld (hs.map rdat) = true ∧ isUpB (hs.map rdat) r = true
  · have hx := hg.2
    unfold isUpB at hx
    rw [List.length_map, hn] at hx
    simp only [Bool.and_eq_true] at hx
    rw [show (grpB tm ld (hs.map rdat) && (hasB n r && (upAt (hs.map rdat) r.toNat == true))) = true by rw [hg.1, hx.1, hx.2]; rfl] at HUP
    by_cases hl : ld = -1
    · subst hl
      rw [cpyA_no (.inr (by unfold cpyB; simp))]
      clear hg hx h hm hn
      go_enter Try.func34, Try.ntmps34
      go_wp2_with fail
      (with_reducible refine HUP.out.mono ?_)
      rintro e w1 ⟨rfl, ha1⟩
      have HB1 := Lib.hid (HB0.out.trans (ha1.mono HB0.out.size))
      have ka1 := (ha1.block w.heap.size hza).trans HKA.out
      have kb1 := (ha1.block (w.heap.size + 1) hzb).trans HKB.out
      have hz1 : w.heap.size + 1 < w1.heap.size := Nat.lt_of_lt_of_le hzb ha1.size
      have hz0 : w.heap.size < w1.heap.size := by omega
      have a2 := cell_blk (i := 2) ka1 rfl
      have b0 := cell_blk (i := 0) kb1 rfl
      have b1 := cell_blk (i := 1) kb1 rfl
      have b2 := cell_blk (i := 2) kb1 rfl
      have fb := free_all kb1
      clear ha1 ka1 kb1
      go_wp2
      exact bodyPost_ret (v := .tuple #[.agg #[.slice none 0 0, .int .i64 0, .int .i64 0], .bool false]) (by simp [results, Try.results34, go_sem, *]) rfl (noGA_post (below_putN HB1.out (show w.heap.size ≤ w.heap.size + 1 by omega) 0 [.slice none 0 0, .int .i64 0, .int .i64 0]))
    · obtain ⟨l, hl', hln⟩ := lead_of hg.1 hl
      rw [List.length_map] at hln
      subst hl'
      have hlz : ¬ (l : Int) < 0 := by omega
      by_cases hrl : r = (l : Int)
      · subst hrl
        rw [cpyA_no (.inr (by unfold cpyB; simp))]
        clear hg hx h hm hn
        go_enter Try.func34, Try.ntmps34
        go_wp2_with fail
        (with_reducible refine HUP.out.mono ?_)
        rintro e w1 ⟨rfl, ha1⟩
        have HB1 := Lib.hid (HB0.out.trans (ha1.mono HB0.out.size))
        have ka1 := (ha1.block w.heap.size hza).trans HKA.out
        have kb1 := (ha1.block (w.heap.size + 1) hzb).trans HKB.out
        have hz1 : w.heap.size + 1 < w1.heap.size := Nat.lt_of_lt_of_le hzb ha1.size
        have hz0 : w.heap.size < w1.heap.size := by omega
        have a2 := cell_blk (i := 2) ka1 rfl
        have b0 := cell_blk (i := 0) kb1 rfl
        have b1 := cell_blk (i := 1) kb1 rfl
        have b2 := cell_blk (i := 2) kb1 rfl
        have fb := free_all kb1
        clear ha1 ka1 kb1
        go_wp2
        exact bodyPost_ret (v := .tuple #[.agg #[.slice none 0 0, .int .i64 0, .int .i64 0], .bool false]) (by simp [results, Try.results34, go_sem, *]) rfl (noGA_post (below_putN HB1.out (show w.heap.size ≤ w.heap.size + 1 by omega) 0 [.slice none 0 0, .int .i64 0, .int .i64 0]))
      · have hrb : ((l : Int) == r) = false := by simp; omega
        obtain ⟨q, hq, hqn⟩ := hasB_nat hx.1
        subst hq
        have hqh : q < hs.length := by omega
        have hans : cpyA tm (l : Int) (hs.map rdat) (q : Int) = (cpyRs (hs.map rdat) q l, tm, (l : Int), true) := by
          unfold cpyA
          rw [if_pos ⟨hg.1, by unfold cpyB; rw [hg.2, Bool.and_true]; simp; omega⟩, Int.toNat_natCast, Int.toNat_natCast]
        rw [hans, GAPost_un]
        obtain ⟨v, hv⟩ : ∃ v, v = cpyV (hs.map rdat) q l := ⟨_, rfl⟩
        have HCR := Lib.hid (show cpyRs (hs.map rdat) q l = (hs.map rdat).set q ⟨true, v, hs[l].es.map EH.d⟩ by unfold cpyRs; rw [lgOf_map hln, hv])
        have hlen : (cpyRs (hs.map rdat) q l).length = n := by simp [cpyRs, hn]
        rw [hlen]
        have hsl : LgSmall (hs[l].es.map EH.d) := hm.2 (rdat hs[l]) (List.mem_map_of_mem (List.getElem_mem hln))
        have hrd := h.2 hs[l] (List.getElem_mem hln)
        obtain ⟨b, off, rfl, hbB, hc⟩ := rp_get h (by omega)
        have hcl := hc l hln
        have hcq := hc q hqh
        have HLG := Lib.hid (fun W (hW : Below w.heap.size w W) => l9OwnLog_any hs[l].A hs[l].es.length hs[l].c hs[l].es B W rfl (RowsB.below (show RowsB KE w B hs[l].A hs[l].es from hrd) (hW.mono hB)) (Nat.le_trans hB hW.size) hsl)
        obtain ⟨lA, hlA⟩ : ∃ lA, lA = hs[l].A := ⟨_, rfl⟩
        obtain ⟨ln, hln2⟩ : ∃ ln, ln = hs[l].es.length := ⟨_, rfl⟩
        obtain ⟨lc, hlc⟩ : ∃ lc, lc = hs[l].c := ⟨_, rfl⟩
        obtain ⟨ls, hls⟩ : ∃ ls, ls = hs[l].su := ⟨_, rfl⟩
        obtain ⟨qs, hqs⟩ : ∃ qs, qs = hs[q].su := ⟨_, rfl⟩
        have HV := Lib.hid (show v = min (ln : Int) (max qs ls) by rw [hv, hls, hqs, hln2]; unfold cpyV; rw [lgOf_map hln, srOf_map hln, srOf_map hqh, List.length_map]; omega)
        rw [← hlA, ← hlc, ← hln2] at HLG
        have HL1 := Lib.hid (show w.cell? ⟨b, off + l * 3 + 1, none⟩ = some (.slice lA ln lc) by rw [hlA, hln2, hlc]; exact hcl.2.1)
        have HL2 := Lib.hid (show w.cell? ⟨b, off + l * 3 + 2, none⟩ = some (.int .i64 ls) by rw [hls]; exact hcl.2.2)
        have HQ2 := Lib.hid (show w.cell? ⟨b, off + q * 3 + 2, none⟩ = some (.int .i64 qs) by rw [hqs]; exact hcq.2.2)
        have HLN := Lib.hid hln2
        have HN := Lib.hid hn
        have hq0 : (0 : Int) ≤ (q : Int) := by omega
        have hq1 : (q : Int) < (n : Int) := by omega
        have hl0 : (0 : Int) ≤ (l : Int) := by omega
        have hl1 : (l : Int) < (n : Int) := by omega
        have hBB := Nat.lt_of_lt_of_le hbB hB
        have HMO := Lib.hid (fun W => l1MostI_any qs ls W)
        have HLE := Lib.hid (fun W => l1LeastI_any (ln : Int) (max qs ls) W)
        clear hg hl h hm hn hx hrl hans hv hlen hsl hrd hc hcl hcq hlA hlc hls hqs hln2
        go_enter Try.func34, Try.ntmps34
        go_wp2_with fail
        (with_reducible refine HUP.out.mono ?_)
        rintro e w1 ⟨rfl, ha1⟩
        have HB1 := Lib.hid (HB0.out.trans (ha1.mono HB0.out.size))
        have ka1 := (ha1.block w.heap.size hza).trans HKA.out
        have kb1 := (ha1.block (w.heap.size + 1) hzb).trans HKB.out
        have hz1 : w.heap.size + 1 < w1.heap.size := Nat.lt_of_lt_of_le hzb ha1.size
        have hz0 : w.heap.size < w1.heap.size := by omega
        have a0 := cell_blk (i := 0) ka1 rfl
        have a1 := cell_blk (i := 1) ka1 rfl
        have a2 := cell_blk (i := 2) ka1 rfl
        have HKA1 := Lib.hid ka1
        have HKB1 := Lib.hid kb1
        clear ha1 ka1 kb1
        go_wp2_with fail
        (with_reducible refine (HOW.out _ HB1.out).mono ?_)
        rintro e w2 ⟨A2, c2, gs, rfl, hd2, ho2, ha2⟩
        have hgl : gs.length = n := (dats_len hd2).trans HN.out
        have hz2 := ha2.size
        have hb2 := HB1.out.trans (ha2.mono HB1.out.size)
        have ka2 := (ha2.block w.heap.size hz0).trans HKA1.out
        have a0 := cell_blk (i := 0) ka2 rfl
        have a1 := cell_blk (i := 1) ka2 rfl
        have a2 := cell_blk (i := 2) ka2 rfl
        have al := lt_blk ka2
        have l1 := (hb2.cell (p := ⟨b, off + l * 3 + 1, none⟩) hBB).trans HL1.out
        have hl2 : b < w2.heap.size := Nat.lt_of_lt_of_le hBB hb2.size
        have hbx := below1 w2 (.cells #[.slice A2 n c2, .int .i64 tm, .int .i64 (l : Int)] 45)
        have kg := heap_alloc_new w2 (.cells #[.slice A2 n c2, .int .i64 tm, .int .i64 (l : Int)] 45)
        have HLL := Lib.hid (HLG.out (w2.alloc (.cells #[.slice A2 n c2, .int .i64 tm, .int .i64 (l : Int)] 45)) (hb2.trans (hbx.mono hb2.size)))
        unfold SpecLPost at HLL
        have HO2 := Lib.hid (ho2.since hbx)
        have HKG := Lib.hid kg
        have HBX := Lib.hid (hb2.trans (hbx.mono hb2.size))
        have HKA2 := Lib.hid ((hbx.block _ al).trans ka2)
        have HKB2 := Lib.hid ((hbx.block _ (show w.heap.size + 1 < w2.heap.size by omega)).trans ((ha2.block _ hz1).trans HKB1.out))
        have HD2 := Lib.hid hd2
        have HGL := Lib.hid hgl
        clear ha2 hb2 ka2 hbx kg hd2 ho2 hgl
        go_wp2_with fail
        (with_reducible refine HLL.out.mono ?_)
        rintro e w3 ⟨A3, c3, es, rfl, hes, hoe, ha3⟩
        have hsx : (w2.alloc (.cells #[.slice A2 n c2, .int .i64 tm, .int .i64 (l : Int)] 45)).heap.size = w2.heap.size + 1 := by simp
        rw [hsx] at hoe ha3
        have hw3 := HBX.out.trans (ha3.mono (by omega))
        have ho3 := HO2.out.since (by rw [hsx]; exact ha3)
        have hq3 : q < gs.length := by have := HGL.out; omega
        obtain ⟨g, cur, rfl, hg1, hg2, _⟩ := ho3.form (by omega)
        have k3a := (ha3.block _ (by omega)).trans HKA2.out
        have k3b := (ha3.block _ (by omega)).trans HKB2.out
        have k3g := (ha3.block _ (by omega)).trans HKG.out
        have a0 := cell_blk (i := 0) k3a rfl
        have a1 := cell_blk (i := 1) k3a rfl
        have a2 := cell_blk (i := 2) k3a rfl
        have al := lt_blk k3a
        have g0 := cell_blk (i := 0) k3g rfl
        have g1' := cell_blk (i := 1) k3g rfl
        have g2' := cell_blk (i := 2) k3g rfl
        have gl := lt_blk k3g
        have b0 := cell_blk (i := 0) k3b rfl
        have b1 := cell_blk (i := 1) k3b rfl
        have b2 := cell_blk (i := 2) k3b rfl
        have fb := free_all k3b
        have bl := lt_blk k3b
        have l2 := (hw3.cell (p := ⟨b, off + l * 3 + 2, none⟩) hBB).trans HL2.out
        have q2 := (hw3.cell (p := ⟨b, off + q * 3 + 2, none⟩) hBB).trans HQ2.out
        have hbl : b < w3.heap.size := Nat.lt_of_lt_of_le hBB hw3.size
        have r0 : w3.cell? ⟨g, q * 3, none⟩ = some (.bool gs[q].up) := ho3.cell q hq3 0 (by decide)
        have r1 : w3.cell? ⟨g, q * 3 + 1, none⟩ = some (.slice gs[q].A gs[q].es.length gs[q].c) := ho3.cell q hq3 1 (by decide)
        have r2 : w3.cell? ⟨g, q * 3 + 2, none⟩ = some (.int .i64 gs[q].su) := ho3.cell q hq3 2 (by decide)
        have fr := fun i => ho3.free (by omega) i
        have hgl3 := ho3.bounds.2.2
        have e2 : es.length = ln := by have := congrArg List.length hes; simpa [HLN.out] using this
        have hz3 := ha3.size
        have HZ3 := Lib.hid (show w2.heap.size + 1 ≤ w3.heap.size by rw [← hsx]; exact hz3)
        have HE := Lib.hid hoe
        have HES := Lib.hid hes
        have HO3 := Lib.hid ho3
        have HW3 := Lib.hid hw3
        have n1 : w.heap.size + 1 ≠ g := by omega
        have n2 : w2.heap.size ≠ g := by omega
        have n3 : g ≠ w2.heap.size := by omega
        have n4 : g ≠ w.heap.size + 1 := by omega
        have HKB3 := Lib.hid k3b
        have HKG3 := Lib.hid k3g
        have HZS := Lib.hid (And.intro hz0 (And.intro hz1 hz2))
        have HE2 := Lib.hid e2
        have HQ3 := Lib.hid hq3
        have HN1 := Lib.hid (And.intro n1 n2)
        have HG1 := Lib.hid hg1
        clear hes hoe ha3 hw3 ho3 k3a k3b k3g l1
        have n5 : g ≠ w.heap.size := by omega
        have n6 : g ≠ b := by omega
        clear b0 b1 b2 fb bl g1' g2' e2 hz3 hz2 hza hzb hz1 hz0
        go_wp2_with fail
        go_region_held3 (fun w' => w'.cell? ⟨w.heap.size, 0, none⟩ = some (.slice (some ⟨b, off, none⟩) n c) ∧ w'.cell? ⟨w.heap.size, 2, none⟩ = some (.int .i64 (l : Int)) ∧ w'.cell? ⟨w2.heap.size, 0, none⟩ = some (.slice (some ⟨g, 0, none⟩) n c2) ∧ w'.cell? ⟨b, off + q * 3 + 2, none⟩ = some (.int .i64 qs) ∧ w'.cell? ⟨b, off + l * 3 + 2, none⟩ = some (.int .i64 ls))
          (first | go_keep | exact ⟨set3_cell a0 n5, set3_cell a2 n5, set3_cell g0 n3, set3_cell q2 n6, set3_cell l2 n6⟩)
          (first | (go_at_call 76; (with_reducible refine (HMO.out _).mono ?_); rintro e w4 ⟨rfl, rfl⟩) | (go_at_call 75; (with_reducible refine (HLE.out _).mono ?_); rintro e w5 ⟨rfl, rfl⟩))
        rename_i hSend
        clear hSend
        have h8 := own_cpy3 HO3.out HQ3.out (v := min (ln : Int) (max qs ls)) HZ3.out HE.out (Nat.le_succ _)
        rw [HE2.out] at h8
        obtain ⟨W5, hW5⟩ : ∃ W5, W5 = (((w3.setCell ⟨g, q * 3, none⟩ (.bool true)).setCell ⟨g, q * 3 + 1, none⟩ (.slice A3 ln c3)).setCell ⟨g, q * 3 + 2, none⟩ (.int .i64 (min (ln : Int) (max qs ls)))).drew := ⟨_, rfl⟩
        have h9 : OwnK KR W5 w1.heap.size w3.heap.size (some ⟨g, 0, none⟩) c2 (cpyH gs q (min (ln : Int) (max qs ls)) A3 c3 es (w2.heap.size + 1) w3.heap.size) := by rw [hW5]; exact h8.keep (fun b _ _ _ => rfl)
        have hsz5 : W5.heap.size = w3.heap.size := by rw [hW5]; simp [World.setCell]
        have hot : ∀ b, b ≠ g → W5.heap[b]? = w3.heap[b]? := fun b hb => by
          rw [hW5]
          show (((w3.setCell ⟨g, q * 3, none⟩ (.bool true)).setCell ⟨g, q * 3 + 1, none⟩ (.slice A3 ln c3)).setCell ⟨g, q * 3 + 2, none⟩ (.int .i64 (min (ln : Int) (max qs ls)))).heap[b]? = _
          rw [Below.heap_setCell _ _ _ _ hb, Below.heap_setCell _ _ _ _ hb, Below.heap_setCell _ _ _ _ hb]
        have kb5 := (hot _ HN1.out.1).trans HKB3.out
        have kg5 := (hot _ HN1.out.2).trans HKG3.out
        have hgw : w.heap.size ≤ g := by have := HG1.out; have := HZS.out; omega
        have hW6 : Below w.heap.size w W5 := by
          rw [hW5]
          exact (((HW3.out.setCell (p := ⟨g, q * 3, none⟩) hgw _).setCell (p := ⟨g, q * 3 + 1, none⟩) hgw _).setCell (p := ⟨g, q * 3 + 2, none⟩) hgw _).drew
        rw [← hW5]
        have H9 := Lib.hid h9
        have H6 := Lib.hid hW6
        have HS5 := Lib.hid hsz5
        have b0 := cell_blk (i := 0) kb5 rfl
        have b1 := cell_blk (i := 1) kb5 rfl
        have b2 := cell_blk (i := 2) kb5 rfl
        have fb := free_all kb5
        have bl := lt_blk kb5
        have g0 := cell_blk (i := 0) kg5 rfl
        have g1' := cell_blk (i := 1) kg5 rfl
        have g2' := cell_blk (i := 2) kg5 rfl
        have gl := lt_blk kg5
        clear h8 h9 hW5 hW6 hot kb5 kg5 hsz5 r0 r1 r2 fr hgl3 l2 q2 a0 a1 a2
        go_wp2
        exact bodyPost_ret (v := .tuple #[.agg #[.slice (some ⟨g, 0, none⟩) n c2, .int .i64 tm, .int .i64 (l : Int)], .bool true]) (by simp [results, Try.results34, go_sem, *]) rfl
          ⟨some ⟨g, 0, none⟩, c2, cpyH gs q (min (ln : Int) (max qs ls)) A3 c3 es (w2.heap.size + 1) w3.heap.size, rfl, by rw [cpyH_map, HCR.out, HV.out, HES.out, HD2.out],
            (H9.out.keep (keep_putN (g := w.heap.size + 1) (.inl HZS.out.2.1) 0 [.slice (some ⟨g, 0, none⟩) n c2, .int .i64 tm, .int .i64 (l : Int)])).wider (by have := HZS.out; omega) (by simp [World.setCell, HS5.out]),
            below_putN H6.out (show w.heap.size ≤ w.heap.size + 1 by omega) 0 [.slice (some ⟨g, 0, none⟩) n c2, .int .i64 tm, .int .i64 (l : Int)]⟩
  · rw [show (grpB tm ld (hs.map rdat) && (hasB n r && (upAt (hs.map rdat) r.toNat == true))) = false by
      rw [Bool.eq_false_iff]
      intro hc
      simp only [Bool.and_eq_true] at hc
      exact hg ⟨hc.1, by unfold isUpB; rw [List.length_map, hn, hc.2.1]; simpa using hc.2.2⟩] at HUP
    rw [cpyA_no (by
      rcases Bool.eq_false_or_eq_true (grpB tm ld (hs.map rdat)) with h9 | h9
      · exact .inr (by unfold cpyB; rw [Bool.eq_false_iff.2 (fun h8 => hg ⟨h9, h8⟩), Bool.and_false, Bool.and_false])
      · exact .inl h9)]
    clear hg h hm hn
    go_enter Try.func34, Try.ntmps34
    go_wp2_with fail
    (with_reducible refine HUP.out.mono ?_)
    rintro e w1 ⟨rfl, ha1⟩
    have HB1 := Lib.hid (HB0.out.trans (ha1.mono HB0.out.size))
    have ka1 := (ha1.block w.heap.size hza).trans HKA.out
    have kb1 := (ha1.block (w.heap.size + 1) hzb).trans HKB.out
    have hz1 : w.heap.size + 1 < w1.heap.size := Nat.lt_of_lt_of_le hzb ha1.size
    have hz0 : w.heap.size < w1.heap.size := by omega
    have b0 := cell_blk (i := 0) kb1 rfl
    have b1 := cell_blk (i := 1) kb1 rfl
    have b2 := cell_blk (i := 2) kb1 rfl
    have fb := free_all kb1
    clear ha1 ka1 kb1
    go_wp2
    exact bodyPost_ret (v := .tuple #[.agg #[.slice none 0 0, .int .i64 0, .int .i64 0], .bool false]) (by simp [results, Try.results34, go_sem, *]) rfl (noGA_post (below_putN HB1.out (show w.heap.size ≤ w.heap.size + 1 by omega) 0 [.slice none 0 0, .int .i64 0, .int .i64 0]))
end Go.Proofs.Ytkhndofplebcaaa.Gr
