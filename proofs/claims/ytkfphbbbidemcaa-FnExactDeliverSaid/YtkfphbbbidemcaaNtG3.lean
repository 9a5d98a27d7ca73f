/-
  DelayOne of the model.
-/
import Derived.Test.YtkfphbbbidemcaaNtG2
namespace Go.Proofs.Ytkfphbbbidemcaa.Nt
open Go.RowKit
set_option linter.unusedVariables false
set_option linter.unusedSimpArgs false

set_option maxRecDepth 100000 in
set_option maxHeartbeats 4000000 in
theorem specDelayOne_any (now far : Int) (A A' : Option Addr) (n c n' c' : Nat) (is : List Int) (ls : List (Int × Int × Int × ByteArray)) (i by1 : Int) (B : Nat) (w : World) (hn : is.length = n) (hn' : ls.length = n') (h : IntsB w B A is) (h' : LetsB w B A' ls) (hB : B ≤ w.heap.size) (hm : LSmall ls) (hl : n ≤ 1048576) (hcap : n' ≤ c' ∧ c' ≤ maxLen) :
    Calls Try.prog 34 #[.agg #[.int .i64 now, .slice A n c, .int .i64 far, .slice A' n' c'], .int .i64 i, .int .i64 by1] w (NAPost (dlyA now is far ls i by1) w) := by
  have hb0 := below2 w (.cells #[.int .i64 now, .slice A n c, .int .i64 far, .slice A' n' c'] 30) (.cells #[.int .i64 0, .slice none 0 0, .int .i64 0, .slice none 0 0] 30)
  have hk0 : ((w.alloc (.cells #[.int .i64 now, .slice A n c, .int .i64 far, .slice A' n' c'] 30)).alloc (.cells #[.int .i64 0, .slice none 0 0, .int .i64 0, .slice none 0 0] 30)).heap[w.heap.size]? = some (.cells #[.int .i64 now, .slice A n c, .int .i64 far, .slice A' n' c'] 30 (0, 0)) := ((below1 (w.alloc (.cells #[.int .i64 now, .slice A n c, .int .i64 far, .slice A' n' c'] 30)) (.cells #[.int .i64 0, .slice none 0 0, .int .i64 0, .slice none 0 0] 30)).block w.heap.size (by simp)).trans (heap_alloc_new w (.cells #[.int .i64 now, .slice A n c, .int .i64 far, .slice A' n' c'] 30))
  have hr0 := alloc_snd w (.cells #[.int .i64 now, .slice A n c, .int .i64 far, .slice A' n' c'] 30) (.cells #[.int .i64 0, .slice none 0 0, .int .i64 0, .slice none 0 0] 30)
  have HT := Lib.hid (fun W (hW : Below w.heap.size w W) => l7Has_any now far A A' n c n' c' is ls i B W hn hn' (h.below (hW.mono hB)) (h'.below (hW.mono hB)) (Nat.le_trans hB hW.size) hm hl)
  have HBY := Lib.hid (fun W => l1In_any by1 1 50 W)
  cases hg1 : hasB now is far ls i with
  | false =>
    rw [hg1] at HT
    have HNA := Lib.hid (show dlyA now is far ls i by1 = noA by unfold dlyA; rw [hg1]; simp)
    clear h h' hm hn hn' hg1
    go_enter Try.func34, Try.ntmps34
    go_wp2_with fail
    refine (HT.out _ hb0).mono ?_
    rintro e w1 ⟨rfl, ha1⟩
    have hk1 := (ha1.block w.heap.size (lt_blk hk0)).trans hk0
    have hr1 := (ha1.block (w.heap.size + 1) (lt_blk hr0)).trans hr0
    have hb1 := hb0.trans (ha1.mono hb0.size)
    have k10 := cell_of_row _ _ 0 _ 30 (0, 0) hk1
    have k11 := cell_of_row _ _ 1 _ 30 (0, 0) hk1
    have k12 := cell_of_row _ _ 2 _ 30 (0, 0) hk1
    have k13 := cell_of_row _ _ 3 _ 30 (0, 0) hk1
    have r10 := cell_of_row _ _ 0 _ 30 (0, 0) hr1
    have f10 := free_blk hr1 0
    have r11 := cell_of_row _ _ 1 _ 30 (0, 0) hr1
    have f11 := free_blk hr1 1
    have r12 := cell_of_row _ _ 2 _ 30 (0, 0) hr1
    have f12 := free_blk hr1 2
    have r13 := cell_of_row _ _ 3 _ 30 (0, 0) hr1
    have f13 := free_blk hr1 3
    clear ha1 hk0 hr0 hb0
    have HBN := Lib.hid hb1
    clear hb1 hk1 hr1
    go_wp2
    exact bodyPost_ret (v := .tuple #[.agg #[.int .i64 0, .slice none 0 0, .int .i64 0, .slice none 0 0], .bool false]) (by simp [results, Try.results34, go_sem, r10, f10, r11, f11, r12, f12, r13, f13]) rfl (by rw [HNA.out]; exact noA_post (bel_put4 HBN.out (by omega)))
  | true =>
    rw [hg1] at HT
    cases hby : inB by1 1 50 with
    | false =>
      rw [hby] at HBY
      have HNA := Lib.hid (show dlyA now is far ls i by1 = noA by unfold dlyA; rw [hg1, hby]; simp)
      clear h h' hm hn hn' hg1 hby
      go_enter Try.func34, Try.ntmps34
      go_wp2_with fail
      refine (HT.out _ hb0).mono ?_
      rintro e w1 ⟨rfl, ha1⟩
      have hk1 := (ha1.block w.heap.size (lt_blk hk0)).trans hk0
      have hr1 := (ha1.block (w.heap.size + 1) (lt_blk hr0)).trans hr0
      have hb1 := hb0.trans (ha1.mono hb0.size)
      have k10 := cell_of_row _ _ 0 _ 30 (0, 0) hk1
      have k11 := cell_of_row _ _ 1 _ 30 (0, 0) hk1
      have k12 := cell_of_row _ _ 2 _ 30 (0, 0) hk1
      have k13 := cell_of_row _ _ 3 _ 30 (0, 0) hk1
      have r10 := cell_of_row _ _ 0 _ 30 (0, 0) hr1
      have f10 := free_blk hr1 0
      have r11 := cell_of_row _ _ 1 _ 30 (0, 0) hr1
      have f11 := free_blk hr1 1
      have r12 := cell_of_row _ _ 2 _ 30 (0, 0) hr1
      have f12 := free_blk hr1 2
      have r13 := cell_of_row _ _ 3 _ 30 (0, 0) hr1
      have f13 := free_blk hr1 3
      clear ha1 hk0 hr0 hb0
      go_wp2_with fail
      refine (HBY.out _).mono ?_
      rintro e w2 ⟨rfl, rfl⟩
      have HBN := Lib.hid hb1
      clear hb1 hk1 hr1
      go_wp2
      exact bodyPost_ret (v := .tuple #[.agg #[.int .i64 0, .slice none 0 0, .int .i64 0, .slice none 0 0], .bool false]) (by simp [results, Try.results34, go_sem, r10, f10, r11, f11, r12, f12, r13, f13]) rfl (by rw [HNA.out]; exact noA_post (bel_put4 HBN.out (by omega)))
    | true =>
      rw [hby] at HBY
      obtain ⟨hby1, hby2⟩ := inB_true hby
      obtain ⟨g1, hi0, hi1⟩ := hasB_true hg1
      obtain ⟨gt, gh, gf, gl, gu⟩ := netB_true g1
      obtain ⟨gh1, gh5, ghh⟩ := homesB_true gh
      have gf2 := inB_true gf
      have gt2 := inB_true gt
      have hasc := undB_asc gu
      rw [hn'] at gl
      rw [hn'] at hi1
      obtain ⟨k, rfl⟩ : ∃ k : Nat, i = (k : Int) := ⟨i.toNat, by omega⟩
      have hkn : k < n' := by omega
      obtain ⟨bb, off, hA', hbB, hcl⟩ := h'.get (by omega)
      obtain ⟨hc0, hc1, hc2, hc3⟩ := hcl k (by omega)
      have hlet := letAt_get (show k < ls.length by omega)
      have hsm := hm.2 _ (List.getElem_mem (show k < ls.length by omega))
      have hglb := (undB_low gu _ (List.getElem_mem (show k < ls.length by omega))).2
      have hgp := glB_parts hglb
      obtain ⟨y, hy⟩ : ∃ y, y = ls[k]'(by omega) := ⟨_, rfl⟩
      rw [← hy] at hc0 hc1 hc2 hc3 hlet hsm hgp
      obtain ⟨f, t, d, s⟩ := y
      simp only at hc0 hc1 hc2 hc3 hsm hgp
      have hbw : bb < w.heap.size := Nat.lt_of_lt_of_le hbB hB
      have hki : (k : Int) < (n' : Int) := by omega
      subst hA'
      have HS := Lib.hid (show dlyA now is far ls (k : Int) by1 = ifA now is far (insL (outL ls k) (f, t, d + by1, s)) by unfold dlyA; rw [hg1, hby]; simp only [Bool.and_self, if_true]; rw [hlet]; rfl)
      have hus1 := outL_len ls k (by omega)
      have husm : ∀ x ∈ outL ls k, x ∈ ls := fun x hx => mem_outL (ls := ls) (i := k) hx
      obtain ⟨us, husd⟩ : ∃ us, us = outL ls k := ⟨_, rfl⟩
      rw [← husd] at HS hus1 husm
      have HUSD := Lib.hid husd
      have hus0 : us.length = n' - 1 := by omega
      have hus := insL_len us (f, t, d + by1, s)
      rw [hus0] at hus
      have hmus : LSmall (insL us (f, t, d + by1, s)) := ⟨by rw [hus]; omega, fun x hx => by
        rcases mem_insL.1 hx with rfl | hx
        · exact hsm
        · exact hm.2 x (husm x hx)⟩
      obtain ⟨vs, hvsd⟩ : ∃ vs, vs = insL us (f, t, d + by1, s) := ⟨_, rfl⟩
      rw [← hvsd] at HS hus hmus
      have HVSD := Lib.hid hvsd
      have hd0 := hgp.2.2.2.1
      have hd1 := hgp.2.2.2.2.1
      have HN := Lib.hid hn
      have HU := Lib.hid hus
      clear husd hvsd husm hus1 g1 gt gh gf gu gh1 gh5 ghh gf2 gt2 hm hg1 hby hlet hy hcl hgp hglb hasc hsm
      go_enter Try.func34, Try.ntmps34
      go_wp2_with fail
      refine (HT.out _ hb0).mono ?_
      rintro e w1 ⟨rfl, ha1⟩
      have hk1 := (ha1.block w.heap.size (lt_blk hk0)).trans hk0
      have hr1 := (ha1.block (w.heap.size + 1) (lt_blk hr0)).trans hr0
      have hb1 := hb0.trans (ha1.mono hb0.size)
      have k10 := cell_of_row _ _ 0 _ 30 (0, 0) hk1
      have k11 := cell_of_row _ _ 1 _ 30 (0, 0) hk1
      have k12 := cell_of_row _ _ 2 _ 30 (0, 0) hk1
      have k13 := cell_of_row _ _ 3 _ 30 (0, 0) hk1
      have r10 := cell_of_row _ _ 0 _ 30 (0, 0) hr1
      have f10 := free_blk hr1 0
      have r11 := cell_of_row _ _ 1 _ 30 (0, 0) hr1
      have f11 := free_blk hr1 1
      have r12 := cell_of_row _ _ 2 _ 30 (0, 0) hr1
      have f12 := free_blk hr1 2
      have r13 := cell_of_row _ _ 3 _ 30 (0, 0) hr1
      have f13 := free_blk hr1 3
      clear ha1 hk0 hr0 hb0
      go_wp2_with fail
      refine (HBY.out _).mono ?_
      rintro e w2 ⟨rfl, rfl⟩
      have e0 := (hb1.cell (p := ⟨bb, off + k * 4, none⟩) hbw).trans hc0
      have e1 := (hb1.cell (p := ⟨bb, off + k * 4 + 1, none⟩) hbw).trans hc1
      have e2 := (hb1.cell (p := ⟨bb, off + k * 4 + 2, none⟩) hbw).trans hc2
      have e3 := (hb1.cell (p := ⟨bb, off + k * 4 + 3, none⟩) hbw).trans hc3
      go_wp2_with fail
      obtain ⟨w2, hw2⟩ : ∃ w2, w2 = w1.alloc (.cells #[.int .i64 f, .int .i64 t, .int .i64 (d + by1), .string s] 58) := ⟨_, rfl⟩
      have haV := below1 w1 (.cells #[.int .i64 f, .int .i64 t, .int .i64 (d + by1), .string s] 58)
      have hnV := heap_alloc_new w1 (.cells #[.int .i64 f, .int .i64 t, .int .i64 (d + by1), .string s] 58)
      rw [← hw2] at haV hnV ⊢
      have hk2 := (haV.block w.heap.size (lt_blk hk1)).trans hk1
      have hr2 := (haV.block (w.heap.size + 1) (lt_blk hr1)).trans hr1
      have hb2 := hb1.trans (haV.mono hb1.size)
      have hnex : w1.heap.size ≠ w.heap.size + 1 := by have := lt_blk hr1; omega
      have hxx : w.heap.size ≠ w1.heap.size := by have := lt_blk hr1; omega
      clear haV hw2 e0 e1 e2 e3 hc0 hc1 hc2 hc3 k10 k11 k12 k13 r10 r11 r12 r13 f10 f11 f12 f13 hk1 hr1 hb1
      have k20 := cell_of_row _ _ 0 _ 30 (0, 0) hk2
      have r20 := cell_of_row _ _ 0 _ 30 (0, 0) hr2
      have f20 := free_blk hr2 0
      have k21 := cell_of_row _ _ 1 _ 30 (0, 0) hk2
      have r21 := cell_of_row _ _ 1 _ 30 (0, 0) hr2
      have f21 := free_blk hr2 1
      have k22 := cell_of_row _ _ 2 _ 30 (0, 0) hk2
      have r22 := cell_of_row _ _ 2 _ 30 (0, 0) hr2
      have f22 := free_blk hr2 2
      have k23 := cell_of_row _ _ 3 _ 30 (0, 0) hk2
      have r23 := cell_of_row _ _ 3 _ 30 (0, 0) hr2
      have f23 := free_blk hr2 3
      obtain ⟨W1, hW1⟩ : ∃ W1, W1 = w2 := ⟨_, rfl⟩
      rw [← hW1] at hnV hb2 hk2 hr2 k20 k21 k22 k23 r20 r21 r22 r23 f20 f21 f22 f23 ⊢
      have hbW1 := hb2
      have hgl := lt_blk hk2
      have hrl := lt_blk hr2
      have hne : w.heap.size ≠ w.heap.size + 1 := by omega
      have hbel := Below.refl W1.heap.size W1
      have HBW := Lib.hid hb2
      have K0 : W1.cell? ⟨w.heap.size, 0, none⟩ = some (.int .i64 now) := k20
      have R0 : W1.cell? ⟨w.heap.size + 1, 0, none⟩ = some (.int .i64 0) := r20
      have K1 : W1.cell? ⟨w.heap.size, 1, none⟩ = some (.slice A n c) := k21
      have R1 : W1.cell? ⟨w.heap.size + 1, 1, none⟩ = some (.slice none 0 0) := r21
      have K2 : W1.cell? ⟨w.heap.size, 2, none⟩ = some (.int .i64 far) := k22
      have R2 : W1.cell? ⟨w.heap.size + 1, 2, none⟩ = some (.int .i64 0) := r22
      have K3 : W1.cell? ⟨w.heap.size, 3, none⟩ = some (.slice (some ⟨bb, off, none⟩) n' c') := k23
      have R3 : W1.cell? ⟨w.heap.size + 1, 3, none⟩ = some (.slice none 0 0) := r23
      clear k20 k21 k22 k23 r20 r21 r22 r23
      have X0 : W1.cell? ⟨w1.heap.size, 0, none⟩ = some (.int .i64 f) := cell_of_row _ _ 0 _ 58 (0, 0) hnV
      have X1 : W1.cell? ⟨w1.heap.size, 1, none⟩ = some (.int .i64 t) := cell_of_row _ _ 1 _ 58 (0, 0) hnV
      have X2 : W1.cell? ⟨w1.heap.size, 2, none⟩ = some (.int .i64 (d + by1)) := cell_of_row _ _ 2 _ 58 (0, 0) hnV
      have X3 : W1.cell? ⟨w1.heap.size, 3, none⟩ = some (.string s) := cell_of_row _ _ 3 _ 58 (0, 0) hnV
      have hxl := lt_blk hnV
      have HOUT := Lib.hid (fun v (hv : Below W1.heap.size W1 v) => l7Out_any (some ⟨bb, off, none⟩) n' c' ls k B v hn' (h'.below ((hbW1.trans (hv.mono hbW1.size)).mono hB)) (Nat.le_trans hB (hbW1.trans (hv.mono hbW1.size)).size) (by omega) hkn hcap.1 hcap.2)
      rw [← HUSD.out] at HOUT
      have HIN := Lib.hid (fun (v : World) (C : Option Addr) (cc lo : Nat) (ho : OwnL v lo v.heap.size C cc us) => l7In_any C (n' - 1) cc us f t (d + by1) s v.heap.size v hus0 ho.lets (Nat.le_refl _) (by omega) (by have := ho.room; rw [hus0] at this; exact this.1) (by have := ho.room; rw [hus0] at this; exact this.2))
      rw [← HVSD.out] at HIN
      have hown := fun (v : World) (hv : Below W1.heap.size W1 v) (C : Option Addr) (cd lo : Nat) (ho : OwnL v lo v.heap.size C cd vs) => l7Own_any now far A (some ⟨bb, off, none⟩) C n c n' c' (n' - 1 + 1) cd is vs v.heap.size v hn hus ((h.below ((hbW1.trans (hv.mono hbW1.size)).mono hB)).mono (Nat.le_trans hB (hbW1.trans (hv.mono hbW1.size)).size)) ho.lets (Nat.le_refl _) (by omega) (by omega)
      unfold NetV at hown
      simp only [hn, hus] at hown
      have HOWN := Lib.hid hown
      clear hown
      have hif := fun (v : World) (A4 A5 : Option Addr) (c4 c5 lo : Nat) (hoi : OwnI v lo v.heap.size A4 c4 is) (hol : OwnL v lo v.heap.size A5 c5 vs) => l7If_any now far A4 A5 n c4 (n' - 1 + 1) c5 is vs v.heap.size v hn hus hoi.ints hol.lets (Nat.le_refl _) hmus hl
      rcases hg2 : netB now is far vs with _ | _
      · have HAN0 := Lib.hid (show dlyA now is far ls (k : Int) by1 = noA by rw [HS.out]; unfold ifA; rw [hg2]; rfl)
        simp only [hg2, cond_false] at hif
        have HIF := Lib.hid hif
        clear hg2 hif
        have HS0 : W1.drew.cell? ⟨w.heap.size, 0, none⟩ = some (.int .i64 now) ∧ W1.drew.cell? ⟨w.heap.size, 1, none⟩ = some (.slice A n c) ∧ W1.drew.cell? ⟨w.heap.size, 2, none⟩ = some (.int .i64 far) ∧ W1.drew.cell? ⟨w.heap.size, 3, none⟩ = some (.slice (some ⟨bb, off, none⟩) n' c') ∧ W1.drew.cell? ⟨w1.heap.size, 0, none⟩ = some (.int .i64 f) ∧ W1.drew.cell? ⟨w1.heap.size, 1, none⟩ = some (.int .i64 t) ∧ W1.drew.cell? ⟨w1.heap.size, 2, none⟩ = some (.int .i64 (d + by1)) ∧ W1.drew.cell? ⟨w1.heap.size, 3, none⟩ = some (.string s) := ⟨K0, K1, K2, K3, X0, X1, X2, X3⟩
        clear h h' hn hn' hus hmus hk2 hr2 hb2 hbW1 hW1 hus0 hnV
        go_region_held3 (fun w' => w'.cell? ⟨w.heap.size, 0, none⟩ = some (.int .i64 now) ∧ w'.cell? ⟨w.heap.size, 1, none⟩ = some (.slice A n c) ∧ w'.cell? ⟨w.heap.size, 2, none⟩ = some (.int .i64 far) ∧ w'.cell? ⟨w.heap.size, 3, none⟩ = some (.slice (some ⟨bb, off, none⟩) n' c') ∧ w'.cell? ⟨w1.heap.size, 0, none⟩ = some (.int .i64 f) ∧ w'.cell? ⟨w1.heap.size, 1, none⟩ = some (.int .i64 t) ∧ w'.cell? ⟨w1.heap.size, 2, none⟩ = some (.int .i64 (d + by1)) ∧ w'.cell? ⟨w1.heap.size, 3, none⟩ = some (.string s))
          (first | with_reducible exact HS0 | with_reducible exact ⟨kept2 hB1 K0 hgl, kept2 hB1 K1 hgl, kept2 hB1 K2 hgl, kept2 hB1 K3 hgl, kept2 hB1 X0 hxl, kept2 hB1 X1 hxl, kept2 hB1 X2 hxl, kept2 hB1 X3 hxl⟩ | with_reducible exact ⟨kept2 hB2 K0 hgl, kept2 hB2 K1 hgl, kept2 hB2 K2 hgl, kept2 hB2 K3 hgl, kept2 hB2 X0 hxl, kept2 hB2 X1 hxl, kept2 hB2 X2 hxl, kept2 hB2 X3 hxl⟩ | with_reducible exact ⟨kept2 hB3 K0 hgl, kept2 hB3 K1 hgl, kept2 hB3 K2 hgl, kept2 hB3 K3 hgl, kept2 hB3 X0 hxl, kept2 hB3 X1 hxl, kept2 hB3 X2 hxl, kept2 hB3 X3 hxl⟩ | with_reducible exact ⟨kept2 hB4 K0 hgl, kept2 hB4 K1 hgl, kept2 hB4 K2 hgl, kept2 hB4 K3 hgl, kept2 hB4 X0 hxl, kept2 hB4 X1 hxl, kept2 hB4 X2 hxl, kept2 hB4 X3 hxl⟩ | with_reducible exact ⟨(put4_cell hne).trans (kept2 hB4 K0 hgl), (put4_cell hne).trans (kept2 hB4 K1 hgl), (put4_cell hne).trans (kept2 hB4 K2 hgl), (put4_cell hne).trans (kept2 hB4 K3 hgl), (put4_cell hnex).trans (kept2 hB4 X0 hxl), (put4_cell hnex).trans (kept2 hB4 X1 hxl), (put4_cell hnex).trans (kept2 hB4 X2 hxl), (put4_cell hnex).trans (kept2 hB4 X3 hxl)⟩ | fail)
          (first
            | (go_at_call 66; (with_reducible refine (HOUT.out _ hbel.drew).mono ?_); rintro e v1 ⟨A3, c3, rfl, ho1, ha1⟩; have hB1 : Below W1.heap.size W1 v1 := below_d0 ha1)
            | (go_at_call 62; (with_reducible refine (HIN.out v1 A3 c3 _ ho1).mono ?_); rintro e v2 ⟨A6, c6, rfl, ho2, ha2⟩; have hB2 : Below W1.heap.size W1 v2 := hB1.trans (ha2.mono hB1.size))
            | (go_at_call 61; (with_reducible refine (HOWN.out v2 hB2 _ _ _ ho2).mono ?_); rintro e v3 ⟨A4, c4, A5, c5, rfl, hoiF, holF, ha3⟩; have hB3 : Below W1.heap.size W1 v3 := hB2.trans (ha3.mono hB2.size))
            | (go_at_call 60; (with_reducible refine (HIF.out v3 A4 A5 c4 c5 _ hoiF holF).mono ?_); rintro e v4 ⟨rfl, ha4⟩; have hB4 : Below W1.heap.size W1 v4 := hB3.trans (ha4.mono hB3.size); have y0 := kept2 hB4 R0 hrl; have z0 := keptF hB4 f20 hrl; have y1 := kept2 hB4 R1 hrl; have z1 := keptF hB4 f21 hrl; have y2 := kept2 hB4 R2 hrl; have z2 := keptF hB4 f22 hrl; have y3 := kept2 hB4 R3 hrl; have z3 := keptF hB4 f23 hrl)
            | fail)
        have hz1 := hB2.size
        have hz2 := ha3.size
        have hz3 := HBW.out.size
        have hz4 := ha4.size
        have HAN := Lib.hid (show NAPost (dlyA now is far ls (k : Int) by1) w (.returned (.tuple #[.agg #[.int .i64 0, .slice none 0 0, .int .i64 0, .slice none 0 0], .bool false])) ((((v4.setCell ⟨w.heap.size + 1, 0, none⟩ (.int .i64 0)).setCell ⟨w.heap.size + 1, 1, none⟩ (.slice none 0 0)).setCell ⟨w.heap.size + 1, 2, none⟩ (.int .i64 0)).setCell ⟨w.heap.size + 1, 3, none⟩ (.slice none 0 0)) by
          rw [HAN0.out]
          exact noA_post (bel_put4 (HBW.out.trans (hB4.mono HBW.out.size)) (by omega)))
        clear hoiF holF hz1 hz2 hz3 hz4 hB1 hB2 hB3 hB4 HS0 ha3 ha4 HOWN HIF ho1 ha1 ho2 ha2 HIN HOUT X0 X1 X2 X3
        go_wp2
        exact bodyPost_ret (v := .tuple #[.agg #[.int .i64 0, .slice none 0 0, .int .i64 0, .slice none 0 0], .bool false]) (by simp [results, Try.results34, go_sem, y0, y1, y2, y3, z0, z1, z2, z3]) rfl HAN.out
      · have HAN0 := Lib.hid (show dlyA now is far ls (k : Int) by1 = (now, is, far, vs, true) by rw [HS.out]; unfold ifA; rw [hg2]; rfl)
        simp only [hg2, cond_true] at hif
        have HIF := Lib.hid hif
        clear hg2 hif
        have HS0 : W1.drew.cell? ⟨w.heap.size, 0, none⟩ = some (.int .i64 now) ∧ W1.drew.cell? ⟨w.heap.size, 1, none⟩ = some (.slice A n c) ∧ W1.drew.cell? ⟨w.heap.size, 2, none⟩ = some (.int .i64 far) ∧ W1.drew.cell? ⟨w.heap.size, 3, none⟩ = some (.slice (some ⟨bb, off, none⟩) n' c') ∧ W1.drew.cell? ⟨w1.heap.size, 0, none⟩ = some (.int .i64 f) ∧ W1.drew.cell? ⟨w1.heap.size, 1, none⟩ = some (.int .i64 t) ∧ W1.drew.cell? ⟨w1.heap.size, 2, none⟩ = some (.int .i64 (d + by1)) ∧ W1.drew.cell? ⟨w1.heap.size, 3, none⟩ = some (.string s) := ⟨K0, K1, K2, K3, X0, X1, X2, X3⟩
        clear h h' hn hn' hus hmus hk2 hr2 hb2 hbW1 hW1 hus0 hnV
        go_region_held3 (fun w' => w'.cell? ⟨w.heap.size, 0, none⟩ = some (.int .i64 now) ∧ w'.cell? ⟨w.heap.size, 1, none⟩ = some (.slice A n c) ∧ w'.cell? ⟨w.heap.size, 2, none⟩ = some (.int .i64 far) ∧ w'.cell? ⟨w.heap.size, 3, none⟩ = some (.slice (some ⟨bb, off, none⟩) n' c') ∧ w'.cell? ⟨w1.heap.size, 0, none⟩ = some (.int .i64 f) ∧ w'.cell? ⟨w1.heap.size, 1, none⟩ = some (.int .i64 t) ∧ w'.cell? ⟨w1.heap.size, 2, none⟩ = some (.int .i64 (d + by1)) ∧ w'.cell? ⟨w1.heap.size, 3, none⟩ = some (.string s))
          (first | with_reducible exact HS0 | with_reducible exact ⟨kept2 hB1 K0 hgl, kept2 hB1 K1 hgl, kept2 hB1 K2 hgl, kept2 hB1 K3 hgl, kept2 hB1 X0 hxl, kept2 hB1 X1 hxl, kept2 hB1 X2 hxl, kept2 hB1 X3 hxl⟩ | with_reducible exact ⟨kept2 hB2 K0 hgl, kept2 hB2 K1 hgl, kept2 hB2 K2 hgl, kept2 hB2 K3 hgl, kept2 hB2 X0 hxl, kept2 hB2 X1 hxl, kept2 hB2 X2 hxl, kept2 hB2 X3 hxl⟩ | with_reducible exact ⟨kept2 hB3 K0 hgl, kept2 hB3 K1 hgl, kept2 hB3 K2 hgl, kept2 hB3 K3 hgl, kept2 hB3 X0 hxl, kept2 hB3 X1 hxl, kept2 hB3 X2 hxl, kept2 hB3 X3 hxl⟩ | with_reducible exact ⟨kept2 hB4 K0 hgl, kept2 hB4 K1 hgl, kept2 hB4 K2 hgl, kept2 hB4 K3 hgl, kept2 hB4 X0 hxl, kept2 hB4 X1 hxl, kept2 hB4 X2 hxl, kept2 hB4 X3 hxl⟩ | with_reducible exact ⟨(put4_cell hne).trans (kept2 hB4 K0 hgl), (put4_cell hne).trans (kept2 hB4 K1 hgl), (put4_cell hne).trans (kept2 hB4 K2 hgl), (put4_cell hne).trans (kept2 hB4 K3 hgl), (put4_cell hnex).trans (kept2 hB4 X0 hxl), (put4_cell hnex).trans (kept2 hB4 X1 hxl), (put4_cell hnex).trans (kept2 hB4 X2 hxl), (put4_cell hnex).trans (kept2 hB4 X3 hxl)⟩ | fail)
          (first
            | (go_at_call 66; (with_reducible refine (HOUT.out _ hbel.drew).mono ?_); rintro e v1 ⟨A3, c3, rfl, ho1, ha1⟩; have hB1 : Below W1.heap.size W1 v1 := below_d0 ha1)
            | (go_at_call 62; (with_reducible refine (HIN.out v1 A3 c3 _ ho1).mono ?_); rintro e v2 ⟨A6, c6, rfl, ho2, ha2⟩; have hB2 : Below W1.heap.size W1 v2 := hB1.trans (ha2.mono hB1.size))
            | (go_at_call 61; (with_reducible refine (HOWN.out v2 hB2 _ _ _ ho2).mono ?_); rintro e v3 ⟨A4, c4, A5, c5, rfl, hoiF, holF, ha3⟩; have hB3 : Below W1.heap.size W1 v3 := hB2.trans (ha3.mono hB2.size))
            | (go_at_call 60; (with_reducible refine (HIF.out v3 A4 A5 c4 c5 _ hoiF holF).mono ?_); rintro e v4 ⟨rfl, ha4⟩; have hB4 : Below W1.heap.size W1 v4 := hB3.trans (ha4.mono hB3.size); have y0 := kept2 hB4 R0 hrl; have z0 := keptF hB4 f20 hrl; have y1 := kept2 hB4 R1 hrl; have z1 := keptF hB4 f21 hrl; have y2 := kept2 hB4 R2 hrl; have z2 := keptF hB4 f22 hrl; have y3 := kept2 hB4 R3 hrl; have z3 := keptF hB4 f23 hrl)
            | fail)
        have hz1 := hB2.size
        have hz2 := ha3.size
        have hz3 := HBW.out.size
        have hz4 := ha4.size
        have HAN := Lib.hid (show NAPost (dlyA now is far ls (k : Int) by1) w (.returned (.tuple #[.agg #[.int .i64 now, .slice A4 n c4, .int .i64 far, .slice A5 (n' - 1 + 1) c5], .bool true])) ((((v4.setCell ⟨w.heap.size + 1, 0, none⟩ (.int .i64 now)).setCell ⟨w.heap.size + 1, 1, none⟩ (.slice A4 n c4)).setCell ⟨w.heap.size + 1, 2, none⟩ (.int .i64 far)).setCell ⟨w.heap.size + 1, 3, none⟩ (.slice A5 (n' - 1 + 1) c5)) by
          rw [HAN0.out]
          exact yes_post HN.out HU.out ((OwnI.put4 (hoiF.since ha4 (Nat.le_refl _)) (by omega)).wider (by omega) (by simp [World.setCell]; omega)) ((OwnL.put4 (holF.since ha4 (Nat.le_refl _)) (by omega)).wider (by omega) (by simp [World.setCell]; omega)) (bel_put4 (HBW.out.trans (hB4.mono HBW.out.size)) (by omega)))
        clear hoiF holF hz1 hz2 hz3 hz4 hB1 hB2 hB3 hB4 HS0 ha3 ha4 HOWN HIF ho1 ha1 ho2 ha2 HIN HOUT X0 X1 X2 X3
        go_wp2
        exact bodyPost_ret (v := .tuple #[.agg #[.int .i64 now, .slice A4 n c4, .int .i64 far, .slice A5 (n' - 1 + 1) c5], .bool true]) (by simp [results, Try.results34, go_sem, y0, y1, y2, y3, z0, z1, z2, z3]) rfl HAN.out
end Go.Proofs.Ytkfphbbbidemcaa.Nt
