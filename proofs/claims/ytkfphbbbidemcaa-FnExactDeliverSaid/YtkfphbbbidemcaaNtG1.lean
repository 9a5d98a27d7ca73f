/-
  LoseOne, DoubleOne, SendTo, TickNet, NewNet of the model.
-/
import Derived.Test.YtkfphbbbidemcaaNtF4
import Derived.Test.YtkfphbbbidemcaaNtIn
namespace Go.Proofs.Ytkfphbbbidemcaa.Nt
open Go.RowKit
set_option linter.unusedVariables false
set_option linter.unusedSimpArgs false

set_option maxRecDepth 100000 in
set_option maxHeartbeats 4000000 in
theorem specLoseOne_any (now far : Int) (A A' : Option Addr) (n c n' c' : Nat) (is : List Int) (ls : List (Int × Int × Int × ByteArray)) (i : Int) (B : Nat) (w : World) (hn : is.length = n) (hn' : ls.length = n') (h : IntsB w B A is) (h' : LetsB w B A' ls) (hB : B ≤ w.heap.size) (hm : LSmall ls) (hl : n ≤ 1048576) (hcap : n' ≤ c' ∧ c' ≤ maxLen) :
    Calls Try.prog 30 #[.agg #[.int .i64 now, .slice A n c, .int .i64 far, .slice A' n' c'], .int .i64 i] w (NAPost (loseA now is far ls i) w) := by
  have hb0 := below2 w (.cells #[.int .i64 now, .slice A n c, .int .i64 far, .slice A' n' c'] 30) (.cells #[.int .i64 0, .slice none 0 0, .int .i64 0, .slice none 0 0] 30)
  have hk0 : ((w.alloc (.cells #[.int .i64 now, .slice A n c, .int .i64 far, .slice A' n' c'] 30)).alloc (.cells #[.int .i64 0, .slice none 0 0, .int .i64 0, .slice none 0 0] 30)).heap[w.heap.size]? = some (.cells #[.int .i64 now, .slice A n c, .int .i64 far, .slice A' n' c'] 30 (0, 0)) := ((below1 (w.alloc (.cells #[.int .i64 now, .slice A n c, .int .i64 far, .slice A' n' c'] 30)) (.cells #[.int .i64 0, .slice none 0 0, .int .i64 0, .slice none 0 0] 30)).block w.heap.size (by simp)).trans (heap_alloc_new w (.cells #[.int .i64 now, .slice A n c, .int .i64 far, .slice A' n' c'] 30))
  have hr0 := alloc_snd w (.cells #[.int .i64 now, .slice A n c, .int .i64 far, .slice A' n' c'] 30) (.cells #[.int .i64 0, .slice none 0 0, .int .i64 0, .slice none 0 0] 30)
  have HT := Lib.hid (fun W (hW : Below w.heap.size w W) => l7Has_any now far A A' n c n' c' is ls i B W hn hn' (h.below (hW.mono hB)) (h'.below (hW.mono hB)) (Nat.le_trans hB hW.size) hm hl)
  cases hg1 : hasB now is far ls i with
  | false =>
    rw [hg1] at HT
    have HNA := Lib.hid (show loseA now is far ls i = noA by unfold loseA; rw [hg1]; simp)
    clear h h' hm hn hn' hg1
    go_enter Try.func30, Try.ntmps30
    go_wp2_with fail
    refine (HT.out _ hb0).mono ?_
    rintro e w1 ⟨rfl, ha1⟩
    have hk1 := (ha1.block w.heap.size (lt_blk hk0)).trans hk0
    have hr1 := (ha1.block (w.heap.size + 1) (lt_blk hr0)).trans hr0
    have hb1 := hb0.trans (ha1.mono hb0.size)
    have k10 := cell_of_row _ _ 0 _ 30 (0, 0) hk1
    have k11 := cell_of_row _ _ 1 _ 30 (0, 0) hk1
    have k12 := cell_of_row _ _ 2 _ 30 (0, 0) hk1
    have k13 := cell_of_row _ _ 3 _ 30 (0, 0) hk1
    have r10 := cell_of_row _ _ 0 _ 30 (0, 0) hr1
    have f10 := free_blk hr1 0
    have r11 := cell_of_row _ _ 1 _ 30 (0, 0) hr1
    have f11 := free_blk hr1 1
    have r12 := cell_of_row _ _ 2 _ 30 (0, 0) hr1
    have f12 := free_blk hr1 2
    have r13 := cell_of_row _ _ 3 _ 30 (0, 0) hr1
    have f13 := free_blk hr1 3
    clear ha1 hk0 hr0 hb0
    have HBN := Lib.hid hb1
    clear hb1 hk1 hr1
    go_wp2
    exact bodyPost_ret (v := .tuple #[.agg #[.int .i64 0, .slice none 0 0, .int .i64 0, .slice none 0 0], .bool false]) (by simp [results, Try.results30, go_sem, r10, f10, r11, f11, r12, f12, r13, f13]) rfl (by rw [HNA.out]; exact noA_post (bel_put4 HBN.out (by omega)))
  | true =>
    rw [hg1] at HT
    obtain ⟨g1, hi0, hi1⟩ := hasB_true hg1
    obtain ⟨gt, gh, gf, gl, gu⟩ := netB_true g1
    obtain ⟨gh1, gh5, ghh⟩ := homesB_true gh
    have gf2 := inB_true gf
    have gt2 := inB_true gt
    have hasc := undB_asc gu
    rw [hn'] at gl
    rw [hn'] at hi1
    obtain ⟨k, rfl⟩ : ∃ k : Nat, i = (k : Int) := ⟨i.toNat, by omega⟩
    have hkn : k < n' := by omega
    obtain ⟨bb, off, hA', hbB, hcl⟩ := h'.get (by omega)
    obtain ⟨hc0, hc1, hc2, hc3⟩ := hcl k (by omega)
    have hlet := letAt_get (show k < ls.length by omega)
    have hsm := hm.2 _ (List.getElem_mem (show k < ls.length by omega))
    have hglb := (undB_low gu _ (List.getElem_mem (show k < ls.length by omega))).2
    have hgp := glB_parts hglb
    obtain ⟨y, hy⟩ : ∃ y, y = ls[k]'(by omega) := ⟨_, rfl⟩
    rw [← hy] at hc0 hc1 hc2 hc3 hlet hsm hgp
    obtain ⟨f, t, d, s⟩ := y
    simp only at hc0 hc1 hc2 hc3 hsm hgp
    have hbw : bb < w.heap.size := Nat.lt_of_lt_of_le hbB hB
    have hki : (k : Int) < (n' : Int) := by omega
    subst hA'
    have HS := Lib.hid (show loseA now is far ls (k : Int) = (now, is, far, outL ls k, true) by unfold loseA; rw [hg1, if_pos rfl]; rfl)
    have hus0 := outL_len ls k (by omega)
    obtain ⟨us, husd⟩ : ∃ us, us = outL ls k := ⟨_, rfl⟩
    rw [← husd] at HS hus0
    have hus : us.length = n' - 1 := by omega
    have HUSD := Lib.hid husd
    clear husd g1 gt gh gf gu gh1 gh5 ghh gf2 gt2 hm hg1 hlet hy hcl hgp hglb hc0 hc1 hc2 hc3 hsm hasc hus0
    go_enter Try.func30, Try.ntmps30
    go_wp2_with fail
    refine (HT.out _ hb0).mono ?_
    rintro e w1 ⟨rfl, ha1⟩
    have hk1 := (ha1.block w.heap.size (lt_blk hk0)).trans hk0
    have hr1 := (ha1.block (w.heap.size + 1) (lt_blk hr0)).trans hr0
    have hb1 := hb0.trans (ha1.mono hb0.size)
    have k10 := cell_of_row _ _ 0 _ 30 (0, 0) hk1
    have k11 := cell_of_row _ _ 1 _ 30 (0, 0) hk1
    have k12 := cell_of_row _ _ 2 _ 30 (0, 0) hk1
    have k13 := cell_of_row _ _ 3 _ 30 (0, 0) hk1
    have r10 := cell_of_row _ _ 0 _ 30 (0, 0) hr1
    have f10 := free_blk hr1 0
    have r11 := cell_of_row _ _ 1 _ 30 (0, 0) hr1
    have f11 := free_blk hr1 1
    have r12 := cell_of_row _ _ 2 _ 30 (0, 0) hr1
    have f12 := free_blk hr1 2
    have r13 := cell_of_row _ _ 3 _ 30 (0, 0) hr1
    have f13 := free_blk hr1 3
    clear ha1 hk0 hr0 hb0
    go_wp2_with fail
    obtain ⟨W1, hW1⟩ : ∃ W1, W1 = w1 := ⟨_, rfl⟩
    rw [← hW1] at hb1 hk1 hr1 k10 k11 k12 k13 r10 r11 r12 r13 f10 f11 f12 f13 ⊢
    have hbW1 := hb1
    have hgl := lt_blk hk1
    have hrl := lt_blk hr1
    have hne : w.heap.size ≠ w.heap.size + 1 := by omega
    have hbel := Below.refl W1.heap.size W1
    have HBW := Lib.hid hb1
    have K0 : W1.cell? ⟨w.heap.size, 0, none⟩ = some (.int .i64 now) := k10
    have R0 : W1.cell? ⟨w.heap.size + 1, 0, none⟩ = some (.int .i64 0) := r10
    have K1 : W1.cell? ⟨w.heap.size, 1, none⟩ = some (.slice A n c) := k11
    have R1 : W1.cell? ⟨w.heap.size + 1, 1, none⟩ = some (.slice none 0 0) := r11
    have K2 : W1.cell? ⟨w.heap.size, 2, none⟩ = some (.int .i64 far) := k12
    have R2 : W1.cell? ⟨w.heap.size + 1, 2, none⟩ = some (.int .i64 0) := r12
    have K3 : W1.cell? ⟨w.heap.size, 3, none⟩ = some (.slice (some ⟨bb, off, none⟩) n' c') := k13
    have R3 : W1.cell? ⟨w.heap.size + 1, 3, none⟩ = some (.slice none 0 0) := r13
    clear k10 k11 k12 k13 r10 r11 r12 r13
    have HOUT := Lib.hid (fun v (hv : Below W1.heap.size W1 v) => l7Out_any (some ⟨bb, off, none⟩) n' c' ls k B v hn' (h'.below ((hbW1.trans (hv.mono hbW1.size)).mono hB)) (Nat.le_trans hB (hbW1.trans (hv.mono hbW1.size)).size) (by omega) hkn hcap.1 hcap.2)
    rw [← HUSD.out] at HOUT
    have hown := fun (v : World) (hv : Below W1.heap.size W1 v) (C : Option Addr) (cd lo : Nat) (ho : OwnL v lo v.heap.size C cd us) => l7Own_any now far A (some ⟨bb, off, none⟩) C n c n' c' (n' - 1) cd is us v.heap.size v hn hus ((h.below ((hbW1.trans (hv.mono hbW1.size)).mono hB)).mono (Nat.le_trans hB (hbW1.trans (hv.mono hbW1.size)).size)) ho.lets (Nat.le_refl _) (by omega) (by omega)
    unfold NetV at hown
    simp only [hn, hus] at hown
    have HOWN := Lib.hid hown
    clear hown
    have HN := Lib.hid hn
    have HU := Lib.hid hus
    have HS0 : W1.drew.cell? ⟨w.heap.size, 0, none⟩ = some (.int .i64 now) ∧ W1.drew.cell? ⟨w.heap.size, 1, none⟩ = some (.slice A n c) ∧ W1.drew.cell? ⟨w.heap.size, 2, none⟩ = some (.int .i64 far) ∧ W1.drew.cell? ⟨w.heap.size, 3, none⟩ = some (.slice (some ⟨bb, off, none⟩) n' c') := ⟨K0, K1, K2, K3⟩
    clear h h' hn hn' hus hk1 hr1 hb1 hbW1 hW1
    go_region_held3 (fun w' => w'.cell? ⟨w.heap.size, 0, none⟩ = some (.int .i64 now) ∧ w'.cell? ⟨w.heap.size, 1, none⟩ = some (.slice A n c) ∧ w'.cell? ⟨w.heap.size, 2, none⟩ = some (.int .i64 far) ∧ w'.cell? ⟨w.heap.size, 3, none⟩ = some (.slice (some ⟨bb, off, none⟩) n' c'))
      (first | with_reducible exact HS0 | with_reducible exact ⟨kept2 hB1 K0 hgl, kept2 hB1 K1 hgl, kept2 hB1 K2 hgl, kept2 hB1 K3 hgl⟩ | with_reducible exact ⟨kept2 hB2 K0 hgl, kept2 hB2 K1 hgl, kept2 hB2 K2 hgl, kept2 hB2 K3 hgl⟩ | with_reducible exact ⟨(put4_cell hne).trans (kept2 hB2 K0 hgl), (put4_cell hne).trans (kept2 hB2 K1 hgl), (put4_cell hne).trans (kept2 hB2 K2 hgl), (put4_cell hne).trans (kept2 hB2 K3 hgl)⟩ | fail)
      (first
        | (go_at_call 66; (with_reducible refine (HOUT.out _ hbel.drew).mono ?_); rintro e v1 ⟨A3, c3, rfl, ho1, ha1⟩; have hB1 : Below W1.heap.size W1 v1 := below_d0 ha1)
        | (go_at_call 61; (with_reducible refine (HOWN.out v1 hB1 A3 c3 _ ho1).mono ?_); rintro e v2 ⟨A4, c4, A5, c5, rfl, hoiF, holF, ha2⟩; have hB2 : Below W1.heap.size W1 v2 := hB1.trans (ha2.mono hB1.size); have y0 := kept2 hB2 R0 hrl; have z0 := keptF hB2 f10 hrl; have y1 := kept2 hB2 R1 hrl; have z1 := keptF hB2 f11 hrl; have y2 := kept2 hB2 R2 hrl; have z2 := keptF hB2 f12 hrl; have y3 := kept2 hB2 R3 hrl; have z3 := keptF hB2 f13 hrl)
        | fail)
    have hz1 := hB1.size
    have hz2 := ha2.size
    have hz3 := HBW.out.size
    have HAN := Lib.hid (show NAPost (loseA now is far ls (k : Int)) w (.returned (.tuple #[.agg #[.int .i64 now, .slice A4 n c4, .int .i64 far, .slice A5 (n' - 1) c5], .bool true])) ((((v2.setCell ⟨w.heap.size + 1, 0, none⟩ (.int .i64 now)).setCell ⟨w.heap.size + 1, 1, none⟩ (.slice A4 n c4)).setCell ⟨w.heap.size + 1, 2, none⟩ (.int .i64 far)).setCell ⟨w.heap.size + 1, 3, none⟩ (.slice A5 (n' - 1) c5)) by
      rw [HS.out]
      exact yes_post HN.out HU.out ((OwnI.put4 hoiF (by omega)).wider (by omega) (by simp [World.setCell])) ((OwnL.put4 holF (by omega)).wider (by omega) (by simp [World.setCell])) (bel_put4 (HBW.out.trans (hB2.mono HBW.out.size)) (by omega)))
    clear hoiF holF ho1 ha1 ha2 hB1 hB2 HS0 hz1 hz2 hz3 HOUT HOWN
    go_wp2
    exact bodyPost_ret (v := .tuple #[.agg #[.int .i64 now, .slice A4 n c4, .int .i64 far, .slice A5 (n' - 1) c5], .bool true]) (by simp [results, Try.results30, go_sem, y0, y1, y2, y3, z0, z1, z2, z3]) rfl HAN.out

set_option maxRecDepth 100000 in
set_option maxHeartbeats 4000000 in
theorem specDoubleOne_any (now far : Int) (A A' : Option Addr) (n c n' c' : Nat) (is : List Int) (ls : List (Int × Int × Int × ByteArray)) (i : Int) (B : Nat) (w : World) (hn : is.length = n) (hn' : ls.length = n') (h : IntsB w B A is) (h' : LetsB w B A' ls) (hB : B ≤ w.heap.size) (hm : LSmall ls) (hl : n ≤ 1048576) (hcap : n' ≤ c' ∧ c' ≤ maxLen) :
    Calls Try.prog 32 #[.agg #[.int .i64 now, .slice A n c, .int .i64 far, .slice A' n' c'], .int .i64 i] w (NAPost (dblA now is far ls i) w) := by
  have hb0 := below2 w (.cells #[.int .i64 now, .slice A n c, .int .i64 far, .slice A' n' c'] 30) (.cells #[.int .i64 0, .slice none 0 0, .int .i64 0, .slice none 0 0] 30)
  have hk0 : ((w.alloc (.cells #[.int .i64 now, .slice A n c, .int .i64 far, .slice A' n' c'] 30)).alloc (.cells #[.int .i64 0, .slice none 0 0, .int .i64 0, .slice none 0 0] 30)).heap[w.heap.size]? = some (.cells #[.int .i64 now, .slice A n c, .int .i64 far, .slice A' n' c'] 30 (0, 0)) := ((below1 (w.alloc (.cells #[.int .i64 now, .slice A n c, .int .i64 far, .slice A' n' c'] 30)) (.cells #[.int .i64 0, .slice none 0 0, .int .i64 0, .slice none 0 0] 30)).block w.heap.size (by simp)).trans (heap_alloc_new w (.cells #[.int .i64 now, .slice A n c, .int .i64 far, .slice A' n' c'] 30))
  have hr0 := alloc_snd w (.cells #[.int .i64 now, .slice A n c, .int .i64 far, .slice A' n' c'] 30) (.cells #[.int .i64 0, .slice none 0 0, .int .i64 0, .slice none 0 0] 30)
  have HT := Lib.hid (fun W (hW : Below w.heap.size w W) => l7Has_any now far A A' n c n' c' is ls i B W hn hn' (h.below (hW.mono hB)) (h'.below (hW.mono hB)) (Nat.le_trans hB hW.size) hm hl)
  cases hg1 : hasB now is far ls i with
  | false =>
    rw [hg1] at HT
    have HNA := Lib.hid (show dblA now is far ls i = noA by unfold dblA; rw [hg1]; simp)
    clear h h' hm hn hn' hg1
    go_enter Try.func32, Try.ntmps32
    go_wp2_with fail
    refine (HT.out _ hb0).mono ?_
    rintro e w1 ⟨rfl, ha1⟩
    have hk1 := (ha1.block w.heap.size (lt_blk hk0)).trans hk0
    have hr1 := (ha1.block (w.heap.size + 1) (lt_blk hr0)).trans hr0
    have hb1 := hb0.trans (ha1.mono hb0.size)
    have k10 := cell_of_row _ _ 0 _ 30 (0, 0) hk1
    have k11 := cell_of_row _ _ 1 _ 30 (0, 0) hk1
    have k12 := cell_of_row _ _ 2 _ 30 (0, 0) hk1
    have k13 := cell_of_row _ _ 3 _ 30 (0, 0) hk1
    have r10 := cell_of_row _ _ 0 _ 30 (0, 0) hr1
    have f10 := free_blk hr1 0
    have r11 := cell_of_row _ _ 1 _ 30 (0, 0) hr1
    have f11 := free_blk hr1 1
    have r12 := cell_of_row _ _ 2 _ 30 (0, 0) hr1
    have f12 := free_blk hr1 2
    have r13 := cell_of_row _ _ 3 _ 30 (0, 0) hr1
    have f13 := free_blk hr1 3
    clear ha1 hk0 hr0 hb0
    have HBN := Lib.hid hb1
    clear hb1 hk1 hr1
    go_wp2
    exact bodyPost_ret (v := .tuple #[.agg #[.int .i64 0, .slice none 0 0, .int .i64 0, .slice none 0 0], .bool false]) (by simp [results, Try.results32, go_sem, r10, f10, r11, f11, r12, f12, r13, f13]) rfl (by rw [HNA.out]; exact noA_post (bel_put4 HBN.out (by omega)))
  | true =>
    rw [hg1] at HT
    obtain ⟨g1, hi0, hi1⟩ := hasB_true hg1
    obtain ⟨gt, gh, gf, gl, gu⟩ := netB_true g1
    obtain ⟨gh1, gh5, ghh⟩ := homesB_true gh
    have gf2 := inB_true gf
    have gt2 := inB_true gt
    have hasc := undB_asc gu
    rw [hn'] at gl
    rw [hn'] at hi1
    obtain ⟨k, rfl⟩ : ∃ k : Nat, i = (k : Int) := ⟨i.toNat, by omega⟩
    have hkn : k < n' := by omega
    obtain ⟨bb, off, hA', hbB, hcl⟩ := h'.get (by omega)
    obtain ⟨hc0, hc1, hc2, hc3⟩ := hcl k (by omega)
    have hlet := letAt_get (show k < ls.length by omega)
    have hsm := hm.2 _ (List.getElem_mem (show k < ls.length by omega))
    have hglb := (undB_low gu _ (List.getElem_mem (show k < ls.length by omega))).2
    have hgp := glB_parts hglb
    obtain ⟨y, hy⟩ : ∃ y, y = ls[k]'(by omega) := ⟨_, rfl⟩
    rw [← hy] at hc0 hc1 hc2 hc3 hlet hsm hgp
    obtain ⟨f, t, d, s⟩ := y
    simp only at hc0 hc1 hc2 hc3 hsm hgp
    have hbw : bb < w.heap.size := Nat.lt_of_lt_of_le hbB hB
    have hki : (k : Int) < (n' : Int) := by omega
    subst hA'
    have HS := Lib.hid (show dblA now is far ls (k : Int) = ifA now is far (insL ls (f, t, d, s)) by unfold dblA; rw [hg1, if_pos rfl, hlet])
    have hus := insL_len ls (f, t, d, s)
    rw [hn'] at hus
    have hmus : LSmall (insL ls (f, t, d, s)) := ⟨by rw [hus]; omega, fun x hx => by
      rcases mem_insL.1 hx with rfl | hx
      · exact hsm
      · exact hm.2 x hx⟩
    obtain ⟨us, husd⟩ : ∃ us, us = insL ls (f, t, d, s) := ⟨_, rfl⟩
    rw [← husd] at HS hus hmus
    have HUSD := Lib.hid husd
    have HN := Lib.hid hn
    have HU := Lib.hid hus
    clear husd g1 gt gh gf gu gh1 gh5 ghh gf2 gt2 hm hg1 hlet hy hcl hgp hglb hasc hsm
    go_enter Try.func32, Try.ntmps32
    go_wp2_with fail
    refine (HT.out _ hb0).mono ?_
    rintro e w1 ⟨rfl, ha1⟩
    have hk1 := (ha1.block w.heap.size (lt_blk hk0)).trans hk0
    have hr1 := (ha1.block (w.heap.size + 1) (lt_blk hr0)).trans hr0
    have hb1 := hb0.trans (ha1.mono hb0.size)
    have k10 := cell_of_row _ _ 0 _ 30 (0, 0) hk1
    have k11 := cell_of_row _ _ 1 _ 30 (0, 0) hk1
    have k12 := cell_of_row _ _ 2 _ 30 (0, 0) hk1
    have k13 := cell_of_row _ _ 3 _ 30 (0, 0) hk1
    have r10 := cell_of_row _ _ 0 _ 30 (0, 0) hr1
    have f10 := free_blk hr1 0
    have r11 := cell_of_row _ _ 1 _ 30 (0, 0) hr1
    have f11 := free_blk hr1 1
    have r12 := cell_of_row _ _ 2 _ 30 (0, 0) hr1
    have f12 := free_blk hr1 2
    have r13 := cell_of_row _ _ 3 _ 30 (0, 0) hr1
    have f13 := free_blk hr1 3
    clear ha1 hk0 hr0 hb0
    go_wp2_with fail
    obtain ⟨W1, hW1⟩ : ∃ W1, W1 = w1 := ⟨_, rfl⟩
    rw [← hW1] at hb1 hk1 hr1 k10 k11 k12 k13 r10 r11 r12 r13 f10 f11 f12 f13 ⊢
    have hbW1 := hb1
    have hgl := lt_blk hk1
    have hrl := lt_blk hr1
    have hne : w.heap.size ≠ w.heap.size + 1 := by omega
    have hbel := Below.refl W1.heap.size W1
    have HBW := Lib.hid hb1
    have K0 : W1.cell? ⟨w.heap.size, 0, none⟩ = some (.int .i64 now) := k10
    have R0 : W1.cell? ⟨w.heap.size + 1, 0, none⟩ = some (.int .i64 0) := r10
    have K1 : W1.cell? ⟨w.heap.size, 1, none⟩ = some (.slice A n c) := k11
    have R1 : W1.cell? ⟨w.heap.size + 1, 1, none⟩ = some (.slice none 0 0) := r11
    have K2 : W1.cell? ⟨w.heap.size, 2, none⟩ = some (.int .i64 far) := k12
    have R2 : W1.cell? ⟨w.heap.size + 1, 2, none⟩ = some (.int .i64 0) := r12
    have K3 : W1.cell? ⟨w.heap.size, 3, none⟩ = some (.slice (some ⟨bb, off, none⟩) n' c') := k13
    have R3 : W1.cell? ⟨w.heap.size + 1, 3, none⟩ = some (.slice none 0 0) := r13
    clear k10 k11 k12 k13 r10 r11 r12 r13
    have e0 := (hbW1.cell (p := ⟨bb, off + k * 4, none⟩) hbw).trans hc0
    have e1 := (hbW1.cell (p := ⟨bb, off + k * 4 + 1, none⟩) hbw).trans hc1
    have e2 := (hbW1.cell (p := ⟨bb, off + k * 4 + 2, none⟩) hbw).trans hc2
    have e3 := (hbW1.cell (p := ⟨bb, off + k * 4 + 3, none⟩) hbw).trans hc3
    have hbl : bb < W1.heap.size := Nat.lt_of_lt_of_le hbw hbW1.size
    have hneb : bb ≠ w.heap.size + 1 := by omega
    have HIN := Lib.hid (fun v (hv : Below W1.heap.size W1 v) => l7In_any (some ⟨bb, off, none⟩) n' c' ls f t d s B v hn' (h'.below ((hbW1.trans (hv.mono hbW1.size)).mono hB)) (Nat.le_trans hB (hbW1.trans (hv.mono hbW1.size)).size) (by omega) hcap.1 hcap.2)
    rw [← HUSD.out] at HIN
    have hown := fun (v : World) (hv : Below W1.heap.size W1 v) (C : Option Addr) (cd lo : Nat) (ho : OwnL v lo v.heap.size C cd us) => l7Own_any now far A (some ⟨bb, off, none⟩) C n c n' c' (n' + 1) cd is us v.heap.size v hn hus ((h.below ((hbW1.trans (hv.mono hbW1.size)).mono hB)).mono (Nat.le_trans hB (hbW1.trans (hv.mono hbW1.size)).size)) ho.lets (Nat.le_refl _) (by omega) (by omega)
    unfold NetV at hown
    simp only [hn, hus] at hown
    have HOWN := Lib.hid hown
    clear hown
    have hif := fun (v : World) (A4 A5 : Option Addr) (c4 c5 lo : Nat) (hoi : OwnI v lo v.heap.size A4 c4 is) (hol : OwnL v lo v.heap.size A5 c5 us) => l7If_any now far A4 A5 n c4 (n' + 1) c5 is us v.heap.size v hn hus hoi.ints hol.lets (Nat.le_refl _) hmus hl
    rcases hg2 : netB now is far us with _ | _
    · have HAN0 := Lib.hid (show dblA now is far ls (k : Int) = noA by rw [HS.out]; unfold ifA; rw [hg2]; rfl)
      simp only [hg2, cond_false] at hif
      have HIF := Lib.hid hif
      clear hg2 hif
      have HS0 : W1.drew.cell? ⟨w.heap.size, 0, none⟩ = some (.int .i64 now) ∧ W1.drew.cell? ⟨w.heap.size, 1, none⟩ = some (.slice A n c) ∧ W1.drew.cell? ⟨w.heap.size, 2, none⟩ = some (.int .i64 far) ∧ W1.drew.cell? ⟨w.heap.size, 3, none⟩ = some (.slice (some ⟨bb, off, none⟩) n' c') ∧ W1.drew.cell? ⟨bb, off + k * 4, none⟩ = some (.int .i64 f) ∧ W1.drew.cell? ⟨bb, off + k * 4 + 1, none⟩ = some (.int .i64 t) ∧ W1.drew.cell? ⟨bb, off + k * 4 + 2, none⟩ = some (.int .i64 d) ∧ W1.drew.cell? ⟨bb, off + k * 4 + 3, none⟩ = some (.string s) := ⟨K0, K1, K2, K3, e0, e1, e2, e3⟩
      clear h h' hn hn' hus hmus hk1 hr1 hb1 hbW1 hW1 hc0 hc1 hc2 hc3
      go_region_held3 (fun w' => w'.cell? ⟨w.heap.size, 0, none⟩ = some (.int .i64 now) ∧ w'.cell? ⟨w.heap.size, 1, none⟩ = some (.slice A n c) ∧ w'.cell? ⟨w.heap.size, 2, none⟩ = some (.int .i64 far) ∧ w'.cell? ⟨w.heap.size, 3, none⟩ = some (.slice (some ⟨bb, off, none⟩) n' c') ∧ w'.cell? ⟨bb, off + k * 4, none⟩ = some (.int .i64 f) ∧ w'.cell? ⟨bb, off + k * 4 + 1, none⟩ = some (.int .i64 t) ∧ w'.cell? ⟨bb, off + k * 4 + 2, none⟩ = some (.int .i64 d) ∧ w'.cell? ⟨bb, off + k * 4 + 3, none⟩ = some (.string s))
        (first | with_reducible exact HS0 | with_reducible exact ⟨kept2 hB1 K0 hgl, kept2 hB1 K1 hgl, kept2 hB1 K2 hgl, kept2 hB1 K3 hgl, kept2 hB1 e0 hbl, kept2 hB1 e1 hbl, kept2 hB1 e2 hbl, kept2 hB1 e3 hbl⟩ | with_reducible exact ⟨kept2 hB2 K0 hgl, kept2 hB2 K1 hgl, kept2 hB2 K2 hgl, kept2 hB2 K3 hgl, kept2 hB2 e0 hbl, kept2 hB2 e1 hbl, kept2 hB2 e2 hbl, kept2 hB2 e3 hbl⟩ | with_reducible exact ⟨kept2 hB3 K0 hgl, kept2 hB3 K1 hgl, kept2 hB3 K2 hgl, kept2 hB3 K3 hgl, kept2 hB3 e0 hbl, kept2 hB3 e1 hbl, kept2 hB3 e2 hbl, kept2 hB3 e3 hbl⟩ | with_reducible exact ⟨(put4_cell hne).trans (kept2 hB3 K0 hgl), (put4_cell hne).trans (kept2 hB3 K1 hgl), (put4_cell hne).trans (kept2 hB3 K2 hgl), (put4_cell hne).trans (kept2 hB3 K3 hgl), (put4_cell hneb).trans (kept2 hB3 e0 hbl), (put4_cell hneb).trans (kept2 hB3 e1 hbl), (put4_cell hneb).trans (kept2 hB3 e2 hbl), (put4_cell hneb).trans (kept2 hB3 e3 hbl)⟩ | fail)
        (first
          | (go_at_call 62; (with_reducible refine (HIN.out _ hbel.drew).mono ?_); rintro e v1 ⟨A3, c3, rfl, ho1, ha1⟩; have hB1 : Below W1.heap.size W1 v1 := below_d0 ha1)
          | (go_at_call 61; (with_reducible refine (HOWN.out v1 hB1 _ _ _ ho1).mono ?_); rintro e v2 ⟨A4, c4, A5, c5, rfl, hoiF, holF, ha2⟩; have hB2 : Below W1.heap.size W1 v2 := hB1.trans (ha2.mono hB1.size))
          | (go_at_call 60; (with_reducible refine (HIF.out v2 A4 A5 c4 c5 _ hoiF holF).mono ?_); rintro e v3 ⟨rfl, ha3⟩; have hB3 : Below W1.heap.size W1 v3 := hB2.trans (ha3.mono hB2.size); have y0 := kept2 hB3 R0 hrl; have z0 := keptF hB3 f10 hrl; have y1 := kept2 hB3 R1 hrl; have z1 := keptF hB3 f11 hrl; have y2 := kept2 hB3 R2 hrl; have z2 := keptF hB3 f12 hrl; have y3 := kept2 hB3 R3 hrl; have z3 := keptF hB3 f13 hrl)
          | fail)
      have hz1 := hB1.size
      have hz2 := ha2.size
      have hz3 := HBW.out.size
      have hz4 := ha3.size
      have HAN := Lib.hid (show NAPost (dblA now is far ls (k : Int)) w (.returned (.tuple #[.agg #[.int .i64 0, .slice none 0 0, .int .i64 0, .slice none 0 0], .bool false])) ((((v3.setCell ⟨w.heap.size + 1, 0, none⟩ (.int .i64 0)).setCell ⟨w.heap.size + 1, 1, none⟩ (.slice none 0 0)).setCell ⟨w.heap.size + 1, 2, none⟩ (.int .i64 0)).setCell ⟨w.heap.size + 1, 3, none⟩ (.slice none 0 0)) by
        rw [HAN0.out]
        exact noA_post (bel_put4 (HBW.out.trans (hB3.mono HBW.out.size)) (by omega)))
      clear hoiF holF hz1 hz2 hz3 hz4 hB1 hB2 hB3 HS0 ha2 ha3 HOWN HIF ho1 ha1 HIN e0 e1 e2 e3
      go_wp2
      exact bodyPost_ret (v := .tuple #[.agg #[.int .i64 0, .slice none 0 0, .int .i64 0, .slice none 0 0], .bool false]) (by simp [results, Try.results32, go_sem, y0, y1, y2, y3, z0, z1, z2, z3]) rfl HAN.out
    · have HAN0 := Lib.hid (show dblA now is far ls (k : Int) = (now, is, far, us, true) by rw [HS.out]; unfold ifA; rw [hg2]; rfl)
      simp only [hg2, cond_true] at hif
      have HIF := Lib.hid hif
      clear hg2 hif
      have HS0 : W1.drew.cell? ⟨w.heap.size, 0, none⟩ = some (.int .i64 now) ∧ W1.drew.cell? ⟨w.heap.size, 1, none⟩ = some (.slice A n c) ∧ W1.drew.cell? ⟨w.heap.size, 2, none⟩ = some (.int .i64 far) ∧ W1.drew.cell? ⟨w.heap.size, 3, none⟩ = some (.slice (some ⟨bb, off, none⟩) n' c') ∧ W1.drew.cell? ⟨bb, off + k * 4, none⟩ = some (.int .i64 f) ∧ W1.drew.cell? ⟨bb, off + k * 4 + 1, none⟩ = some (.int .i64 t) ∧ W1.drew.cell? ⟨bb, off + k * 4 + 2, none⟩ = some (.int .i64 d) ∧ W1.drew.cell? ⟨bb, off + k * 4 + 3, none⟩ = some (.string s) := ⟨K0, K1, K2, K3, e0, e1, e2, e3⟩
      clear h h' hn hn' hus hmus hk1 hr1 hb1 hbW1 hW1 hc0 hc1 hc2 hc3
      go_region_held3 (fun w' => w'.cell? ⟨w.heap.size, 0, none⟩ = some (.int .i64 now) ∧ w'.cell? ⟨w.heap.size, 1, none⟩ = some (.slice A n c) ∧ w'.cell? ⟨w.heap.size, 2, none⟩ = some (.int .i64 far) ∧ w'.cell? ⟨w.heap.size, 3, none⟩ = some (.slice (some ⟨bb, off, none⟩) n' c') ∧ w'.cell? ⟨bb, off + k * 4, none⟩ = some (.int .i64 f) ∧ w'.cell? ⟨bb, off + k * 4 + 1, none⟩ = some (.int .i64 t) ∧ w'.cell? ⟨bb, off + k * 4 + 2, none⟩ = some (.int .i64 d) ∧ w'.cell? ⟨bb, off + k * 4 + 3, none⟩ = some (.string s))
        (first | with_reducible exact HS0 | with_reducible exact ⟨kept2 hB1 K0 hgl, kept2 hB1 K1 hgl, kept2 hB1 K2 hgl, kept2 hB1 K3 hgl, kept2 hB1 e0 hbl, kept2 hB1 e1 hbl, kept2 hB1 e2 hbl, kept2 hB1 e3 hbl⟩ | with_reducible exact ⟨kept2 hB2 K0 hgl, kept2 hB2 K1 hgl, kept2 hB2 K2 hgl, kept2 hB2 K3 hgl, kept2 hB2 e0 hbl, kept2 hB2 e1 hbl, kept2 hB2 e2 hbl, kept2 hB2 e3 hbl⟩ | with_reducible exact ⟨kept2 hB3 K0 hgl, kept2 hB3 K1 hgl, kept2 hB3 K2 hgl, kept2 hB3 K3 hgl, kept2 hB3 e0 hbl, kept2 hB3 e1 hbl, kept2 hB3 e2 hbl, kept2 hB3 e3 hbl⟩ | with_reducible exact ⟨(put4_cell hne).trans (kept2 hB3 K0 hgl), (put4_cell hne).trans (kept2 hB3 K1 hgl), (put4_cell hne).trans (kept2 hB3 K2 hgl), (put4_cell hne).trans (kept2 hB3 K3 hgl), (put4_cell hneb).trans (kept2 hB3 e0 hbl), (put4_cell hneb).trans (kept2 hB3 e1 hbl), (put4_cell hneb).trans (kept2 hB3 e2 hbl), (put4_cell hneb).trans (kept2 hB3 e3 hbl)⟩ | fail)
        (first
          | (go_at_call 62; (with_reducible refine (HIN.out _ hbel.drew).mono ?_); rintro e v1 ⟨A3, c3, rfl, ho1, ha1⟩; have hB1 : Below W1.heap.size W1 v1 := below_d0 ha1)
          | (go_at_call 61; (with_reducible refine (HOWN.out v1 hB1 _ _ _ ho1).mono ?_); rintro e v2 ⟨A4, c4, A5, c5, rfl, hoiF, holF, ha2⟩; have hB2 : Below W1.heap.size W1 v2 := hB1.trans (ha2.mono hB1.size))
          | (go_at_call 60; (with_reducible refine (HIF.out v2 A4 A5 c4 c5 _ hoiF holF).mono ?_); rintro e v3 ⟨rfl, ha3⟩; have hB3 : Below W1.heap.size W1 v3 := hB2.trans (ha3.mono hB2.size); have y0 := kept2 hB3 R0 hrl; have z0 := keptF hB3 f10 hrl; have y1 := kept2 hB3 R1 hrl; have z1 := keptF hB3 f11 hrl; have y2 := kept2 hB3 R2 hrl; have z2 := keptF hB3 f12 hrl; have y3 := kept2 hB3 R3 hrl; have z3 := keptF hB3 f13 hrl)
          | fail)
      have hz1 := hB1.size
      have hz2 := ha2.size
      have hz3 := HBW.out.size
      have hz4 := ha3.size
      have HAN := Lib.hid (show NAPost (dblA now is far ls (k : Int)) w (.returned (.tuple #[.agg #[.int .i64 now, .slice A4 n c4, .int .i64 far, .slice A5 (n' + 1) c5], .bool true])) ((((v3.setCell ⟨w.heap.size + 1, 0, none⟩ (.int .i64 now)).setCell ⟨w.heap.size + 1, 1, none⟩ (.slice A4 n c4)).setCell ⟨w.heap.size + 1, 2, none⟩ (.int .i64 far)).setCell ⟨w.heap.size + 1, 3, none⟩ (.slice A5 (n' + 1) c5)) by
        rw [HAN0.out]
        exact yes_post HN.out HU.out ((OwnI.put4 (hoiF.since ha3 (Nat.le_refl _)) (by omega)).wider (by omega) (by simp [World.setCell]; omega)) ((OwnL.put4 (holF.since ha3 (Nat.le_refl _)) (by omega)).wider (by omega) (by simp [World.setCell]; omega)) (bel_put4 (HBW.out.trans (hB3.mono HBW.out.size)) (by omega)))
      clear hoiF holF hz1 hz2 hz3 hz4 hB1 hB2 hB3 HS0 ha2 ha3 HOWN HIF ho1 ha1 HIN e0 e1 e2 e3
      go_wp2
      exact bodyPost_ret (v := .tuple #[.agg #[.int .i64 now, .slice A4 n c4, .int .i64 far, .slice A5 (n' + 1) c5], .bool true]) (by simp [results, Try.results32, go_sem, y0, y1, y2, y3, z0, z1, z2, z3]) rfl HAN.out
end Go.Proofs.Ytkfphbbbidemcaa.Nt
