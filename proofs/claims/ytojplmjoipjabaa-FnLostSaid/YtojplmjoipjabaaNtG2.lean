/-
  SendTo, TickNet, NewNet of the model.
-/
import Derived.Test.YtojplmjoipjabaaNtG1
namespace Go.Proofs.Ytojplmjoipjabaa.Nt
open Go.RowKit
set_option linter.unusedVariables false
set_option linter.unusedSimpArgs false

set_option maxRecDepth 100000 in
set_option maxHeartbeats 4000000 in
theorem specSendTo_any (now far : Int) (A A' : Option Addr) (n c n' c' : Nat) (is : List Int) (ls : List (Int × Int × Int × ByteArray)) (a b : Int) (s : ByteArray) (B : Nat) (w : World) (hn : is.length = n) (hn' : ls.length = n') (h : IntsB w B A is) (h' : LetsB w B A' ls) (hB : B ≤ w.heap.size) (hm : LSmall ls) (hl : n ≤ 1048576) (hcap : n' ≤ c' ∧ c' ≤ maxLen) (hs : s.size ≤ 1048576) :
    Calls Try.prog 35 #[.agg #[.int .i64 now, .slice A n c, .int .i64 far, .slice A' n' c'], .int .i64 a, .int .i64 b, .string s] w (NAPost (sendA now is far ls a b s) w) := by
  have hb0 := below2 w (.cells #[.int .i64 now, .slice A n c, .int .i64 far, .slice A' n' c'] 35) (.cells #[.int .i64 0, .slice none 0 0, .int .i64 0, .slice none 0 0] 35)
  have hk0 : ((w.alloc (.cells #[.int .i64 now, .slice A n c, .int .i64 far, .slice A' n' c'] 35)).alloc (.cells #[.int .i64 0, .slice none 0 0, .int .i64 0, .slice none 0 0] 35)).heap[w.heap.size]? = some (.cells #[.int .i64 now, .slice A n c, .int .i64 far, .slice A' n' c'] 35 (0, 0)) := ((below1 (w.alloc (.cells #[.int .i64 now, .slice A n c, .int .i64 far, .slice A' n' c'] 35)) (.cells #[.int .i64 0, .slice none 0 0, .int .i64 0, .slice none 0 0] 35)).block w.heap.size (by simp)).trans (heap_alloc_new w (.cells #[.int .i64 now, .slice A n c, .int .i64 far, .slice A' n' c'] 35))
  have hr0 := alloc_snd w (.cells #[.int .i64 now, .slice A n c, .int .i64 far, .slice A' n' c'] 35) (.cells #[.int .i64 0, .slice none 0 0, .int .i64 0, .slice none 0 0] 35)
  have HT := Lib.hid (fun W (hW : Below w.heap.size w W) => l7Good_any now far A A' n c n' c' is ls B W hn hn' (h.below (hW.mono hB)) (h'.below (hW.mono hB)) (Nat.le_trans hB hW.size) hm hl)
  have HA := Lib.hid (fun W => l7Node_any now far A A' n c n' c' a W hl)
  have HBB := Lib.hid (fun W => l7Node_any now far A A' n c n' c' b W hl)
  cases g1 : netB now is far ls with
  | false =>
    rw [g1] at HT
    have HNA := Lib.hid (show sendA now is far ls a b s = noA by unfold sendA; rw [hn]; rw [g1]; simp)
    clear h h' hm hn hn'
    clear g1
    go_enter Try.func35, Try.ntmps35
    go_wp2_with fail
    refine (HT.out _ hb0).mono ?_
    rintro e w1 ⟨rfl, ha1⟩
    have hk1 := (ha1.block w.heap.size (lt_blk hk0)).trans hk0
    have hr1 := (ha1.block (w.heap.size + 1) (lt_blk hr0)).trans hr0
    have hb1 := hb0.trans (ha1.mono hb0.size)
    have k10 := cell_of_row _ _ 0 _ 35 (0, 0) hk1
    have k11 := cell_of_row _ _ 1 _ 35 (0, 0) hk1
    have k12 := cell_of_row _ _ 2 _ 35 (0, 0) hk1
    have k13 := cell_of_row _ _ 3 _ 35 (0, 0) hk1
    have r10 := cell_of_row _ _ 0 _ 35 (0, 0) hr1
    have f10 := free_blk hr1 0
    have r11 := cell_of_row _ _ 1 _ 35 (0, 0) hr1
    have f11 := free_blk hr1 1
    have r12 := cell_of_row _ _ 2 _ 35 (0, 0) hr1
    have f12 := free_blk hr1 2
    have r13 := cell_of_row _ _ 3 _ 35 (0, 0) hr1
    have f13 := free_blk hr1 3
    clear ha1 hk0 hr0 hb0
    have HBN := Lib.hid hb1
    clear hb1 hk1 hr1
    go_wp2
    exact bodyPost_ret (v := .tuple #[.agg #[.int .i64 0, .slice none 0 0, .int .i64 0, .slice none 0 0], .bool false]) (by simp [results, Try.results35, go_sem, r10, f10, r11, f11, r12, f12, r13, f13]) rfl (by rw [HNA.out]; exact noA_post (bel_put4 HBN.out (by omega)))
  | true =>
    rw [g1] at HT
    cases ga : nodeB n a with
    | false =>
      rw [ga] at HA
      have HNA := Lib.hid (show sendA now is far ls a b s = noA by unfold sendA; rw [hn]; rw [ga]; simp)
      clear h h' hm hn hn'
      clear g1 ga
      go_enter Try.func35, Try.ntmps35
      go_wp2_with fail
      refine (HT.out _ hb0).mono ?_
      rintro e w1 ⟨rfl, ha1⟩
      have hk1 := (ha1.block w.heap.size (lt_blk hk0)).trans hk0
      have hr1 := (ha1.block (w.heap.size + 1) (lt_blk hr0)).trans hr0
      have hb1 := hb0.trans (ha1.mono hb0.size)
      have k10 := cell_of_row _ _ 0 _ 35 (0, 0) hk1
      have k11 := cell_of_row _ _ 1 _ 35 (0, 0) hk1
      have k12 := cell_of_row _ _ 2 _ 35 (0, 0) hk1
      have k13 := cell_of_row _ _ 3 _ 35 (0, 0) hk1
      have r10 := cell_of_row _ _ 0 _ 35 (0, 0) hr1
      have f10 := free_blk hr1 0
      have r11 := cell_of_row _ _ 1 _ 35 (0, 0) hr1
      have f11 := free_blk hr1 1
      have r12 := cell_of_row _ _ 2 _ 35 (0, 0) hr1
      have f12 := free_blk hr1 2
      have r13 := cell_of_row _ _ 3 _ 35 (0, 0) hr1
      have f13 := free_blk hr1 3
      clear ha1 hk0 hr0 hb0
      go_wp2_with fail
      refine (HA.out _).mono ?_
      rintro e w2 ⟨rfl, ha2⟩
      have hk2 := (ha2.block w.heap.size (lt_blk hk1)).trans hk1
      have hr2 := (ha2.block (w.heap.size + 1) (lt_blk hr1)).trans hr1
      have hb2 := hb1.trans (ha2.mono hb1.size)
      have k20 := cell_of_row _ _ 0 _ 35 (0, 0) hk2
      have k21 := cell_of_row _ _ 1 _ 35 (0, 0) hk2
      have k22 := cell_of_row _ _ 2 _ 35 (0, 0) hk2
      have k23 := cell_of_row _ _ 3 _ 35 (0, 0) hk2
      have r20 := cell_of_row _ _ 0 _ 35 (0, 0) hr2
      have f20 := free_blk hr2 0
      have r21 := cell_of_row _ _ 1 _ 35 (0, 0) hr2
      have f21 := free_blk hr2 1
      have r22 := cell_of_row _ _ 2 _ 35 (0, 0) hr2
      have f22 := free_blk hr2 2
      have r23 := cell_of_row _ _ 3 _ 35 (0, 0) hr2
      have f23 := free_blk hr2 3
      clear ha2 hk1 hr1 hb1 k10 r10 f10 k11 r11 f11 k12 r12 f12 k13 r13 f13
      have HBN := Lib.hid hb2
      clear hb2 hk2 hr2
      go_wp2
      exact bodyPost_ret (v := .tuple #[.agg #[.int .i64 0, .slice none 0 0, .int .i64 0, .slice none 0 0], .bool false]) (by simp [results, Try.results35, go_sem, r20, f20, r21, f21, r22, f22, r23, f23]) rfl (by rw [HNA.out]; exact noA_post (bel_put4 HBN.out (by omega)))
    | true =>
      rw [ga] at HA
      cases gb : nodeB n b with
      | false =>
        rw [gb] at HBB
        have HNA := Lib.hid (show sendA now is far ls a b s = noA by unfold sendA; rw [hn]; rw [gb]; simp)
        clear h h' hm hn hn'
        clear g1 ga gb
        go_enter Try.func35, Try.ntmps35
        go_wp2_with fail
        refine (HT.out _ hb0).mono ?_
        rintro e w1 ⟨rfl, ha1⟩
        have hk1 := (ha1.block w.heap.size (lt_blk hk0)).trans hk0
        have hr1 := (ha1.block (w.heap.size + 1) (lt_blk hr0)).trans hr0
        have hb1 := hb0.trans (ha1.mono hb0.size)
        have k10 := cell_of_row _ _ 0 _ 35 (0, 0) hk1
        have k11 := cell_of_row _ _ 1 _ 35 (0, 0) hk1
        have k12 := cell_of_row _ _ 2 _ 35 (0, 0) hk1
        have k13 := cell_of_row _ _ 3 _ 35 (0, 0) hk1
        have r10 := cell_of_row _ _ 0 _ 35 (0, 0) hr1
        have f10 := free_blk hr1 0
        have r11 := cell_of_row _ _ 1 _ 35 (0, 0) hr1
        have f11 := free_blk hr1 1
        have r12 := cell_of_row _ _ 2 _ 35 (0, 0) hr1
        have f12 := free_blk hr1 2
        have r13 := cell_of_row _ _ 3 _ 35 (0, 0) hr1
        have f13 := free_blk hr1 3
        clear ha1 hk0 hr0 hb0
        go_wp2_with fail
        refine (HA.out _).mono ?_
        rintro e w2 ⟨rfl, ha2⟩
        have hk2 := (ha2.block w.heap.size (lt_blk hk1)).trans hk1
        have hr2 := (ha2.block (w.heap.size + 1) (lt_blk hr1)).trans hr1
        have hb2 := hb1.trans (ha2.mono hb1.size)
        have k20 := cell_of_row _ _ 0 _ 35 (0, 0) hk2
        have k21 := cell_of_row _ _ 1 _ 35 (0, 0) hk2
        have k22 := cell_of_row _ _ 2 _ 35 (0, 0) hk2
        have k23 := cell_of_row _ _ 3 _ 35 (0, 0) hk2
        have r20 := cell_of_row _ _ 0 _ 35 (0, 0) hr2
        have f20 := free_blk hr2 0
        have r21 := cell_of_row _ _ 1 _ 35 (0, 0) hr2
        have f21 := free_blk hr2 1
        have r22 := cell_of_row _ _ 2 _ 35 (0, 0) hr2
        have f22 := free_blk hr2 2
        have r23 := cell_of_row _ _ 3 _ 35 (0, 0) hr2
        have f23 := free_blk hr2 3
        clear ha2 hk1 hr1 hb1 k10 r10 f10 k11 r11 f11 k12 r12 f12 k13 r13 f13
        go_wp2_with fail
        refine (HBB.out _).mono ?_
        rintro e w3 ⟨rfl, ha3⟩
        have hk3 := (ha3.block w.heap.size (lt_blk hk2)).trans hk2
        have hr3 := (ha3.block (w.heap.size + 1) (lt_blk hr2)).trans hr2
        have hb3 := hb2.trans (ha3.mono hb2.size)
        have k30 := cell_of_row _ _ 0 _ 35 (0, 0) hk3
        have k31 := cell_of_row _ _ 1 _ 35 (0, 0) hk3
        have k32 := cell_of_row _ _ 2 _ 35 (0, 0) hk3
        have k33 := cell_of_row _ _ 3 _ 35 (0, 0) hk3
        have r30 := cell_of_row _ _ 0 _ 35 (0, 0) hr3
        have f30 := free_blk hr3 0
        have r31 := cell_of_row _ _ 1 _ 35 (0, 0) hr3
        have f31 := free_blk hr3 1
        have r32 := cell_of_row _ _ 2 _ 35 (0, 0) hr3
        have f32 := free_blk hr3 2
        have r33 := cell_of_row _ _ 3 _ 35 (0, 0) hr3
        have f33 := free_blk hr3 3
        clear ha3 hk2 hr2 hb2 k20 r20 f20 k21 r21 f21 k22 r22 f22 k23 r23 f23
        have HBN := Lib.hid hb3
        clear hb3 hk3 hr3
        go_wp2
        exact bodyPost_ret (v := .tuple #[.agg #[.int .i64 0, .slice none 0 0, .int .i64 0, .slice none 0 0], .bool false]) (by simp [results, Try.results35, go_sem, r30, f30, r31, f31, r32, f32, r33, f33]) rfl (by rw [HNA.out]; exact noA_post (bel_put4 HBN.out (by omega)))
      | true =>
        rw [gb] at HBB
        by_cases hab : a = b
        · have hab2 : (a == b) = true := by simpa using hab
          have HNA := Lib.hid (show sendA now is far ls a b s = noA by unfold sendA; rw [hn]; rw [if_neg (by simp [hab])])
          clear h h' hm hn hn'
          clear g1 ga gb hab
          go_enter Try.func35, Try.ntmps35
          go_wp2_with fail
          refine (HT.out _ hb0).mono ?_
          rintro e w1 ⟨rfl, ha1⟩
          have hk1 := (ha1.block w.heap.size (lt_blk hk0)).trans hk0
          have hr1 := (ha1.block (w.heap.size + 1) (lt_blk hr0)).trans hr0
          have hb1 := hb0.trans (ha1.mono hb0.size)
          have k10 := cell_of_row _ _ 0 _ 35 (0, 0) hk1
          have k11 := cell_of_row _ _ 1 _ 35 (0, 0) hk1
          have k12 := cell_of_row _ _ 2 _ 35 (0, 0) hk1
          have k13 := cell_of_row _ _ 3 _ 35 (0, 0) hk1
          have r10 := cell_of_row _ _ 0 _ 35 (0, 0) hr1
          have f10 := free_blk hr1 0
          have r11 := cell_of_row _ _ 1 _ 35 (0, 0) hr1
          have f11 := free_blk hr1 1
          have r12 := cell_of_row _ _ 2 _ 35 (0, 0) hr1
          have f12 := free_blk hr1 2
          have r13 := cell_of_row _ _ 3 _ 35 (0, 0) hr1
          have f13 := free_blk hr1 3
          clear ha1 hk0 hr0 hb0
          go_wp2_with fail
          refine (HA.out _).mono ?_
          rintro e w2 ⟨rfl, ha2⟩
          have hk2 := (ha2.block w.heap.size (lt_blk hk1)).trans hk1
          have hr2 := (ha2.block (w.heap.size + 1) (lt_blk hr1)).trans hr1
          have hb2 := hb1.trans (ha2.mono hb1.size)
          have k20 := cell_of_row _ _ 0 _ 35 (0, 0) hk2
          have k21 := cell_of_row _ _ 1 _ 35 (0, 0) hk2
          have k22 := cell_of_row _ _ 2 _ 35 (0, 0) hk2
          have k23 := cell_of_row _ _ 3 _ 35 (0, 0) hk2
          have r20 := cell_of_row _ _ 0 _ 35 (0, 0) hr2
          have f20 := free_blk hr2 0
          have r21 := cell_of_row _ _ 1 _ 35 (0, 0) hr2
          have f21 := free_blk hr2 1
          have r22 := cell_of_row _ _ 2 _ 35 (0, 0) hr2
          have f22 := free_blk hr2 2
          have r23 := cell_of_row _ _ 3 _ 35 (0, 0) hr2
          have f23 := free_blk hr2 3
          clear ha2 hk1 hr1 hb1 k10 r10 f10 k11 r11 f11 k12 r12 f12 k13 r13 f13
          go_wp2_with fail
          refine (HBB.out _).mono ?_
          rintro e w3 ⟨rfl, ha3⟩
          have hk3 := (ha3.block w.heap.size (lt_blk hk2)).trans hk2
          have hr3 := (ha3.block (w.heap.size + 1) (lt_blk hr2)).trans hr2
          have hb3 := hb2.trans (ha3.mono hb2.size)
          have k30 := cell_of_row _ _ 0 _ 35 (0, 0) hk3
          have k31 := cell_of_row _ _ 1 _ 35 (0, 0) hk3
          have k32 := cell_of_row _ _ 2 _ 35 (0, 0) hk3
          have k33 := cell_of_row _ _ 3 _ 35 (0, 0) hk3
          have r30 := cell_of_row _ _ 0 _ 35 (0, 0) hr3
          have f30 := free_blk hr3 0
          have r31 := cell_of_row _ _ 1 _ 35 (0, 0) hr3
          have f31 := free_blk hr3 1
          have r32 := cell_of_row _ _ 2 _ 35 (0, 0) hr3
          have f32 := free_blk hr3 2
          have r33 := cell_of_row _ _ 3 _ 35 (0, 0) hr3
          have f33 := free_blk hr3 3
          clear ha3 hk2 hr2 hb2 k20 r20 f20 k21 r21 f21 k22 r22 f22 k23 r23 f23
          have HBN := Lib.hid hb3
          clear hb3 hk3 hr3
          go_wp2
          exact bodyPost_ret (v := .tuple #[.agg #[.int .i64 0, .slice none 0 0, .int .i64 0, .slice none 0 0], .bool false]) (by simp [results, Try.results35, go_sem, r30, f30, r31, f31, r32, f32, r33, f33]) rfl (by rw [HNA.out]; exact noA_post (bel_put4 HBN.out (by omega)))
        have hab2 : (a == b) = false := by simpa using hab
        obtain ⟨gt, gh, gf, gl, gu⟩ := netB_true g1
        obtain ⟨gh1, gh5, ghh⟩ := homesB_true gh
        have gf2 := inB_true gf
        have gt2 := inB_true gt
        have hasc := undB_asc gu
        rw [hn'] at gl
        have ht1 := tripI_low (is := is) (a := a) (b := b) gf2.1
        have ht2 := tripI_high (a := a) (b := b) gf2.1 gf2.2 ghh
        have HS := Lib.hid (show sendA now is far ls a b s = ifA now is far (insL ls (a, b, now + tripI is far a b, s)) by unfold sendA; rw [hn, if_pos (by simp [g1, ga, gb, hab])])
        have htrp := fun (W : World) (hW : Below w.heap.size w W) => l7Trip_any now far A A' n c n' c' is a b B W hn (h.below (hW.mono hB)) (Nat.le_trans hB hW.size) gf2 ghh ga gb hl
        obtain ⟨tr, htr⟩ : ∃ tr, tr = tripI is far a b := ⟨_, rfl⟩
        rw [← htr] at HS ht1 ht2
        simp only [← htr] at htrp
        have HTRP := Lib.hid htrp
        have hus := insL_len ls (a, b, now + tr, s)
        rw [hn'] at hus
        have hmus : LSmall (insL ls (a, b, now + tr, s)) := ⟨by rw [hus]; omega, fun x hx => by
          rcases mem_insL.1 hx with rfl | hx
          · exact hs
          · exact hm.2 x hx⟩
        obtain ⟨us, husd⟩ : ∃ us, us = insL ls (a, b, now + tr, s) := ⟨_, rfl⟩
        rw [← husd] at HS hus hmus
        have HUSD := Lib.hid husd
        have HN := Lib.hid hn
        have HU := Lib.hid hus
        obtain ⟨gt3, gt4⟩ := gt2
        have hwrap : IntKind.i64.wrap (now + tr) = now + tr := by rw [IntKind.wrap_i64]; omega
        clear htrp htr husd g1 ga gb hab gt gh gf gu gh1 gh5 ghh gf2 hm hs hasc
        go_enter Try.func35, Try.ntmps35
        go_wp2_with fail
        refine (HT.out _ hb0).mono ?_
        rintro e w1 ⟨rfl, ha1⟩
        have hk1 := (ha1.block w.heap.size (lt_blk hk0)).trans hk0
        have hr1 := (ha1.block (w.heap.size + 1) (lt_blk hr0)).trans hr0
        have hb1 := hb0.trans (ha1.mono hb0.size)
        have k10 := cell_of_row _ _ 0 _ 35 (0, 0) hk1
        have k11 := cell_of_row _ _ 1 _ 35 (0, 0) hk1
        have k12 := cell_of_row _ _ 2 _ 35 (0, 0) hk1
        have k13 := cell_of_row _ _ 3 _ 35 (0, 0) hk1
        have r10 := cell_of_row _ _ 0 _ 35 (0, 0) hr1
        have f10 := free_blk hr1 0
        have r11 := cell_of_row _ _ 1 _ 35 (0, 0) hr1
        have f11 := free_blk hr1 1
        have r12 := cell_of_row _ _ 2 _ 35 (0, 0) hr1
        have f12 := free_blk hr1 2
        have r13 := cell_of_row _ _ 3 _ 35 (0, 0) hr1
        have f13 := free_blk hr1 3
        clear ha1 hk0 hr0 hb0
        go_wp2_with fail
        refine (HA.out _).mono ?_
        rintro e w2 ⟨rfl, ha2⟩
        have hk2 := (ha2.block w.heap.size (lt_blk hk1)).trans hk1
        have hr2 := (ha2.block (w.heap.size + 1) (lt_blk hr1)).trans hr1
        have hb2 := hb1.trans (ha2.mono hb1.size)
        have k20 := cell_of_row _ _ 0 _ 35 (0, 0) hk2
        have k21 := cell_of_row _ _ 1 _ 35 (0, 0) hk2
        have k22 := cell_of_row _ _ 2 _ 35 (0, 0) hk2
        have k23 := cell_of_row _ _ 3 _ 35 (0, 0) hk2
        have r20 := cell_of_row _ _ 0 _ 35 (0, 0) hr2
        have f20 := free_blk hr2 0
        have r21 := cell_of_row _ _ 1 _ 35 (0, 0) hr2
        have f21 := free_blk hr2 1
        have r22 := cell_of_row _ _ 2 _ 35 (0, 0) hr2
        have f22 := free_blk hr2 2
        have r23 := cell_of_row _ _ 3 _ 35 (0, 0) hr2
        have f23 := free_blk hr2 3
        clear ha2 hk1 hr1 hb1 k10 r10 f10 k11 r11 f11 k12 r12 f12 k13 r13 f13
        go_wp2_with fail
        refine (HBB.out _).mono ?_
        rintro e w3 ⟨rfl, ha3⟩
        have hk3 := (ha3.block w.heap.size (lt_blk hk2)).trans hk2
        have hr3 := (ha3.block (w.heap.size + 1) (lt_blk hr2)).trans hr2
        have hb3 := hb2.trans (ha3.mono hb2.size)
        have k30 := cell_of_row _ _ 0 _ 35 (0, 0) hk3
        have k31 := cell_of_row _ _ 1 _ 35 (0, 0) hk3
        have k32 := cell_of_row _ _ 2 _ 35 (0, 0) hk3
        have k33 := cell_of_row _ _ 3 _ 35 (0, 0) hk3
        have r30 := cell_of_row _ _ 0 _ 35 (0, 0) hr3
        have f30 := free_blk hr3 0
        have r31 := cell_of_row _ _ 1 _ 35 (0, 0) hr3
        have f31 := free_blk hr3 1
        have r32 := cell_of_row _ _ 2 _ 35 (0, 0) hr3
        have f32 := free_blk hr3 2
        have r33 := cell_of_row _ _ 3 _ 35 (0, 0) hr3
        have f33 := free_blk hr3 3
        clear ha3 hk2 hr2 hb2 k20 r20 f20 k21 r21 f21 k22 r22 f22 k23 r23 f23
        go_wp2_with fail
        obtain ⟨W1, hW1⟩ : ∃ W1, W1 = w3 := ⟨_, rfl⟩
        rw [← hW1] at hb3 hk3 hr3 k30 k31 k32 k33 r30 r31 r32 r33 f30 f31 f32 f33 ⊢
        have hbW1 := hb3
        have hgl := lt_blk hk3
        have hrl := lt_blk hr3
        have hne : w.heap.size ≠ w.heap.size + 1 := by omega
        have hbel := Below.refl W1.heap.size W1
        have HBW := Lib.hid hb3
        have K0 : W1.cell? ⟨w.heap.size, 0, none⟩ = some (.int .i64 now) := k30
        have R0 : W1.cell? ⟨w.heap.size + 1, 0, none⟩ = some (.int .i64 0) := r30
        have K1 : W1.cell? ⟨w.heap.size, 1, none⟩ = some (.slice A n c) := k31
        have R1 : W1.cell? ⟨w.heap.size + 1, 1, none⟩ = some (.slice none 0 0) := r31
        have K2 : W1.cell? ⟨w.heap.size, 2, none⟩ = some (.int .i64 far) := k32
        have R2 : W1.cell? ⟨w.heap.size + 1, 2, none⟩ = some (.int .i64 0) := r32
        have K3 : W1.cell? ⟨w.heap.size, 3, none⟩ = some (.slice A' n' c') := k33
        have R3 : W1.cell? ⟨w.heap.size + 1, 3, none⟩ = some (.slice none 0 0) := r33
        clear k30 k31 k32 k33 r30 r31 r32 r33
        have HTR := Lib.hid (fun v (hv : Below W1.heap.size W1 v) => HTRP.out v (hbW1.trans (hv.mono hbW1.size)))
        have HIN := Lib.hid (fun v (hv : Below W1.heap.size W1 v) => l7In_any A' n' c' ls a b (now + tr) s B v hn' (h'.below ((hbW1.trans (hv.mono hbW1.size)).mono hB)) (Nat.le_trans hB (hbW1.trans (hv.mono hbW1.size)).size) (by omega) hcap.1 hcap.2)
        rw [← HUSD.out] at HIN
        have hown := fun (v : World) (hv : Below W1.heap.size W1 v) (C : Option Addr) (cd lo : Nat) (ho : OwnL v lo v.heap.size C cd us) => l7Own_any now far A A' C n c n' c' (n' + 1) cd is us v.heap.size v hn hus ((h.below ((hbW1.trans (hv.mono hbW1.size)).mono hB)).mono (Nat.le_trans hB (hbW1.trans (hv.mono hbW1.size)).size)) ho.lets (Nat.le_refl _) (by omega) (by omega)
        unfold NetV at hown
        simp only [hn, hus] at hown
        have HOWN := Lib.hid hown
        clear hown
        have hif := fun (v : World) (A4 A5 : Option Addr) (c4 c5 lo : Nat) (hoi : OwnI v lo v.heap.size A4 c4 is) (hol : OwnL v lo v.heap.size A5 c5 us) => l7If_any now far A4 A5 n c4 (n' + 1) c5 is us v.heap.size v hn hus hoi.ints hol.lets (Nat.le_refl _) hmus hl
        rcases hg2 : netB now is far us with _ | _
        · have HAN0 := Lib.hid (show sendA now is far ls a b s = noA by rw [HS.out]; unfold ifA; rw [hg2]; rfl)
          simp only [hg2, cond_false] at hif
          have HIF := Lib.hid hif
          clear hg2 hif
          have HS0 : W1.drew.cell? ⟨w.heap.size, 0, none⟩ = some (.int .i64 now) ∧ W1.drew.cell? ⟨w.heap.size, 1, none⟩ = some (.slice A n c) ∧ W1.drew.cell? ⟨w.heap.size, 2, none⟩ = some (.int .i64 far) ∧ W1.drew.cell? ⟨w.heap.size, 3, none⟩ = some (.slice A' n' c') := ⟨K0, K1, K2, K3⟩
          clear h h' hn hn' hus hmus hk3 hr3 hb3 hbW1 hW1
          go_region_held3 (fun w' => w'.cell? ⟨w.heap.size, 0, none⟩ = some (.int .i64 now) ∧ w'.cell? ⟨w.heap.size, 1, none⟩ = some (.slice A n c) ∧ w'.cell? ⟨w.heap.size, 2, none⟩ = some (.int .i64 far) ∧ w'.cell? ⟨w.heap.size, 3, none⟩ = some (.slice A' n' c'))
            (first | with_reducible exact HS0 | with_reducible exact ⟨kept2 hB1 K0 hgl, kept2 hB1 K1 hgl, kept2 hB1 K2 hgl, kept2 hB1 K3 hgl⟩ | with_reducible exact ⟨kept2 hB2 K0 hgl, kept2 hB2 K1 hgl, kept2 hB2 K2 hgl, kept2 hB2 K3 hgl⟩ | with_reducible exact ⟨kept2 hB3 K0 hgl, kept2 hB3 K1 hgl, kept2 hB3 K2 hgl, kept2 hB3 K3 hgl⟩ | with_reducible exact ⟨kept2 hB4 K0 hgl, kept2 hB4 K1 hgl, kept2 hB4 K2 hgl, kept2 hB4 K3 hgl⟩ | with_reducible exact ⟨(put4_cell hne).trans (kept2 hB4 K0 hgl), (put4_cell hne).trans (kept2 hB4 K1 hgl), (put4_cell hne).trans (kept2 hB4 K2 hgl), (put4_cell hne).trans (kept2 hB4 K3 hgl)⟩ | fail)
            (first
              | (go_at_call 81; (with_reducible refine (HTR.out _ hbel.drew).mono ?_); rintro e v1 ⟨rfl, ha1⟩; have hB1 : Below W1.heap.size W1 v1 := below_d0 ha1)
              | (go_at_call 80; (with_reducible refine (HIN.out v1 hB1).mono ?_); rintro e v2 ⟨A3, c3, rfl, ho2, ha2⟩; have hB2 : Below W1.heap.size W1 v2 := hB1.trans (ha2.mono hB1.size))
              | (go_at_call 79; (with_reducible refine (HOWN.out v2 hB2 _ _ _ ho2).mono ?_); rintro e v3 ⟨A4, c4, A5, c5, rfl, hoiF, holF, ha3⟩; have hB3 : Below W1.heap.size W1 v3 := hB2.trans (ha3.mono hB2.size))
              | (go_at_call 78; (with_reducible refine (HIF.out v3 A4 A5 c4 c5 _ hoiF holF).mono ?_); rintro e v4 ⟨rfl, ha4⟩; have hB4 : Below W1.heap.size W1 v4 := hB3.trans (ha4.mono hB3.size); have y0 := kept2 hB4 R0 hrl; have z0 := keptF hB4 f30 hrl; have y1 := kept2 hB4 R1 hrl; have z1 := keptF hB4 f31 hrl; have y2 := kept2 hB4 R2 hrl; have z2 := keptF hB4 f32 hrl; have y3 := kept2 hB4 R3 hrl; have z3 := keptF hB4 f33 hrl)
              | fail)
          have hz1 := hB2.size
          have hz2 := ha3.size
          have hz3 := HBW.out.size
          have hz4 := ha4.size
          have HAN := Lib.hid (show NAPost (sendA now is far ls a b s) w (.returned (.tuple #[.agg #[.int .i64 0, .slice none 0 0, .int .i64 0, .slice none 0 0], .bool false])) ((((v4.setCell ⟨w.heap.size + 1, 0, none⟩ (.int .i64 0)).setCell ⟨w.heap.size + 1, 1, none⟩ (.slice none 0 0)).setCell ⟨w.heap.size + 1, 2, none⟩ (.int .i64 0)).setCell ⟨w.heap.size + 1, 3, none⟩ (.slice none 0 0)) by
            rw [HAN0.out]
            exact noA_post (bel_put4 (HBW.out.trans (hB4.mono HBW.out.size)) (by omega)))
          clear hoiF holF hz1 hz2 hz3 hz4 hB1 hB2 hB3 hB4 HS0 ha3 ha4 HOWN HIF ho2 ha1 ha2 HIN HTR HTRP
          go_wp2
          exact bodyPost_ret (v := .tuple #[.agg #[.int .i64 0, .slice none 0 0, .int .i64 0, .slice none 0 0], .bool false]) (by simp [results, Try.results35, go_sem, y0, y1, y2, y3, z0, z1, z2, z3]) rfl HAN.out
        · have HAN0 := Lib.hid (show sendA now is far ls a b s = (now, is, far, us, true) by rw [HS.out]; unfold ifA; rw [hg2]; rfl)
          simp only [hg2, cond_true] at hif
          have HIF := Lib.hid hif
          clear hg2 hif
          have HS0 : W1.drew.cell? ⟨w.heap.size, 0, none⟩ = some (.int .i64 now) ∧ W1.drew.cell? ⟨w.heap.size, 1, none⟩ = some (.slice A n c) ∧ W1.drew.cell? ⟨w.heap.size, 2, none⟩ = some (.int .i64 far) ∧ W1.drew.cell? ⟨w.heap.size, 3, none⟩ = some (.slice A' n' c') := ⟨K0, K1, K2, K3⟩
          clear h h' hn hn' hus hmus hk3 hr3 hb3 hbW1 hW1
          go_region_held3 (fun w' => w'.cell? ⟨w.heap.size, 0, none⟩ = some (.int .i64 now) ∧ w'.cell? ⟨w.heap.size, 1, none⟩ = some (.slice A n c) ∧ w'.cell? ⟨w.heap.size, 2, none⟩ = some (.int .i64 far) ∧ w'.cell? ⟨w.heap.size, 3, none⟩ = some (.slice A' n' c'))
            (first | with_reducible exact HS0 | with_reducible exact ⟨kept2 hB1 K0 hgl, kept2 hB1 K1 hgl, kept2 hB1 K2 hgl, kept2 hB1 K3 hgl⟩ | with_reducible exact ⟨kept2 hB2 K0 hgl, kept2 hB2 K1 hgl, kept2 hB2 K2 hgl, kept2 hB2 K3 hgl⟩ | with_reducible exact ⟨kept2 hB3 K0 hgl, kept2 hB3 K1 hgl, kept2 hB3 K2 hgl, kept2 hB3 K3 hgl⟩ | with_reducible exact ⟨kept2 hB4 K0 hgl, kept2 hB4 K1 hgl, kept2 hB4 K2 hgl, kept2 hB4 K3 hgl⟩ | with_reducible exact ⟨(put4_cell hne).trans (kept2 hB4 K0 hgl), (put4_cell hne).trans (kept2 hB4 K1 hgl), (put4_cell hne).trans (kept2 hB4 K2 hgl), (put4_cell hne).trans (kept2 hB4 K3 hgl)⟩ | fail)
            (first
              | (go_at_call 81; (with_reducible refine (HTR.out _ hbel.drew).mono ?_); rintro e v1 ⟨rfl, ha1⟩; have hB1 : Below W1.heap.size W1 v1 := below_d0 ha1)
              | (go_at_call 80; (with_reducible refine (HIN.out v1 hB1).mono ?_); rintro e v2 ⟨A3, c3, rfl, ho2, ha2⟩; have hB2 : Below W1.heap.size W1 v2 := hB1.trans (ha2.mono hB1.size))
              | (go_at_call 79; (with_reducible refine (HOWN.out v2 hB2 _ _ _ ho2).mono ?_); rintro e v3 ⟨A4, c4, A5, c5, rfl, hoiF, holF, ha3⟩; have hB3 : Below W1.heap.size W1 v3 := hB2.trans (ha3.mono hB2.size))
              | (go_at_call 78; (with_reducible refine (HIF.out v3 A4 A5 c4 c5 _ hoiF holF).mono ?_); rintro e v4 ⟨rfl, ha4⟩; have hB4 : Below W1.heap.size W1 v4 := hB3.trans (ha4.mono hB3.size); have y0 := kept2 hB4 R0 hrl; have z0 := keptF hB4 f30 hrl; have y1 := kept2 hB4 R1 hrl; have z1 := keptF hB4 f31 hrl; have y2 := kept2 hB4 R2 hrl; have z2 := keptF hB4 f32 hrl; have y3 := kept2 hB4 R3 hrl; have z3 := keptF hB4 f33 hrl)
              | fail)
          have hz1 := hB2.size
          have hz2 := ha3.size
          have hz3 := HBW.out.size
          have hz4 := ha4.size
          have HAN := Lib.hid (show NAPost (sendA now is far ls a b s) w (.returned (.tuple #[.agg #[.int .i64 now, .slice A4 n c4, .int .i64 far, .slice A5 (n' + 1) c5], .bool true])) ((((v4.setCell ⟨w.heap.size + 1, 0, none⟩ (.int .i64 now)).setCell ⟨w.heap.size + 1, 1, none⟩ (.slice A4 n c4)).setCell ⟨w.heap.size + 1, 2, none⟩ (.int .i64 far)).setCell ⟨w.heap.size + 1, 3, none⟩ (.slice A5 (n' + 1) c5)) by
            rw [HAN0.out]
            exact yes_post HN.out HU.out ((OwnI.put4 (hoiF.since ha4 (Nat.le_refl _)) (by omega)).wider (by omega) (by simp [World.setCell]; omega)) ((OwnL.put4 (holF.since ha4 (Nat.le_refl _)) (by omega)).wider (by omega) (by simp [World.setCell]; omega)) (bel_put4 (HBW.out.trans (hB4.mono HBW.out.size)) (by omega)))
          clear hoiF holF hz1 hz2 hz3 hz4 hB1 hB2 hB3 hB4 HS0 ha3 ha4 HOWN HIF ho2 ha1 ha2 HIN HTR HTRP
          go_wp2
          exact bodyPost_ret (v := .tuple #[.agg #[.int .i64 now, .slice A4 n c4, .int .i64 far, .slice A5 (n' + 1) c5], .bool true]) (by simp [results, Try.results35, go_sem, y0, y1, y2, y3, z0, z1, z2, z3]) rfl HAN.out

set_option maxRecDepth 100000 in
set_option maxHeartbeats 4000000 in
theorem specNewNet_any (A : Option Addr) (n c : Nat) (is : List Int) (far : Int) (B : Nat) (w : World) (hn : is.length = n) (h : IntsB w B A is) (hB : B ≤ w.heap.size) (hl : n ≤ 1048576) :
    Calls Try.prog 31 #[.slice A n c, .int .i64 far] w (NAPost (newA is far) w) := by
  have hb0 := below1 w (.cells #[.int .i64 0, .slice none 0 0, .int .i64 0, .slice none 0 0] 35)
  have hr0 := heap_alloc_new w (.cells #[.int .i64 0, .slice none 0 0, .int .i64 0, .slice none 0 0] 35)
  have hm0 : LSmall [] := ⟨by simp, by simp⟩
  have HOW := Lib.hid (fun W (hW : Below w.heap.size w W) => l1Own_any A n c is B W hn (h.below (hW.mono hB)) (Nat.le_trans hB hW.size) (by omega))
  have HG := Lib.hid (fun (W : World) (A1 : Option Addr) (c1 lo hi : Nat) (ho : OwnI W lo hi A1 c1 is) (hh : hi ≤ W.heap.size) => l7Good_any 0 far A1 none n c1 0 0 is [] W.heap.size W hn rfl (ho.ints.mono hh) (.inl rfl) (Nat.le_refl _) hm0 hl)
  have HN := Lib.hid hn
  rcases g1 : netB 0 is far [] with _ | _
  · rw [g1] at HG
    rw [newA_no g1]
    clear h hn g1
    go_enter Try.func31, Try.ntmps31
    go_wp2_with fail
    refine (HOW.out _ hb0).mono ?_
    rintro e w1 ⟨A1, c1, rfl, hoi, ha1⟩
    have hr1 := (ha1.block w.heap.size (lt_blk hr0)).trans hr0
    have hb1 := hb0.trans (ha1.mono hb0.size)
    have hz1 := ha1.size
    have hl1 := lt_blk hr1
    have haV := below1 w1 (.cells #[.int .i64 0, .slice A1 n c1, .int .i64 far, .slice none 0 0] 35)
    have hrV := (haV.block w.heap.size hl1).trans hr1
    have hoV := hoi.since haV (Nat.le_refl _)
    have HGV := Lib.hid (HG.out (w1.alloc (.cells #[.int .i64 0, .slice A1 n c1, .int .i64 far, .slice none 0 0] 35)) A1 c1 _ _ hoV haV.size)
    clear ha1 hr0
    go_wp2_with fail
    refine HGV.out.mono ?_
    rintro e w2 ⟨rfl, ha2⟩
    have hn2 := (ha2.block w1.heap.size (by simp)).trans (heap_alloc_new w1 (.cells #[.int .i64 0, .slice A1 n c1, .int .i64 far, .slice none 0 0] 35))
    have hr2 := (ha2.block w.heap.size (by simp; omega)).trans hrV
    have hb2 := hb1.trans ((haV.trans (ha2.mono haV.size)).mono hb1.size)
    have hoi2 := hoi.since (haV.trans (ha2.mono haV.size)) (Nat.le_refl _)
    have hz2 := ha2.size
    have n20 := cell_of_row _ _ 0 _ 35 (0, 0) hn2
    have n21 := cell_of_row _ _ 1 _ 35 (0, 0) hn2
    have n22 := cell_of_row _ _ 2 _ 35 (0, 0) hn2
    have n23 := cell_of_row _ _ 3 _ 35 (0, 0) hn2
    have hl2 := lt_blk hr2
    have hlz : (w.alloc (.cells #[.int .i64 0, .slice none 0 0, .int .i64 0, .slice none 0 0] 35)).heap.size = w.heap.size + 1 := by simp
    have hl3 := (haV.trans (ha2.mono haV.size)).size
    have r20 := cell_of_row _ _ 0 _ 35 (0, 0) hr2
    have f20 := free_blk hr2 0
    have r21 := cell_of_row _ _ 1 _ 35 (0, 0) hr2
    have f21 := free_blk hr2 1
    have r22 := cell_of_row _ _ 2 _ 35 (0, 0) hr2
    have f22 := free_blk hr2 2
    have r23 := cell_of_row _ _ 3 _ 35 (0, 0) hr2
    have f23 := free_blk hr2 3
    have HBN := Lib.hid hb2
    clear ha2 hr1 hb1 hrV haV hoV hoi hoi2 hb2 hr2 hn2 hlz hb0
    go_wp2
    exact bodyPost_ret (v := .tuple #[.agg #[.int .i64 0, .slice none 0 0, .int .i64 0, .slice none 0 0], .bool false]) (by simp [results, Try.results31, go_sem, r20, f20, r21, f21, r22, f22, r23, f23]) rfl (noA_post (bel_put4 HBN.out (Nat.le_refl _)))
  · rw [g1] at HG
    rw [newA_yes g1]
    clear h hn g1
    go_enter Try.func31, Try.ntmps31
    go_wp2_with fail
    refine (HOW.out _ hb0).mono ?_
    rintro e w1 ⟨A1, c1, rfl, hoi, ha1⟩
    have hr1 := (ha1.block w.heap.size (lt_blk hr0)).trans hr0
    have hb1 := hb0.trans (ha1.mono hb0.size)
    have hz1 := ha1.size
    have hl1 := lt_blk hr1
    have haV := below1 w1 (.cells #[.int .i64 0, .slice A1 n c1, .int .i64 far, .slice none 0 0] 35)
    have hrV := (haV.block w.heap.size hl1).trans hr1
    have hoV := hoi.since haV (Nat.le_refl _)
    have HGV := Lib.hid (HG.out (w1.alloc (.cells #[.int .i64 0, .slice A1 n c1, .int .i64 far, .slice none 0 0] 35)) A1 c1 _ _ hoV haV.size)
    clear ha1 hr0
    go_wp2_with fail
    refine HGV.out.mono ?_
    rintro e w2 ⟨rfl, ha2⟩
    have hn2 := (ha2.block w1.heap.size (by simp)).trans (heap_alloc_new w1 (.cells #[.int .i64 0, .slice A1 n c1, .int .i64 far, .slice none 0 0] 35))
    have hr2 := (ha2.block w.heap.size (by simp; omega)).trans hrV
    have hb2 := hb1.trans ((haV.trans (ha2.mono haV.size)).mono hb1.size)
    have hoi2 := hoi.since (haV.trans (ha2.mono haV.size)) (Nat.le_refl _)
    have hz2 := ha2.size
    have n20 := cell_of_row _ _ 0 _ 35 (0, 0) hn2
    have n21 := cell_of_row _ _ 1 _ 35 (0, 0) hn2
    have n22 := cell_of_row _ _ 2 _ 35 (0, 0) hn2
    have n23 := cell_of_row _ _ 3 _ 35 (0, 0) hn2
    have hl2 := lt_blk hr2
    have hlz : (w.alloc (.cells #[.int .i64 0, .slice none 0 0, .int .i64 0, .slice none 0 0] 35)).heap.size = w.heap.size + 1 := by simp
    have hl3 := (haV.trans (ha2.mono haV.size)).size
    have r20 := cell_of_row _ _ 0 _ 35 (0, 0) hr2
    have f20 := free_blk hr2 0
    have r21 := cell_of_row _ _ 1 _ 35 (0, 0) hr2
    have f21 := free_blk hr2 1
    have r22 := cell_of_row _ _ 2 _ 35 (0, 0) hr2
    have f22 := free_blk hr2 2
    have r23 := cell_of_row _ _ 3 _ 35 (0, 0) hr2
    have f23 := free_blk hr2 3
    have HAN := Lib.hid (show NAPost (0, is, far, [], true) w (.returned (.tuple #[.agg #[.int .i64 0, .slice A1 n c1, .int .i64 far, .slice none 0 0], .bool true])) ((((w2.setCell ⟨w.heap.size, 0, none⟩ (.int .i64 0)).setCell ⟨w.heap.size, 1, none⟩ (.slice A1 n c1)).setCell ⟨w.heap.size, 2, none⟩ (.int .i64 far)).setCell ⟨w.heap.size, 3, none⟩ (.slice none 0 0)) from
      yes_post HN.out rfl ((OwnI.put4 hoi2 (by omega)).wider (by omega) (by simp [World.setCell]; omega)) (.inl ⟨rfl, rfl, rfl⟩) (bel_put4 hb2 (Nat.le_refl _)))
    clear ha2 hr1 hb1 hrV haV hoV hoi hoi2 hb2 hr2 hn2 hlz hb0
    go_wp2
    exact bodyPost_ret (v := .tuple #[.agg #[.int .i64 0, .slice A1 n c1, .int .i64 far, .slice none 0 0], .bool true]) (by simp [results, Try.results31, go_sem, r20, f20, r21, f21, r22, f22, r23, f23]) rfl HAN.out
end Go.Proofs.Ytojplmjoipjabaa.Nt
