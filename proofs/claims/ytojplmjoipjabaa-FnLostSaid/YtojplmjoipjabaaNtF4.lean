/-
  DelayOne, NewNet of the program.
-/
import Derived.Test.YtojplmjoipjabaaNtF3
namespace Go.Proofs.Ytojplmjoipjabaa.Nt
open Go.RowKit
set_option linter.unusedVariables false
set_option linter.unusedSimpArgs false

set_option maxRecDepth 100000 in
set_option maxHeartbeats 4000000 in
theorem implDelayOne_any (now far : Int) (A A' : Option Addr) (n c n' c' : Nat) (is : List Int) (ls : List (Int × Int × Int × ByteArray)) (i by1 : Int) (B : Nat) (w : World) (hn : is.length = n) (hn' : ls.length = n') (h : IntsB w B A is) (h' : LetsB w B A' ls) (hB : B ≤ w.heap.size) (hm : LSmall ls) (hl : n ≤ 1048576) (hcap : n' ≤ c' ∧ c' ≤ maxLen) :
    Calls Try.prog 42 #[.agg #[.int .i64 now, .slice A n c, .int .i64 far, .slice A' n' c'], .int .i64 i, .int .i64 by1] w (NAPost (dlyA now is far ls i by1) w) := by
  have hb0 := below2 w (.cells #[.int .i64 now, .slice A n c, .int .i64 far, .slice A' n' c'] 35) (.cells #[.int .i64 0, .slice none 0 0, .int .i64 0, .slice none 0 0] 35)
  have hk0 : ((w.alloc (.cells #[.int .i64 now, .slice A n c, .int .i64 far, .slice A' n' c'] 35)).alloc (.cells #[.int .i64 0, .slice none 0 0, .int .i64 0, .slice none 0 0] 35)).heap[w.heap.size]? = some (.cells #[.int .i64 now, .slice A n c, .int .i64 far, .slice A' n' c'] 35 (0, 0)) := ((below1 (w.alloc (.cells #[.int .i64 now, .slice A n c, .int .i64 far, .slice A' n' c'] 35)) (.cells #[.int .i64 0, .slice none 0 0, .int .i64 0, .slice none 0 0] 35)).block w.heap.size (by simp)).trans (heap_alloc_new w (.cells #[.int .i64 now, .slice A n c, .int .i64 far, .slice A' n' c'] 35))
  have hr0 := alloc_snd w (.cells #[.int .i64 now, .slice A n c, .int .i64 far, .slice A' n' c'] 35) (.cells #[.int .i64 0, .slice none 0 0, .int .i64 0, .slice none 0 0] 35)
  have HT := Lib.hid (fun W (hW : Below w.heap.size w W) => hasLetter_any now far A A' n c n' c' is ls i B W hn hn' (h.below (hW.mono hB)) (h'.below (hW.mono hB)) (Nat.le_trans hB hW.size) hm hl)
  have hcn := fun W (hW : Below w.heap.size w W) => copyNet_any now far A A' n c n' c' is ls B W hn hn' (h.below (hW.mono hB)) (h'.below (hW.mono hB)) (Nat.le_trans hB hW.size) (by omega) (by rw [← hn']; exact hm.1)
  unfold NetV at hcn
  simp only [hn, hn'] at hcn
  have HCN := Lib.hid hcn
  clear hcn
  cases hg1 : hasB now is far ls i with
  | false =>
    rw [hg1] at HT
    have HNA := Lib.hid (show dlyA now is far ls i by1 = noA by unfold dlyA; rw [hg1]; simp)
    clear h h' hm hn hn' hg1 HCN
    go_enter Try.func42, Try.ntmps42
    go_wp2_with fail
    refine (HT.out _ hb0).mono ?_
    rintro e w1 ⟨rfl, ha1⟩
    have hk1 := (ha1.block w.heap.size (lt_blk hk0)).trans hk0
    have hr1 := (ha1.block (w.heap.size + 1) (lt_blk hr0)).trans hr0
    have hb1 := hb0.trans (ha1.mono hb0.size)
    have k10 := cell_of_row _ _ 0 _ 35 (0, 0) hk1
    have k11 := cell_of_row _ _ 1 _ 35 (0, 0) hk1
    have k12 := cell_of_row _ _ 2 _ 35 (0, 0) hk1
    have k13 := cell_of_row _ _ 3 _ 35 (0, 0) hk1
    have r10 := cell_of_row _ _ 0 _ 35 (0, 0) hr1
    have f10 := free_blk hr1 0
    have r11 := cell_of_row _ _ 1 _ 35 (0, 0) hr1
    have f11 := free_blk hr1 1
    have r12 := cell_of_row _ _ 2 _ 35 (0, 0) hr1
    have f12 := free_blk hr1 2
    have r13 := cell_of_row _ _ 3 _ 35 (0, 0) hr1
    have f13 := free_blk hr1 3
    clear ha1 hk0 hr0 hb0
    have HBN := Lib.hid hb1
    clear hb1 hk1 hr1
    go_wp2
    exact bodyPost_ret (v := .tuple #[.agg #[.int .i64 0, .slice none 0 0, .int .i64 0, .slice none 0 0], .bool false]) (by simp [results, Try.results42, go_sem, r10, f10, r11, f11, r12, f12, r13, f13]) rfl (by rw [HNA.out]; exact noA_post (bel_put4 HBN.out (by omega)))
  | true =>
    rw [hg1] at HT
    by_cases hby : 1 ≤ by1 ∧ by1 ≤ 50
    · obtain ⟨hby1, hby2⟩ := hby
      obtain ⟨g1, hi0, hi1⟩ := hasB_true hg1
      obtain ⟨gt, gh, gf, gl, gu⟩ := netB_true g1
      obtain ⟨gh1, gh5, ghh⟩ := homesB_true gh
      have gf2 := inB_true gf
      have gt2 := inB_true gt
      have hasc := undB_asc gu
      rw [hn'] at gl
      rw [hn'] at hi1
      obtain ⟨k, rfl⟩ : ∃ k : Nat, i = (k : Int) := ⟨i.toNat, by omega⟩
      have hkn : k < n' := by omega
      obtain ⟨bb, off, hA', hbB, hcl⟩ := h'.get (by omega)
      obtain ⟨hc0, hc1, hc2, hc3⟩ := hcl k (by omega)
      have hlet := letAt_get (show k < ls.length by omega)
      have hsm := hm.2 _ (List.getElem_mem (show k < ls.length by omega))
      have hglb := (undB_low gu _ (List.getElem_mem (show k < ls.length by omega))).2
      have hgp := glB_parts hglb
      obtain ⟨y, hy⟩ : ∃ y, y = ls[k]'(by omega) := ⟨_, rfl⟩
      rw [← hy] at hc0 hc1 hc2 hc3 hlet hsm hgp
      obtain ⟨f, t, d, s⟩ := y
      simp only at hc0 hc1 hc2 hc3 hsm hgp
      have hbw : bb < w.heap.size := Nat.lt_of_lt_of_le hbB hB
      have hki : (k : Int) < (n' : Int) := by omega
      subst hA'
      have HS := Lib.hid (show dlyA now is far ls (k : Int) by1 = ifA now is far (insL (ls.take k ++ ls.drop (k + 1)) (f, t, d + by1, s)) by unfold dlyA; rw [hg1, inB_mk ⟨hby1, hby2⟩]; simp only [Bool.and_self, if_true]; rw [hlet]; rfl)
      have hus := outL_len ls k (by omega)
      unfold outL at hus
      have husc : Asc (ls.take k ++ ls.drop (k + 1)) := outL_asc hasc k
      have husm : ∀ x ∈ ls.take k ++ ls.drop (k + 1), x ∈ ls := fun x hx => mem_outL (ls := ls) (i := k) hx
      have hdrop : (ls.drop k).take (k + 1 - k) = [(f, t, d, s)] := by rw [drop_one (by omega), hy]
      obtain ⟨us, husd⟩ : ∃ us, us = ls.take k ++ ls.drop (k + 1) := ⟨_, rfl⟩
      rw [← husd] at HS hus husc husm
      have HUSD := Lib.hid husd
      have hu1 : us.length = n' - 1 := by omega
      have hvs := insL_len us (f, t, d + by1, s)
      rw [hu1, show n' - 1 + 1 = n' by omega] at hvs
      have hmvs : LSmall (insL us (f, t, d + by1, s)) := ⟨by rw [hvs]; omega, fun x hx => by
        rcases mem_insL.1 hx with rfl | hx
        · exact hsm
        · exact hm.2 x (husm x hx)⟩
      obtain ⟨vs, hvsd⟩ : ∃ vs, vs = insL us (f, t, d + by1, s) := ⟨_, rfl⟩
      rw [← hvsd] at HS hvs hmvs
      have HVSD := Lib.hid hvsd
      have hd0 := hgp.2.2.2.1
      have hd1 := hgp.2.2.2.2.1
      clear hvsd husd husm hus g1 gt gh gf gu gh1 gh5 ghh gf2 gt2 h h' hm hg1 hlet hy hcl hgp hglb hc0 hc1 hc2 hc3 hsm hasc
      go_enter Try.func42, Try.ntmps42
      go_wp2_with fail
      refine (HT.out _ hb0).mono ?_
      rintro e w1 ⟨rfl, ha1⟩
      have hk1 := (ha1.block w.heap.size (lt_blk hk0)).trans hk0
      have hr1 := (ha1.block (w.heap.size + 1) (lt_blk hr0)).trans hr0
      have hb1 := hb0.trans (ha1.mono hb0.size)
      have k10 := cell_of_row _ _ 0 _ 35 (0, 0) hk1
      have k11 := cell_of_row _ _ 1 _ 35 (0, 0) hk1
      have k12 := cell_of_row _ _ 2 _ 35 (0, 0) hk1
      have k13 := cell_of_row _ _ 3 _ 35 (0, 0) hk1
      have r10 := cell_of_row _ _ 0 _ 35 (0, 0) hr1
      have f10 := free_blk hr1 0
      have r11 := cell_of_row _ _ 1 _ 35 (0, 0) hr1
      have f11 := free_blk hr1 1
      have r12 := cell_of_row _ _ 2 _ 35 (0, 0) hr1
      have f12 := free_blk hr1 2
      have r13 := cell_of_row _ _ 3 _ 35 (0, 0) hr1
      have f13 := free_blk hr1 3
      clear ha1 hk0 hr0 hb0
      go_wp2_with fail
      refine (HCN.out _ hb1).mono ?_
      rintro e w2 ⟨A1, c1, A2, c2, rfl, hoi, hol, ha2⟩
      have hk2 := (ha2.block w.heap.size (lt_blk hk1)).trans hk1
      have hr2 := (ha2.block (w.heap.size + 1) (lt_blk hr1)).trans hr1
      have hb2 := hb1.trans (ha2.mono hb1.size)
      have hl1 := lt_blk hr1
      have hl2 := lt_blk hr2
      have hkl2 := lt_blk hk2
      have hsz2 := ha2.size
      have k20 := cell_of_row _ _ 0 _ 35 (0, 0) hk2
      have k21 := cell_of_row _ _ 1 _ 35 (0, 0) hk2
      have k22 := cell_of_row _ _ 2 _ 35 (0, 0) hk2
      have k23 := cell_of_row _ _ 3 _ 35 (0, 0) hk2
      have r20 := cell_of_row _ _ 0 _ 35 (0, 0) hr2
      have f20 := free_blk hr2 0
      have r21 := cell_of_row _ _ 1 _ 35 (0, 0) hr2
      have f21 := free_blk hr2 1
      have r22 := cell_of_row _ _ 2 _ 35 (0, 0) hr2
      have f22 := free_blk hr2 2
      have r23 := cell_of_row _ _ 3 _ 35 (0, 0) hr2
      have f23 := free_blk hr2 3
      clear ha2 hk1 hr1 hb1 k10 k11 k12 k13 r10 r11 r12 r13 f10 f11 f12 f13
      go_wp2_with fail
      obtain ⟨V, hV⟩ : ∃ V, V = w2.alloc (.cells #[.int .i64 now, .slice A1 n c1, .int .i64 far, .slice A2 n' c2] 35) := ⟨_, rfl⟩
      have haV := below1 w2 (.cells #[.int .i64 now, .slice A1 n c1, .int .i64 far, .slice A2 n' c2] 35)
      have hsV := heap_alloc_new w2 (.cells #[.int .i64 now, .slice A1 n c1, .int .i64 far, .slice A2 n' c2] 35)
      rw [← hV] at haV hsV ⊢
      have hkV := (haV.block w.heap.size (lt_blk hk2)).trans hk2
      have hrV := (haV.block (w.heap.size + 1) (lt_blk hr2)).trans hr2
      have hbV := hb2.trans (haV.mono hb2.size)
      have hoiV := hoi.since haV (Nat.le_refl _)
      have holV := hol.since haV (Nat.le_refl _)
      have hszV : V.heap.size = w2.heap.size + 1 := by rw [hV]; simp
      have HZV := Lib.hid hszV
      clear hV haV hoi hol hszV hk2 hr2 hb2 k20 k21 k22 k23 r20 r21 r22 r23 f20 f21 f22 f23
      have hlw : w.heap.size + 1 < w1.heap.size := hl1
      have HTK := Lib.hid (takeLetters_any w2.heap.size n' c2 w1.heap.size w2.heap.size k (k + 1) A2 _ _ _ ls V hn' hsV holV (Nat.le_refl _) (by omega) (by omega) (by omega))
      rw [show ((k + 1 : Nat) : Int) = (k : Int) + 1 by omega, hdrop, ← HUSD.out] at HTK
      refine HTK.out.mono ?_
      rintro e w3 ⟨A3, c3, rfl, ho4, hs3, ho3, ht3⟩
      rw [hu1] at hs3
      have hZ := HZV.out
      have hrow3 := fun x hx => own_range holV x hx
      have hk3 := ht3.blk hkV (by omega) (fun x hx => by have := (hrow3 x hx).1; omega)
      have hr3 := ht3.blk hrV (by omega) (fun x hx => by have := (hrow3 x hx).1; omega)
      have hoi3 := ht3.ints hoiV holV (Nat.le_refl _)
      have hb3 := hbV.trans (ht3.below (by omega) (fun x hx => by have := (hrow3 x hx).1; omega) hbV.size)
      have hzz3 := ht3.2.2.2.1
      have q30 := cell_of_row _ _ 0 _ 35 (0, 0) hs3
      have g30 := free_blk hs3 0
      have q31 := cell_of_row _ _ 1 _ 35 (0, 0) hs3
      have g31 := free_blk hs3 1
      have q32 := cell_of_row _ _ 2 _ 35 (0, 0) hs3
      have g32 := free_blk hs3 2
      have q33 := cell_of_row _ _ 3 _ 35 (0, 0) hs3
      have g33 := free_blk hs3 3
      have r30 := cell_of_row _ _ 0 _ 35 (0, 0) hr3
      have f30 := free_blk hr3 0
      have r31 := cell_of_row _ _ 1 _ 35 (0, 0) hr3
      have f31 := free_blk hr3 1
      have r32 := cell_of_row _ _ 2 _ 35 (0, 0) hr3
      have f32 := free_blk hr3 2
      have r33 := cell_of_row _ _ 3 _ 35 (0, 0) hr3
      have f33 := free_blk hr3 3
      have k30 := cell_of_row _ _ 0 _ 35 (0, 0) hk3
      have k31 := cell_of_row _ _ 1 _ 35 (0, 0) hk3
      have k32 := cell_of_row _ _ 2 _ 35 (0, 0) hk3
      have k33 := cell_of_row _ _ 3 _ 35 (0, 0) hk3
      obtain ⟨b4, o4, hA4, hb4, hc4⟩ := ho4.lets.get (by simp)
      obtain ⟨e0, e1, e2, e3⟩ := hc4 0 (by simp)
      simp only [Nat.zero_mul, Nat.add_zero, List.getElem_cons_zero] at e0 e1 e2 e3
      subst hA4
      have hl3 := lt_blk hr3
      have hkl3 := lt_blk hk3
      have hw3 : w2.heap.size < w3.heap.size := lt_blk hs3
      simp only [List.length_singleton]
      have HS3 := Lib.hid hs3
      have HK3 := Lib.hid hk3
      have HR3 := Lib.hid hr3
      have HB3 := Lib.hid hb3
      have HOI3 := Lib.hid hoi3
      have HO3 := Lib.hid ho3
      clear hs3 hk3 hr3 hb3 hoi3 ho3 ho4 ht3 hrow3 hzz3 hkV hrV hsV hbV hoiV holV hc4
      go_wp2_with fail
      obtain ⟨V2, hV2⟩ : ∃ V2, V2 = w3.alloc (.cells #[.int .i64 f, .int .i64 t, .int .i64 (d + by1), .string s] 66) := ⟨_, rfl⟩
      have haV2 := below1 w3 (.cells #[.int .i64 f, .int .i64 t, .int .i64 (d + by1), .string s] 66)
      rw [← hV2] at haV2 ⊢
      have hsV2 := (haV2.block w2.heap.size hw3).trans HS3.out
      have hkV2 := (haV2.block w.heap.size hkl3).trans HK3.out
      have hrV2 := (haV2.block (w.heap.size + 1) hl3).trans HR3.out
      have hoiV2 := HOI3.out.since haV2 (by omega)
      have holV2 := HO3.out.since haV2 (by omega)
      have hbV2 := HB3.out.trans (haV2.mono HB3.out.size)
      have hzV2 : V2.heap.size = w3.heap.size + 1 := by rw [hV2]; simp
      clear hV2 haV2 q30 q31 q32 q33 g30 g31 g32 g33 r30 r31 r32 r33 f30 f31 f32 f33 k30 k31 k32 k33 e0 e1 e2 e3 hdrop HTK
      refine (addLetter_any w2.heap.size A2 (n' - 1) c2 w1.heap.size w2.heap.size _ _ _ us f t (d + by1) s V2 hu1 hsV2 holV2 (Nat.le_refl _) hsz2 husc (by omega)).mono ?_
      rw [← HVSD.out]
      rintro e w5 ⟨A5, c5, rfl, hs5, ho5, ht5⟩
      rw [hvs] at hs5
      have hrow5 := fun x hx => own_range holV2 x hx
      have hk5 := ht5.blk hkV2 (by omega) (fun x hx => by have := (hrow5 x hx).1; omega)
      have hr5 := ht5.blk hrV2 (by omega) (fun x hx => by have := (hrow5 x hx).1; omega)
      have hoi5 := ht5.ints hoiV2 holV2 (Nat.le_refl _)
      have hb5 := hbV2.trans (ht5.below (by omega) (fun x hx => by have := (hrow5 x hx).1; omega) hbV2.size)
      have hzz5 := ht5.2.2.2.1
      have HOG := Lib.hid (onlyGood_any now far A1 A5 n c1 (n') c5 is vs w5.heap.size w5 hn hvs (hoi5.ints.mono (by omega)) (ho5.lets.mono (by omega)) (Nat.le_refl _) hmvs hl)
      have HOI := Lib.hid hoi5
      have HOL := Lib.hid ho5
      have q50 := cell_of_row _ _ 0 _ 35 (0, 0) hs5
      have g50 := free_blk hs5 0
      have q51 := cell_of_row _ _ 1 _ 35 (0, 0) hs5
      have g51 := free_blk hs5 1
      have q52 := cell_of_row _ _ 2 _ 35 (0, 0) hs5
      have g52 := free_blk hs5 2
      have q53 := cell_of_row _ _ 3 _ 35 (0, 0) hs5
      have g53 := free_blk hs5 3
      have r50 := cell_of_row _ _ 0 _ 35 (0, 0) hr5
      have f50 := free_blk hr5 0
      have r51 := cell_of_row _ _ 1 _ 35 (0, 0) hr5
      have f51 := free_blk hr5 1
      have r52 := cell_of_row _ _ 2 _ 35 (0, 0) hr5
      have f52 := free_blk hr5 2
      have r53 := cell_of_row _ _ 3 _ 35 (0, 0) hr5
      have f53 := free_blk hr5 3
      have k50 := cell_of_row _ _ 0 _ 35 (0, 0) hk5
      have k51 := cell_of_row _ _ 1 _ 35 (0, 0) hk5
      have k52 := cell_of_row _ _ 2 _ 35 (0, 0) hk5
      have k53 := cell_of_row _ _ 3 _ 35 (0, 0) hk5
      have HN := Lib.hid hn
      have HU := Lib.hid hvs
      have HZI := Lib.hid (show w2.heap.size ≤ w5.heap.size ∧ w5.heap.size ≤ w5.heap.size by constructor <;> omega)
      have HKR := Lib.hid (show w.heap.size + 1 < w1.heap.size ∧ w.heap.size + 1 < w1.heap.size by constructor <;> omega)
      have HBI := Lib.hid hb5
      have HRI := Lib.hid hr5
      have HW0 := Lib.hid (Nat.le_of_lt (lt_blk hr5))
      rcases hg2 : netB now is far vs with _ | _
      · have HAN := Lib.hid (show dlyA now is far ls (k : Int) by1 = noA by rw [HS.out]; unfold ifA; rw [hg2]; rfl)
        rw [hg2] at HOG
        simp only [cond_false] at HOG
        clear hg2
        clear hs5 hk5 hr5 hb5 hoi5 ho5 ht5 hrow5 hzz5 hkV2 hrV2 hsV2 hbV2 hoiV2 holV2 hu1 hvs hmvs husc hn hn' hZ hlw hsz2 hzV2
        go_wp2_with fail
        refine HOG.out.mono ?_
        rintro e w6 ⟨rfl, ha6⟩
        have hr6 := (ha6.block (w.heap.size + 1) (lt_blk HRI.out)).trans HRI.out
        have HBJ := Lib.hid (HBI.out.trans (ha6.mono HBI.out.size))
        have HOI2 := Lib.hid (HOI.out.since ha6 HZI.out.1)
        have HOL2 := Lib.hid (HOL.out.since ha6 HZI.out.2)
        have HSZ := Lib.hid ha6.size
        have r60 := cell_of_row _ _ 0 _ 35 (0, 0) hr6
        have f60 := free_blk hr6 0
        have r61 := cell_of_row _ _ 1 _ 35 (0, 0) hr6
        have f61 := free_blk hr6 1
        have r62 := cell_of_row _ _ 2 _ 35 (0, 0) hr6
        have f62 := free_blk hr6 2
        have r63 := cell_of_row _ _ 3 _ 35 (0, 0) hr6
        have f63 := free_blk hr6 3
        clear ha6 r50 r51 r52 r53 f50 f51 f52 f53
        go_wp2
        exact bodyPost_ret (v := .tuple #[.agg #[.int .i64 0, .slice none 0 0, .int .i64 0, .slice none 0 0], .bool false]) (by simp [results, Try.results42, go_sem, r60, f60, r61, f61, r62, f62, r63, f63]) rfl (by rw [HAN.out]; exact noA_post (bel_put4 HBJ.out (by omega)))
      · have HAN := Lib.hid (show dlyA now is far ls (k : Int) by1 = (now, is, far, vs, true) by rw [HS.out]; unfold ifA; rw [hg2]; rfl)
        rw [hg2] at HOG
        simp only [cond_true] at HOG
        clear hg2
        clear hs5 hk5 hr5 hb5 hoi5 ho5 ht5 hrow5 hzz5 hkV2 hrV2 hsV2 hbV2 hoiV2 holV2 hu1 hvs hmvs husc hn hn' hZ hlw hsz2 hzV2
        go_wp2_with fail
        refine HOG.out.mono ?_
        rintro e w6 ⟨rfl, ha6⟩
        have hr6 := (ha6.block (w.heap.size + 1) (lt_blk HRI.out)).trans HRI.out
        have HBJ := Lib.hid (HBI.out.trans (ha6.mono HBI.out.size))
        have HOI2 := Lib.hid (HOI.out.since ha6 HZI.out.1)
        have HOL2 := Lib.hid (HOL.out.since ha6 HZI.out.2)
        have HSZ := Lib.hid ha6.size
        have r60 := cell_of_row _ _ 0 _ 35 (0, 0) hr6
        have f60 := free_blk hr6 0
        have r61 := cell_of_row _ _ 1 _ 35 (0, 0) hr6
        have f61 := free_blk hr6 1
        have r62 := cell_of_row _ _ 2 _ 35 (0, 0) hr6
        have f62 := free_blk hr6 2
        have r63 := cell_of_row _ _ 3 _ 35 (0, 0) hr6
        have f63 := free_blk hr6 3
        clear ha6 r50 r51 r52 r53 f50 f51 f52 f53
        go_wp2
        exact bodyPost_ret (v := .tuple #[.agg #[.int .i64 now, .slice A1 n c1, .int .i64 far, .slice A5 (n') c5], .bool true]) (by simp [results, Try.results42, go_sem, r60, f60, r61, f61, r62, f62, r63, f63]) rfl (by
          rw [HAN.out]
          have hz := HSZ.out
          have hz1 := HZI.out
          have hz2 := HKR.out
          exact yes_post HN.out HU.out ((OwnI.put4 HOI2.out (by omega)).wider (by omega) (by simp [World.setCell]; omega)) ((OwnL.put4 HOL2.out (by omega)).wider (by omega) (by simp [World.setCell]; omega)) (bel_put4 HBJ.out (by omega)))
    · have HNA := Lib.hid (show dlyA now is far ls i by1 = noA by unfold dlyA; rw [hg1, inB_not hby]; simp)
      by_cases hby1 : 1 ≤ by1
      · have hby2 : decide (50 < by1) = true := by simp; omega
        clear h h' hm hn hn' hg1 HCN hby
        go_enter Try.func42, Try.ntmps42
        go_wp2_with fail
        refine (HT.out _ hb0).mono ?_
        rintro e w1 ⟨rfl, ha1⟩
        have hk1 := (ha1.block w.heap.size (lt_blk hk0)).trans hk0
        have hr1 := (ha1.block (w.heap.size + 1) (lt_blk hr0)).trans hr0
        have hb1 := hb0.trans (ha1.mono hb0.size)
        have k10 := cell_of_row _ _ 0 _ 35 (0, 0) hk1
        have k11 := cell_of_row _ _ 1 _ 35 (0, 0) hk1
        have k12 := cell_of_row _ _ 2 _ 35 (0, 0) hk1
        have k13 := cell_of_row _ _ 3 _ 35 (0, 0) hk1
        have r10 := cell_of_row _ _ 0 _ 35 (0, 0) hr1
        have f10 := free_blk hr1 0
        have r11 := cell_of_row _ _ 1 _ 35 (0, 0) hr1
        have f11 := free_blk hr1 1
        have r12 := cell_of_row _ _ 2 _ 35 (0, 0) hr1
        have f12 := free_blk hr1 2
        have r13 := cell_of_row _ _ 3 _ 35 (0, 0) hr1
        have f13 := free_blk hr1 3
        clear ha1 hk0 hr0 hb0
        have HBN := Lib.hid hb1
        clear hb1 hk1 hr1
        go_wp2
        exact bodyPost_ret (v := .tuple #[.agg #[.int .i64 0, .slice none 0 0, .int .i64 0, .slice none 0 0], .bool false]) (by simp [results, Try.results42, go_sem, r10, f10, r11, f11, r12, f12, r13, f13]) rfl (by rw [HNA.out]; exact noA_post (bel_put4 HBN.out (by omega)))
      · have hby2 : decide (by1 < 1) = true := by simp; omega
        clear h h' hm hn hn' hg1 HCN hby hby1
        go_enter Try.func42, Try.ntmps42
        go_wp2_with fail
        refine (HT.out _ hb0).mono ?_
        rintro e w1 ⟨rfl, ha1⟩
        have hk1 := (ha1.block w.heap.size (lt_blk hk0)).trans hk0
        have hr1 := (ha1.block (w.heap.size + 1) (lt_blk hr0)).trans hr0
        have hb1 := hb0.trans (ha1.mono hb0.size)
        have k10 := cell_of_row _ _ 0 _ 35 (0, 0) hk1
        have k11 := cell_of_row _ _ 1 _ 35 (0, 0) hk1
        have k12 := cell_of_row _ _ 2 _ 35 (0, 0) hk1
        have k13 := cell_of_row _ _ 3 _ 35 (0, 0) hk1
        have r10 := cell_of_row _ _ 0 _ 35 (0, 0) hr1
        have f10 := free_blk hr1 0
        have r11 := cell_of_row _ _ 1 _ 35 (0, 0) hr1
        have f11 := free_blk hr1 1
        have r12 := cell_of_row _ _ 2 _ 35 (0, 0) hr1
        have f12 := free_blk hr1 2
        have r13 := cell_of_row _ _ 3 _ 35 (0, 0) hr1
        have f13 := free_blk hr1 3
        clear ha1 hk0 hr0 hb0
        have HBN := Lib.hid hb1
        clear hb1 hk1 hr1
        go_wp2
        exact bodyPost_ret (v := .tuple #[.agg #[.int .i64 0, .slice none 0 0, .int .i64 0, .slice none 0 0], .bool false]) (by simp [results, Try.results42, go_sem, r10, f10, r11, f11, r12, f12, r13, f13]) rfl (by rw [HNA.out]; exact noA_post (bel_put4 HBN.out (by omega)))

def newA (is : List Int) (far : Int) : Int × List Int × Int × List (Int × Int × Int × ByteArray) × Bool := ifA 0 is far []
theorem newA_no {is : List Int} {far : Int} (h : netB 0 is far [] = false) : newA is far = noA := by unfold newA ifA; rw [h]; rfl
theorem newA_yes {is : List Int} {far : Int} (h : netB 0 is far [] = true) : newA is far = (0, is, far, [], true) := by unfold newA ifA; rw [h]; rfl
set_option maxRecDepth 100000 in
set_option maxHeartbeats 4000000 in
theorem implNewNet_any (A : Option Addr) (n c : Nat) (is : List Int) (far : Int) (B : Nat) (w : World) (hn : is.length = n) (h : IntsB w B A is) (hB : B ≤ w.heap.size) (hl : n ≤ 1048576) :
    Calls Try.prog 30 #[.slice A n c, .int .i64 far] w (NAPost (newA is far) w) := by
  have hb0 := below2 w (.cells #[.int .i64 0, .slice none 0 0, .int .i64 0, .slice none 0 0] 35) (.cells #[.int .i64 0, .slice A n c, .int .i64 far, .slice none 0 0] 35)
  have hr0 : ((w.alloc (.cells #[.int .i64 0, .slice none 0 0, .int .i64 0, .slice none 0 0] 35)).alloc (.cells #[.int .i64 0, .slice A n c, .int .i64 far, .slice none 0 0] 35)).heap[w.heap.size]? = some (.cells #[.int .i64 0, .slice none 0 0, .int .i64 0, .slice none 0 0] 35 (0, 0)) := ((below1 (w.alloc (.cells #[.int .i64 0, .slice none 0 0, .int .i64 0, .slice none 0 0] 35)) (.cells #[.int .i64 0, .slice A n c, .int .i64 far, .slice none 0 0] 35)).block w.heap.size (by simp)).trans (heap_alloc_new w (.cells #[.int .i64 0, .slice none 0 0, .int .i64 0, .slice none 0 0] 35))
  have hk0 := alloc_snd w (.cells #[.int .i64 0, .slice none 0 0, .int .i64 0, .slice none 0 0] 35) (.cells #[.int .i64 0, .slice A n c, .int .i64 far, .slice none 0 0] 35)
  have hm0 : LSmall [] := ⟨by simp, by simp⟩
  have HT := Lib.hid (fun W (hW : Below w.heap.size w W) => implGoodNet_any 0 far A none n c 0 0 is [] B W hn rfl (h.below (hW.mono hB)) (.inl rfl) (Nat.le_trans hB hW.size) hm0)
  have hcn := fun W (hW : Below w.heap.size w W) => copyNet_any 0 far A none n c 0 0 is [] B W hn rfl (h.below (hW.mono hB)) (.inl rfl) (Nat.le_trans hB hW.size) (by omega) (by omega)
  unfold NetV at hcn
  simp only [hn, List.length_nil] at hcn
  have HCN := Lib.hid hcn
  clear hcn
  cases g1 : netB 0 is far [] with
  | false =>
    rw [g1] at HT
    rw [newA_no g1]
    clear h hn g1 HCN
    go_enter Try.func30, Try.ntmps30
    go_wp2_with fail
    refine (HT.out _ hb0).mono ?_
    rintro e w1 ⟨rfl, ha1⟩
    have hr1 := (ha1.block w.heap.size (lt_blk hr0)).trans hr0
    have HBN := Lib.hid (hb0.trans (ha1.mono hb0.size))
    have r10 := cell_of_row _ _ 0 _ 35 (0, 0) hr1
    have f10 := free_blk hr1 0
    have r11 := cell_of_row _ _ 1 _ 35 (0, 0) hr1
    have f11 := free_blk hr1 1
    have r12 := cell_of_row _ _ 2 _ 35 (0, 0) hr1
    have f12 := free_blk hr1 2
    have r13 := cell_of_row _ _ 3 _ 35 (0, 0) hr1
    have f13 := free_blk hr1 3
    clear ha1 hr1 hr0 hk0 hb0
    go_wp2
    exact bodyPost_ret (v := .tuple #[.agg #[.int .i64 0, .slice none 0 0, .int .i64 0, .slice none 0 0], .bool false]) (by simp [results, Try.results30, go_sem, r10, f10, r11, f11, r12, f12, r13, f13]) rfl (noA_post (bel_put4 HBN.out (by omega)))
  | true =>
    rw [g1] at HT
    rw [newA_yes g1]
    have HN := Lib.hid hn
    clear h hn g1
    go_enter Try.func30, Try.ntmps30
    go_wp2_with fail
    refine (HT.out _ hb0).mono ?_
    rintro e w1 ⟨rfl, ha1⟩
    have hr1 := (ha1.block w.heap.size (lt_blk hr0)).trans hr0
    have hk1 := (ha1.block (w.heap.size + 1) (lt_blk hk0)).trans hk0
    have hb1 := hb0.trans (ha1.mono hb0.size)
    have k10 := cell_of_row _ _ 0 _ 35 (0, 0) hk1
    have k11 := cell_of_row _ _ 1 _ 35 (0, 0) hk1
    have k12 := cell_of_row _ _ 2 _ 35 (0, 0) hk1
    have k13 := cell_of_row _ _ 3 _ 35 (0, 0) hk1
    clear ha1 hr0 hk0 hb0
    go_wp2_with fail
    refine (HCN.out _ hb1).mono ?_
    rintro e w2 ⟨A1, c1, A2, c2, rfl, hoi, hol, ha2⟩
    have hr2 := (ha2.block w.heap.size (lt_blk hr1)).trans hr1
    have hl1 := lt_blk hr1
    have hb2 := hb1.trans (ha2.mono hb1.size)
    have r20 := cell_of_row _ _ 0 _ 35 (0, 0) hr2
    have f20 := free_blk hr2 0
    have r21 := cell_of_row _ _ 1 _ 35 (0, 0) hr2
    have f21 := free_blk hr2 1
    have r22 := cell_of_row _ _ 2 _ 35 (0, 0) hr2
    have f22 := free_blk hr2 2
    have r23 := cell_of_row _ _ 3 _ 35 (0, 0) hr2
    have f23 := free_blk hr2 3
    have HAN := Lib.hid (show NAPost (0, is, far, [], true) w (.returned (.tuple #[.agg #[.int .i64 0, .slice A1 n c1, .int .i64 far, .slice A2 0 c2], .bool true])) ((((w2.setCell ⟨w.heap.size, 0, none⟩ (.int .i64 0)).setCell ⟨w.heap.size, 1, none⟩ (.slice A1 n c1)).setCell ⟨w.heap.size, 2, none⟩ (.int .i64 far)).setCell ⟨w.heap.size, 3, none⟩ (.slice A2 0 c2)) from
      yes_post HN.out rfl ((OwnI.put4 hoi (by omega)).wider (by omega) (by simp [World.setCell])) ((OwnL.put4 hol (by omega)).wider (by omega) (by simp [World.setCell])) (bel_put4 hb2 (Nat.le_refl _)))
    clear ha2 hr1 hk1 hb1 hr2 hoi hol hb2 k10 k11 k12 k13
    go_wp2
    exact bodyPost_ret (v := .tuple #[.agg #[.int .i64 0, .slice A1 n c1, .int .i64 far, .slice A2 0 c2], .bool true]) (by simp [results, Try.results30, go_sem, r20, f20, r21, f21, r22, f22, r23, f23]) rfl HAN.out
end Go.Proofs.Ytojplmjoipjabaa.Nt
