/-
  SendTo of the program.
-/
import Derived.Test.YtojplmjoipjabaaNtF0
import Derived.Test.YtojplmjoipjabaaNtAdd
import Derived.Test.YtojplmjoipjabaaNtTk
import Derived.Test.YtojplmjoipjabaaNtMk2
namespace Go.Proofs.Ytojplmjoipjabaa.Nt
open Go.RowKit
set_option linter.unusedVariables false
set_option linter.unusedSimpArgs false

set_option maxRecDepth 100000 in
set_option maxHeartbeats 4000000 in
theorem implSendTo_any (now far : Int) (A A' : Option Addr) (n c n' c' : Nat) (is : List Int) (ls : List (Int × Int × Int × ByteArray)) (a b : Int) (s : ByteArray) (B : Nat) (w : World) (hn : is.length = n) (hn' : ls.length = n') (h : IntsB w B A is) (h' : LetsB w B A' ls) (hB : B ≤ w.heap.size) (hm : LSmall ls) (hl : n ≤ 1048576) (hcap : n' ≤ c' ∧ c' ≤ maxLen) (hs : s.size ≤ 1048576) :
    Calls Try.prog 33 #[.agg #[.int .i64 now, .slice A n c, .int .i64 far, .slice A' n' c'], .int .i64 a, .int .i64 b, .string s] w (NAPost (sendA now is far ls a b s) w) := by
  have hb0 := below2 w (.cells #[.int .i64 now, .slice A n c, .int .i64 far, .slice A' n' c'] 35) (.cells #[.int .i64 0, .slice none 0 0, .int .i64 0, .slice none 0 0] 35)
  have hk0 : ((w.alloc (.cells #[.int .i64 now, .slice A n c, .int .i64 far, .slice A' n' c'] 35)).alloc (.cells #[.int .i64 0, .slice none 0 0, .int .i64 0, .slice none 0 0] 35)).heap[w.heap.size]? = some (.cells #[.int .i64 now, .slice A n c, .int .i64 far, .slice A' n' c'] 35 (0, 0)) := ((below1 (w.alloc (.cells #[.int .i64 now, .slice A n c, .int .i64 far, .slice A' n' c'] 35)) (.cells #[.int .i64 0, .slice none 0 0, .int .i64 0, .slice none 0 0] 35)).block w.heap.size (by simp)).trans (heap_alloc_new w (.cells #[.int .i64 now, .slice A n c, .int .i64 far, .slice A' n' c'] 35))
  have hr0 := alloc_snd w (.cells #[.int .i64 now, .slice A n c, .int .i64 far, .slice A' n' c'] 35) (.cells #[.int .i64 0, .slice none 0 0, .int .i64 0, .slice none 0 0] 35)
  have HT := Lib.hid (fun W (hW : Below w.heap.size w W) => implTripOf_any now far A A' n c n' c' is ls a b B W hn hn' (h.below (hW.mono hB)) (h'.below (hW.mono hB)) (Nat.le_trans hB hW.size) hm hl)
  have hcn := fun W (hW : Below w.heap.size w W) => copyNet_any now far A A' n c n' c' is ls B W hn hn' (h.below (hW.mono hB)) (h'.below (hW.mono hB)) (Nat.le_trans hB hW.size) (by omega) (by rw [← hn']; exact hm.1)
  unfold NetV at hcn
  simp only [hn, hn'] at hcn
  have HCN := Lib.hid hcn
  clear hcn
  unfold tripA at HT
  rw [hn] at HT
  cases g1 : (netB now is far ls && (nodeB n a && nodeB n b)) with
  | false =>
    simp only [g1, Bool.false_eq_true, if_false] at HT
    have HNA := Lib.hid (show sendA now is far ls a b s = noA by
      unfold sendA
      rw [hn, if_neg]
      intro hh
      simp only [Bool.and_eq_true] at hh g1
      simp [hh.1, hh.2.1, hh.2.2.1] at g1)
    clear h h' hm hn hn' g1 HCN
    go_enter Try.func33, Try.ntmps33
    go_wp2_with fail
    refine (HT.out _ hb0).mono ?_
    rintro e w1 ⟨rfl, ha1⟩
    have hk1 := (ha1.block w.heap.size (lt_blk hk0)).trans hk0
    have hr1 := (ha1.block (w.heap.size + 1) (lt_blk hr0)).trans hr0
    have hb1 := hb0.trans (ha1.mono hb0.size)
    have k10 := cell_of_row _ _ 0 _ 35 (0, 0) hk1
    have k11 := cell_of_row _ _ 1 _ 35 (0, 0) hk1
    have k12 := cell_of_row _ _ 2 _ 35 (0, 0) hk1
    have k13 := cell_of_row _ _ 3 _ 35 (0, 0) hk1
    have r10 := cell_of_row _ _ 0 _ 35 (0, 0) hr1
    have f10 := free_blk hr1 0
    have r11 := cell_of_row _ _ 1 _ 35 (0, 0) hr1
    have f11 := free_blk hr1 1
    have r12 := cell_of_row _ _ 2 _ 35 (0, 0) hr1
    have f12 := free_blk hr1 2
    have r13 := cell_of_row _ _ 3 _ 35 (0, 0) hr1
    have f13 := free_blk hr1 3
    clear ha1 hk0 hr0 hb0
    have HBN := Lib.hid hb1
    clear hb1 hk1 hr1
    go_wp2
    exact bodyPost_ret (v := .tuple #[.agg #[.int .i64 0, .slice none 0 0, .int .i64 0, .slice none 0 0], .bool false]) (by simp [results, Try.results33, go_sem, r10, f10, r11, f11, r12, f12, r13, f13]) rfl (by rw [HNA.out]; exact noA_post (bel_put4 HBN.out (by omega)))
  | true =>
    simp only [g1, if_true] at HT
    simp only [Bool.and_eq_true] at g1
    obtain ⟨g1, ga, gb⟩ := g1
    obtain ⟨gt, gh, gf, gl, gu⟩ := netB_true g1
    obtain ⟨gh1, gh5, ghh⟩ := homesB_true gh
    have gf2 := inB_true gf
    have gt2 := inB_true gt
    have hasc := undB_asc gu
    rw [hn'] at gl
    have ht1 := tripI_low (is := is) (a := a) (b := b) gf2.1
    have ht2 := tripI_high (a := a) (b := b) gf2.1 gf2.2 ghh
    have HS := Lib.hid (show sendA now is far ls a b s = if a = b then noA else ifA now is far (insL ls (a, b, now + tripI is far a b, s)) by
      unfold sendA
      rw [hn]
      by_cases hab : a = b
      · rw [if_pos hab, if_neg (by simp [hab])]
      · rw [if_neg hab, if_pos (by simp [g1, ga, gb, hab])])
    have HSELF := Lib.hid (fun (e : a = b) => show netB now is far (insL ls (a, b, now + tripI is far a b, s)) = false by subst e; exact send_self now is far ls a _ s)
    obtain ⟨tr, htr⟩ : ∃ tr, tr = tripI is far a b := ⟨_, rfl⟩
    rw [← htr] at HT HS HSELF ht1 ht2
    have hus := insL_len ls (a, b, now + tr, s)
    rw [hn'] at hus
    have hmus : LSmall (insL ls (a, b, now + tr, s)) := ⟨by rw [hus]; omega, fun x hx => by
      rcases mem_insL.1 hx with rfl | hx
      · exact hs
      · exact hm.2 x hx⟩
    obtain ⟨us, husd⟩ : ∃ us, us = insL ls (a, b, now + tr, s) := ⟨_, rfl⟩
    rw [← husd] at HS HSELF hus hmus
    have HUSD := Lib.hid husd
    obtain ⟨gt3, gt4⟩ := gt2
    have HHS := Lib.hid (show True from trivial)
    clear htr husd g1 ga gb gt gh gf gu gh1 gh5 ghh gf2 HHS h h' hm hs
    go_enter Try.func33, Try.ntmps33
    go_wp2_with fail
    refine (HT.out _ hb0).mono ?_
    rintro e w1 ⟨rfl, ha1⟩
    have hk1 := (ha1.block w.heap.size (lt_blk hk0)).trans hk0
    have hr1 := (ha1.block (w.heap.size + 1) (lt_blk hr0)).trans hr0
    have hb1 := hb0.trans (ha1.mono hb0.size)
    have k10 := cell_of_row _ _ 0 _ 35 (0, 0) hk1
    have k11 := cell_of_row _ _ 1 _ 35 (0, 0) hk1
    have k12 := cell_of_row _ _ 2 _ 35 (0, 0) hk1
    have k13 := cell_of_row _ _ 3 _ 35 (0, 0) hk1
    have r10 := cell_of_row _ _ 0 _ 35 (0, 0) hr1
    have f10 := free_blk hr1 0
    have r11 := cell_of_row _ _ 1 _ 35 (0, 0) hr1
    have f11 := free_blk hr1 1
    have r12 := cell_of_row _ _ 2 _ 35 (0, 0) hr1
    have f12 := free_blk hr1 2
    have r13 := cell_of_row _ _ 3 _ 35 (0, 0) hr1
    have f13 := free_blk hr1 3
    clear ha1 hk0 hr0 hb0
    go_wp2_with fail
    refine (HCN.out _ hb1).mono ?_
    rintro e w2 ⟨A1, c1, A2, c2, rfl, hoi, hol, ha2⟩
    have hk2 := (ha2.block w.heap.size (lt_blk hk1)).trans hk1
    have hr2 := (ha2.block (w.heap.size + 1) (lt_blk hr1)).trans hr1
    have hb2 := hb1.trans (ha2.mono hb1.size)
    have hl1 := lt_blk hr1
    have hl2 := lt_blk hr2
    have hkl2 := lt_blk hk2
    have hsz2 := ha2.size
    have k20 := cell_of_row _ _ 0 _ 35 (0, 0) hk2
    have k21 := cell_of_row _ _ 1 _ 35 (0, 0) hk2
    have k22 := cell_of_row _ _ 2 _ 35 (0, 0) hk2
    have k23 := cell_of_row _ _ 3 _ 35 (0, 0) hk2
    have r20 := cell_of_row _ _ 0 _ 35 (0, 0) hr2
    have f20 := free_blk hr2 0
    have r21 := cell_of_row _ _ 1 _ 35 (0, 0) hr2
    have f21 := free_blk hr2 1
    have r22 := cell_of_row _ _ 2 _ 35 (0, 0) hr2
    have f22 := free_blk hr2 2
    have r23 := cell_of_row _ _ 3 _ 35 (0, 0) hr2
    have f23 := free_blk hr2 3
    clear ha2 hk1 hr1 hb1 k10 k11 k12 k13 r10 r11 r12 r13 f10 f11 f12 f13
    go_wp2_with fail
    obtain ⟨V, hV⟩ : ∃ V, V = w2.alloc (.cells #[.int .i64 now, .slice A1 n c1, .int .i64 far, .slice A2 n' c2] 35) := ⟨_, rfl⟩
    have haV := below1 w2 (.cells #[.int .i64 now, .slice A1 n c1, .int .i64 far, .slice A2 n' c2] 35)
    have hsV := heap_alloc_new w2 (.cells #[.int .i64 now, .slice A1 n c1, .int .i64 far, .slice A2 n' c2] 35)
    rw [← hV] at haV hsV ⊢
    have hkV := (haV.block w.heap.size (lt_blk hk2)).trans hk2
    have hrV := (haV.block (w.heap.size + 1) (lt_blk hr2)).trans hr2
    have hbV := hb2.trans (haV.mono hb2.size)
    have hoiV := hoi.since haV (Nat.le_refl _)
    have holV := hol.since haV (Nat.le_refl _)
    have hszV : V.heap.size = w2.heap.size + 1 := by rw [hV]; simp
    have HZV := Lib.hid hszV
    clear hV haV hoi hol hszV hk2 hr2 hb2 k20 k21 k22 k23 r20 r21 r22 r23 f20 f21 f22 f23
    have hlw : w.heap.size + 1 < w1.heap.size := hl1
    refine (addLetter_any w2.heap.size A2 n' c2 w1.heap.size w2.heap.size _ _ _ ls a b (now + tr) s V hn' hsV holV (Nat.le_refl _) hsz2 hasc (by omega)).mono ?_
    rw [← HUSD.out]
    rintro e w3 ⟨A3, c3, rfl, hs3, ho3, ht3⟩
    rw [hus] at hs3
    have hZ := HZV.out
    have hrow3 := fun x hx => own_range holV x hx
    have hk3 := ht3.blk hkV (by omega) (fun x hx => by have := (hrow3 x hx).1; omega)
    have hr3 := ht3.blk hrV (by omega) (fun x hx => by have := (hrow3 x hx).1; omega)
    have hoi3 := ht3.ints hoiV holV (Nat.le_refl _)
    have hb3 := hbV.trans (ht3.below (by omega) (fun x hx => by have := (hrow3 x hx).1; omega) hbV.size)
    have hzz3 := ht3.2.2.2.1
    have HOG := Lib.hid (onlyGood_any now far A1 A3 n c1 (n' + 1) c3 is us w3.heap.size w3 hn hus (hoi3.ints.mono (by omega)) (ho3.lets.mono (by omega)) (Nat.le_refl _) hmus hl)
    have HOI := Lib.hid hoi3
    have HOL := Lib.hid ho3
    have q30 := cell_of_row _ _ 0 _ 35 (0, 0) hs3
    have g30 := free_blk hs3 0
    have q31 := cell_of_row _ _ 1 _ 35 (0, 0) hs3
    have g31 := free_blk hs3 1
    have q32 := cell_of_row _ _ 2 _ 35 (0, 0) hs3
    have g32 := free_blk hs3 2
    have q33 := cell_of_row _ _ 3 _ 35 (0, 0) hs3
    have g33 := free_blk hs3 3
    have r30 := cell_of_row _ _ 0 _ 35 (0, 0) hr3
    have f30 := free_blk hr3 0
    have r31 := cell_of_row _ _ 1 _ 35 (0, 0) hr3
    have f31 := free_blk hr3 1
    have r32 := cell_of_row _ _ 2 _ 35 (0, 0) hr3
    have f32 := free_blk hr3 2
    have r33 := cell_of_row _ _ 3 _ 35 (0, 0) hr3
    have f33 := free_blk hr3 3
    have k30 := cell_of_row _ _ 0 _ 35 (0, 0) hk3
    have k31 := cell_of_row _ _ 1 _ 35 (0, 0) hk3
    have k32 := cell_of_row _ _ 2 _ 35 (0, 0) hk3
    have k33 := cell_of_row _ _ 3 _ 35 (0, 0) hk3
    have HN := Lib.hid hn
    have HU := Lib.hid hus
    have HZI := Lib.hid (show w2.heap.size ≤ w3.heap.size ∧ w3.heap.size ≤ w3.heap.size by constructor <;> omega)
    have HKR := Lib.hid (show w.heap.size + 1 < w1.heap.size ∧ w.heap.size + 1 < w1.heap.size by constructor <;> omega)
    have HBI := Lib.hid hb3
    have HRI := Lib.hid hr3
    have HW0 := Lib.hid (Nat.le_of_lt (lt_blk hr3))
    rcases hg2 : netB now is far us with _ | _
    · have HAN := Lib.hid (show sendA now is far ls a b s = noA by rw [HS.out]; split; rfl; unfold ifA; rw [hg2]; rfl)
      rw [hg2] at HOG
      simp only [cond_false] at HOG
      clear hg2
      clear hs3 hk3 hr3 hb3 hoi3 ho3 ht3 hrow3 hzz3 hkV hrV hsV hbV hoiV holV hus hmus hasc hn hn' hZ hlw hsz2
      go_wp2_with fail
      refine HOG.out.mono ?_
      rintro e w4 ⟨rfl, ha4⟩
      have hr4 := (ha4.block (w.heap.size + 1) (lt_blk HRI.out)).trans HRI.out
      have HBJ := Lib.hid (HBI.out.trans (ha4.mono HBI.out.size))
      have HOI2 := Lib.hid (HOI.out.since ha4 HZI.out.1)
      have HOL2 := Lib.hid (HOL.out.since ha4 HZI.out.2)
      have HSZ := Lib.hid ha4.size
      have r40 := cell_of_row _ _ 0 _ 35 (0, 0) hr4
      have f40 := free_blk hr4 0
      have r41 := cell_of_row _ _ 1 _ 35 (0, 0) hr4
      have f41 := free_blk hr4 1
      have r42 := cell_of_row _ _ 2 _ 35 (0, 0) hr4
      have f42 := free_blk hr4 2
      have r43 := cell_of_row _ _ 3 _ 35 (0, 0) hr4
      have f43 := free_blk hr4 3
      clear ha4 r30 r31 r32 r33 f30 f31 f32 f33
      go_wp2
      exact bodyPost_ret (v := .tuple #[.agg #[.int .i64 0, .slice none 0 0, .int .i64 0, .slice none 0 0], .bool false]) (by simp [results, Try.results33, go_sem, r40, f40, r41, f41, r42, f42, r43, f43]) rfl (by rw [HAN.out]; exact noA_post (bel_put4 HBJ.out (by omega)))
    · have HAN := Lib.hid (show sendA now is far ls a b s = (now, is, far, us, true) by rw [HS.out, if_neg (fun e => by have := HSELF.out e; rw [hg2] at this; cases this)]; unfold ifA; rw [hg2]; rfl)
      rw [hg2] at HOG
      simp only [cond_true] at HOG
      clear hg2
      clear hs3 hk3 hr3 hb3 hoi3 ho3 ht3 hrow3 hzz3 hkV hrV hsV hbV hoiV holV hus hmus hasc hn hn' hZ hlw hsz2
      go_wp2_with fail
      refine HOG.out.mono ?_
      rintro e w4 ⟨rfl, ha4⟩
      have hr4 := (ha4.block (w.heap.size + 1) (lt_blk HRI.out)).trans HRI.out
      have HBJ := Lib.hid (HBI.out.trans (ha4.mono HBI.out.size))
      have HOI2 := Lib.hid (HOI.out.since ha4 HZI.out.1)
      have HOL2 := Lib.hid (HOL.out.since ha4 HZI.out.2)
      have HSZ := Lib.hid ha4.size
      have r40 := cell_of_row _ _ 0 _ 35 (0, 0) hr4
      have f40 := free_blk hr4 0
      have r41 := cell_of_row _ _ 1 _ 35 (0, 0) hr4
      have f41 := free_blk hr4 1
      have r42 := cell_of_row _ _ 2 _ 35 (0, 0) hr4
      have f42 := free_blk hr4 2
      have r43 := cell_of_row _ _ 3 _ 35 (0, 0) hr4
      have f43 := free_blk hr4 3
      clear ha4 r30 r31 r32 r33 f30 f31 f32 f33
      go_wp2
      exact bodyPost_ret (v := .tuple #[.agg #[.int .i64 now, .slice A1 n c1, .int .i64 far, .slice A3 (n' + 1) c3], .bool true]) (by simp [results, Try.results33, go_sem, r40, f40, r41, f41, r42, f42, r43, f43]) rfl (by
        rw [HAN.out]
        have hz := HSZ.out
        have hz1 := HZI.out
        have hz2 := HKR.out
        exact yes_post HN.out HU.out ((OwnI.put4 HOI2.out (by omega)).wider (by omega) (by simp [World.setCell]; omega)) ((OwnL.put4 HOL2.out (by omega)).wider (by omega) (by simp [World.setCell]; omega)) (bel_put4 HBJ.out (by omega)))
end Go.Proofs.Ytojplmjoipjabaa.Nt
