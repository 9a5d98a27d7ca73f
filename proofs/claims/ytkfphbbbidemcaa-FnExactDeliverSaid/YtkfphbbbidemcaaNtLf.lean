/-
  The walk of the exact law Deliver.
-/
import Derived.Test.YtkfphbbbidemcaaNtL0
import Derived.Test.YtkfphbbbidemcaaNtG4
namespace Go.Proofs.Ytkfphbbbidemcaa.Nt
open Go.RowKit
set_option linter.unusedVariables false
set_option linter.unusedSimpArgs false

set_option maxRecDepth 100000 in
set_option maxHeartbeats 2000000 in
theorem markNet_apart (now far : Int) (A A' D : Option Addr) (n cap n' cap' dcap k lo hi : Nat) (is : List Int) (ls us : List (Int × Int × Int × ByteArray)) (w : World) (hn : is.length = n) (hn' : ls.length = n') (h : OwnI w lo hi A cap is) (h' : OwnL w lo hi A' cap' ls) (hd : OwnL w lo hi D dcap us) (hap : ∀ x y, A' = some x → D = some y → x.block ≠ y.block) (hh : hi ≤ w.heap.size) (hlo : lo ≤ hi) (hk1 : 1 ≤ k) (hk : k + n + 4 * n' ≤ 1000000000) :
    Calls Try.prog 24 #[.agg #[.int .i64 now, .slice A n cap, .int .i64 far, .slice A' n' cap'], .int .i64 (k : Int)] w fun e w' => e = .returned (.int .i64 ((k + n + 4 * n' : Nat) : Int)) ∧ OwnI w' lo hi A cap (mInts k n) ∧ OwnL w' lo hi A' cap' (mLts (k + n) n') ∧ OwnL w' lo hi D dcap us ∧ Mid lo hi w w' := by
  have hb0 := below1 w (.cells #[.int .i64 now, .slice A n cap, .int .i64 far, .slice A' n' cap'] 30)
  have hbk := heap_alloc_new w (.cells #[.int .i64 now, .slice A n cap, .int .i64 far, .slice A' n' cap'] 30)
  have h1 := h.below (hb0.mono hh)
  have h2 := h'.below (hb0.mono hh)
  have h3 := hd.below (hb0.mono hh)
  have HD0 := Lib.hid h3
  have HAP := Lib.hid hap
  have HI := Lib.hid (markIntS_any A n cap k lo hi is _ hn h1 hk1 (by omega))
  have HH2 := Lib.hid h2
  have HL := Lib.hid (fun W (hW : OwnL W lo hi A' cap' ls) => markLetterS_any A' n' cap' (k + n) lo hi ls W hn' hW (by omega) hk)
  have hm0 : Mid lo hi w (w.alloc (.cells #[.int .i64 now, .slice A n cap, .int .i64 far, .slice A' n' cap'] 30)) := Below.mid hb0
  obtain ⟨q, hq⟩ : ∃ q, q = k + n := ⟨_, rfl⟩
  rw [← hq] at HI HL ⊢
  have HM0 := Lib.hid hm0
  have HBK := Lib.hid hbk
  have HH1 := Lib.hid h1
  clear h h' hd hap h1 h2 h3 hb0 hm0 hbk hn hn' hq hk
  go_enter Try.func24, Try.ntmps24
  go_wp2_with fail
  refine HI.out.mono ?_
  rintro e w1 ⟨rfl, ho1, hm1⟩
  have hl1 := Own.midA HH2.out hm1 (own_apart HH1.out HH2.out (by decide))
  have HD1 := Lib.hid (Own.midA HD0.out hm1 (own_apart HH1.out HD0.out (by decide)))
  have hmm := hm1.mid (lo := lo) (hi := hi) (own_range HH1.out)
  have HM1 := Lib.hid (HM0.out.trans hmm)
  have hkb := (hmm.2.2.2.2 w.heap.size (by simp) (.inr hh)).trans HBK.out
  have y1 := cell_of_row _ _ 1 _ 30 (0, 0) hkb
  have y3 := cell_of_row _ _ 3 _ 30 (0, 0) hkb
  have HC2 := Lib.hid (HL.out w1 hl1)
  have HHL := Lib.hid hl1
  have HO1 := Lib.hid ho1
  clear HI HL hmm hm1 hkb hl1 ho1
  go_wp2_with fail
  refine HC2.out.mono ?_
  rintro e w2 ⟨rfl, ho2, hm2⟩
  have HO1b := Lib.hid (Own.midA HO1.out hm2 (own_apart HHL.out HO1.out (by decide)))
  have HD2 := Lib.hid (Own.midA HD1.out hm2 HAP.out)
  have HM2 := Lib.hid (HM1.out.trans (hm2.mid (lo := lo) (hi := hi) (own_range HHL.out)))
  have HO2 := Lib.hid ho2
  clear hm2 ho2
  go_wp2
  go_ret
  exact ⟨rfl, HO1b.out, HO2.out, HD2.out, HM2.out⟩

theorem DlvPost_un (an af : Int) (ai : List Int) (al dl : List (Int × Int × Int × ByteArray)) (ok : Bool) (w : World) : DlvPost ((an, ai, af, al, ok), dl) w = fun e w' => ∃ A c A' c' D d, e = .returned (.tuple #[.agg #[.int .i64 an, .slice A ai.length c, .int .i64 af, .slice A' al.length c'], .slice D dl.length d, .bool ok]) ∧ OwnI w' w.heap.size w'.heap.size A c ai ∧ OwnL w' w.heap.size w'.heap.size A' c' al ∧ OwnL w' w.heap.size w'.heap.size D d dl ∧ (∀ x y, A' = some x → D = some y → x.block ≠ y.block) ∧ Below w.heap.size w w' := rfl
theorem dlvA_small {now far : Int} {is : List Int} {ls : List (Int × Int × Int × ByteArray)} (h1 : is.length ≤ 1048576) (h2 : ls.length ≤ 1048576) : (dlvA now is far ls).1.2.1.length ≤ 1048576 ∧ (dlvA now is far ls).1.2.2.2.1.length ≤ 2000000 ∧ (dlvA now is far ls).2.length ≤ 2000000 := by
  unfold dlvA; split
  · refine ⟨h1, ?_, ?_⟩
    · simp only [List.length_drop]; omega
    · simp only [List.length_take]; omega
  · exact ⟨by simp [noA], by simp [noA], by simp⟩

set_option maxRecDepth 100000 in
set_option maxHeartbeats 8000000 in
theorem deliver_walk (w : World) (now far : Int) (A : Option Addr) (n c : Nat) (is : List Int) (A' : Option Addr) (n' c' : Nat) (ls : List (Int × Int × Int × ByteArray)) (hn : is.length = n) (hA : IntsB w w.heap.size A is) (hln : n ≤ maxLen) (hn' : ls.length = n') (hL : LetsB w w.heap.size A' ls) (hmx : LMax ls)  :
    Calls Try.prog 10 #[.agg #[.int .i64 now, .slice A n c, .int .i64 far, .slice A' n' c']] w fun e w' => e = .returned (.bool true) ∧ Below w.heap.size w w' := by
  have hb0 := below1 w (.cells #[.int .i64 now, .slice A n c, .int .i64 far, .slice A' n' c'] 25)
  have hk0 := heap_alloc_new w (.cells #[.int .i64 now, .slice A n c, .int .i64 far, .slice A' n' c'] 25)
  have HZ := Lib.hid (fun W (hW : Below w.heap.size w W) => szNetW_any now far A A' n c n' c' ls w.heap.size W hln hn' (hL.below hW) hW.size hmx)
  by_cases h : n + szLs ls ≤ 1048576
  · rw [remI_yes h] at HZ
    have hs0 : (0 : Int) ≤ ((1048576 : Nat) : Int) - ((n + szLs ls : Nat) : Int) := by omega
    obtain ⟨q0, hq0⟩ : ∃ q0, q0 = ((1048576 : Nat) : Int) - ((n + szLs ls : Nat) : Int) := ⟨_, rfl⟩
    rw [← hq0] at HZ hs0
    have hszl : ls.length ≤ szLs ls := by unfold szLs; omega
    have hn1 : n ≤ 1048576 := by omega
    have hn2 : n' ≤ 1048576 := by omega
    have hsmall := lsmall_of (show szLs ls ≤ 1048576 by omega)
    have ht := fun W (hW : Below w.heap.size w W) => toNet_any now far A A' n c n' c' is ls w.heap.size W hn hn' (hA.below hW) (hL.below hW) hW.size hn1 hn2
    unfold NetV at ht
    simp only [hn, hn'] at ht
    have HT := Lib.hid ht
    clear ht
    have hspec := fun (W : World) (C C' : Option Addr) (d d' lo hi : Nat) (hoi : OwnI W lo hi C d is) (hol : OwnL W lo hi C' d' ls) (hh : hi ≤ W.heap.size) => specDeliver_any now far C C' n d n' d' is ls W.heap.size W hn hn' (hoi.ints.mono hh) (hol.lets.mono hh) (Nat.le_refl _) hsmall hn1 (by have := hol.room; rw [hn'] at this; exact this)
    have himpl := fun (W : World) (C C' : Option Addr) (d d' lo hi : Nat) (hoi : OwnI W lo hi C d is) (hol : OwnL W lo hi C' d' ls) (hh : hi ≤ W.heap.size) => implDeliver_any now far C C' n d n' d' is ls W.heap.size W hn hn' (hoi.ints.mono hh) (hol.lets.mono hh) (Nat.le_refl _) hsmall hn1 (by have := hol.room; rw [hn'] at this; exact this)
    have hsm := dlvA_small (now := now) (far := far) (show is.length ≤ 1048576 by omega) (show ls.length ≤ 1048576 by omega)
    obtain ⟨⟨⟨an, ai, af, al, ok⟩, dl⟩, hr⟩ : ∃ r, r = dlvA now is far ls := ⟨_, rfl⟩
    rw [← hr] at hsm
    simp only [← hr] at hspec himpl
    simp only [DlvPost_un] at hspec himpl
    simp only at hsm
    obtain ⟨ni, hni⟩ : ∃ ni, ni = ai.length := ⟨_, rfl⟩
    obtain ⟨nl, hnl⟩ : ∃ nl, nl = al.length := ⟨_, rfl⟩
    obtain ⟨nd, hnd⟩ : ∃ nd, nd = dl.length := ⟨_, rfl⟩
    rw [← hni, ← hnl, ← hnd] at hsm
    simp only [← hni, ← hnl, ← hnd] at hspec himpl
    obtain ⟨hsm1, hsm2, hsm3⟩ := hsm
    have HS := Lib.hid hspec
    have HI := Lib.hid himpl
    have HNI := Lib.hid hni.symm
    have HNL := Lib.hid hnl.symm
    have HND := Lib.hid hnd.symm
    have HN := Lib.hid hn
    have HN' := Lib.hid hn'
    have m1 : (0 : Int) ≤ ((1 + n + 4 * n' : Nat) : Int) := by omega
    have m2 : (0 : Int) ≤ ((1 + ni + 4 * nl : Nat) : Int) := by omega
    have m3 : (0 : Int) ≤ ((1 + ni + 4 * nl + 4 * nd : Nat) : Int) := by omega
    obtain ⟨mx, hmxx⟩ : ∃ mx, mx = 1 + n + 4 * n' := ⟨_, rfl⟩
    obtain ⟨mg, hmgg⟩ : ∃ mg, mg = 1 + ni + 4 * nl := ⟨_, rfl⟩
    have hmg1 : 1 ≤ mg := by omega
    have hmg2 : mg + 4 * nd ≤ 1000000000 := by omega
    rw [← hmxx] at m1
    rw [← hmgg] at m2 m3
    obtain ⟨mh, hmhh⟩ : ∃ mh, mh = mg + 4 * nd := ⟨_, rfl⟩
    rw [← hmhh] at m3
    have HMX := Lib.hid hmxx.symm
    have HMG := Lib.hid hmgg.symm
    have HMH := Lib.hid hmhh.symm
    have HB0 := Lib.hid hb0
    have bA_0 := Lib.hid hk0
    have HM2 := Lib.hid hmg2
    clear hspec himpl hr hni hnl hnd h hA hL hmx hn hn' hln hsmall hszl hq0 hmxx hk0 hmhh hmg2
    have HGG := Lib.hid hmgg
    clear hmgg
    go_enter Try.func10, Try.ntmps10
    go_wp2_with fail
    refine (HZ.out _ hb0).mono ?_
    rintro e w1 ⟨rfl, ha1⟩
    have h00 := hb0.size
    clear hb0
    have HB1 := Lib.hid (HB0.out.trans (ha1.mono HB0.out.size))
    have hz1 := ha1.size
    have bA_1 := Lib.hid ((ha1.block (w.heap.size) (lt_blk bA_0.out)).trans bA_0.out)
    clear ha1
    have bA10 := cell_of_row _ _ 0 _ 25 (0, 0) bA_1.out
    have bA11 := cell_of_row _ _ 1 _ 25 (0, 0) bA_1.out
    have bA12 := cell_of_row _ _ 2 _ 25 (0, 0) bA_1.out
    have bA13 := cell_of_row _ _ 3 _ 25 (0, 0) bA_1.out
    have bA1l := lt_blk bA_1.out
    go_wp2_with fail
    refine (HT.out _ HB1.out).mono ?_
    rintro e w2 ⟨A2, c2, D2, d2, rfl, hoi2, hol2, ha2⟩
    clear bA10 bA11 bA12 bA13 bA1l
    have HB2 := Lib.hid (HB1.out.trans (ha2.mono HB1.out.size))
    have hz2 := ha2.size
    have bA_2 := Lib.hid ((ha2.block (w.heap.size) (lt_blk bA_1.out)).trans bA_1.out)
    clear ha2
    have t2i_2 := Lib.hid hoi2
    have t2l_2 := Lib.hid hol2
    clear hoi2 hol2
    go_wp2_with fail
    refine (HS.out _ A2 D2 c2 d2 _ _ t2i_2.out t2l_2.out (by omega)).mono ?_
    rintro e w3 ⟨A3, c3, D3, d3, E3, e3, rfl, hoi3, hol3, hod3, hap3, ha3⟩
    have HB3 := Lib.hid (HB2.out.trans (ha3.mono HB2.out.size))
    have hz3 := ha3.size
    have bA_3 := Lib.hid ((ha3.block (w.heap.size) (lt_blk bA_2.out)).trans bA_2.out)
    have t2i_3 := Lib.hid (t2i_2.out.since ha3 (by omega))
    have t2l_3 := Lib.hid (t2l_2.out.since ha3 (by omega))
    clear ha3
    have Wi_3 := Lib.hid hoi3
    have Wl_3 := Lib.hid hol3
    have Wdl_3 := Lib.hid hod3
    have Wap := Lib.hid hap3
    clear hoi3 hol3 hod3 hap3
    have bA30 := cell_of_row _ _ 0 _ 25 (0, 0) bA_3.out
    have bA31 := cell_of_row _ _ 1 _ 25 (0, 0) bA_3.out
    have bA32 := cell_of_row _ _ 2 _ 25 (0, 0) bA_3.out
    have bA33 := cell_of_row _ _ 3 _ 25 (0, 0) bA_3.out
    have bA3l := lt_blk bA_3.out
    go_wp2_with fail
    obtain ⟨V3, hV3⟩ : ∃ V3, V3 = w3.alloc (.cells #[.int .i64 an, .slice A3 ni c3, .int .i64 af, .slice D3 nl d3] 30) := ⟨_, rfl⟩
    have haV3 := below1 w3 (.cells #[.int .i64 an, .slice A3 ni c3, .int .i64 af, .slice D3 nl d3] 30)
    have hnV3 := heap_alloc_new w3 (.cells #[.int .i64 an, .slice A3 ni c3, .int .i64 af, .slice D3 nl d3] 30)
    rw [← hV3] at haV3 hnV3 ⊢
    have hsV3 : V3.heap.size = w3.heap.size + 1 := by rw [hV3]; simp
    clear bA30 bA31 bA32 bA33 bA3l
    have HBV3 := Lib.hid (HB3.out.trans (haV3.mono HB3.out.size))
    have bA_V3 := Lib.hid ((haV3.block (w.heap.size) (lt_blk bA_3.out)).trans bA_3.out)
    have Wi_V3 := Lib.hid (Wi_3.out.since haV3 (by omega))
    have Wl_V3 := Lib.hid (Wl_3.out.since haV3 (by omega))
    have Wdl_V3 := Lib.hid (Wdl_3.out.since haV3 (by omega))
    have bW_V3 := Lib.hid hnV3
    have hzV3 := haV3.size
    clear hV3 haV3 hnV3
    refine (HT.out _ HBV3.out).mono ?_
    rintro e w4 ⟨A4, c4, D4, d4, rfl, hoi4, hol4, ha4⟩
    have HB4 := Lib.hid (HBV3.out.trans (ha4.mono HBV3.out.size))
    have hz4 := ha4.size
    have bA_4 := Lib.hid ((ha4.block (w.heap.size) (lt_blk bA_V3.out)).trans bA_V3.out)
    have bW_4 := Lib.hid ((ha4.block (w3.heap.size) (lt_blk bW_V3.out)).trans bW_V3.out)
    have Wi_4 := Lib.hid (Wi_V3.out.since ha4 (by omega))
    have Wl_4 := Lib.hid (Wl_V3.out.since ha4 (by omega))
    have Wdl_4 := Lib.hid (Wdl_V3.out.since ha4 (by omega))
    clear ha4
    have Xi_4 := Lib.hid hoi4
    have Xl_4 := Lib.hid hol4
    clear hoi4 hol4
    have bA40 := cell_of_row _ _ 0 _ 25 (0, 0) bA_4.out
    have bA41 := cell_of_row _ _ 1 _ 25 (0, 0) bA_4.out
    have bA42 := cell_of_row _ _ 2 _ 25 (0, 0) bA_4.out
    have bA43 := cell_of_row _ _ 3 _ 25 (0, 0) bA_4.out
    have bA4l := lt_blk bA_4.out
    go_wp2_with fail
    obtain ⟨V4, hV4⟩ : ∃ V4, V4 = w4.alloc (.cells #[.int .i64 now, .slice A4 n c4, .int .i64 far, .slice D4 n' d4] 30) := ⟨_, rfl⟩
    have haV4 := below1 w4 (.cells #[.int .i64 now, .slice A4 n c4, .int .i64 far, .slice D4 n' d4] 30)
    have hnV4 := heap_alloc_new w4 (.cells #[.int .i64 now, .slice A4 n c4, .int .i64 far, .slice D4 n' d4] 30)
    rw [← hV4] at haV4 hnV4 ⊢
    have hsV4 : V4.heap.size = w4.heap.size + 1 := by rw [hV4]; simp
    clear bA40 bA41 bA42 bA43 bA4l
    have HBV4 := Lib.hid (HB4.out.trans (haV4.mono HB4.out.size))
    have bA_V4 := Lib.hid ((haV4.block (w.heap.size) (lt_blk bA_4.out)).trans bA_4.out)
    have bW_V4 := Lib.hid ((haV4.block (w3.heap.size) (lt_blk bW_4.out)).trans bW_4.out)
    have Wi_V4 := Lib.hid (Wi_4.out.since haV4 (by omega))
    have Wl_V4 := Lib.hid (Wl_4.out.since haV4 (by omega))
    have Wdl_V4 := Lib.hid (Wdl_4.out.since haV4 (by omega))
    have Xi_V4 := Lib.hid (Xi_4.out.since haV4 (by omega))
    have Xl_V4 := Lib.hid (Xl_4.out.since haV4 (by omega))
    have bX_V4 := Lib.hid hnV4
    have hzV4 := haV4.size
    clear hV4 haV4 hnV4
    refine (HI.out _ A4 D4 c4 d4 _ _ Xi_V4.out Xl_V4.out (by omega)).mono ?_
    rintro e w5 ⟨A5, c5, D5, d5, E5, e5, rfl, hoi5, hol5, hod5, hap5, ha5⟩
    have HB5 := Lib.hid (HBV4.out.trans (ha5.mono HBV4.out.size))
    have hz5 := ha5.size
    have bA_5 := Lib.hid ((ha5.block (w.heap.size) (lt_blk bA_V4.out)).trans bA_V4.out)
    have bW_5 := Lib.hid ((ha5.block (w3.heap.size) (lt_blk bW_V4.out)).trans bW_V4.out)
    have bX_5 := Lib.hid ((ha5.block (w4.heap.size) (lt_blk bX_V4.out)).trans bX_V4.out)
    have Wi_5 := Lib.hid (Wi_V4.out.since ha5 (by omega))
    have Wl_5 := Lib.hid (Wl_V4.out.since ha5 (by omega))
    have Wdl_5 := Lib.hid (Wdl_V4.out.since ha5 (by omega))
    have Xi_5 := Lib.hid (Xi_V4.out.since ha5 (by omega))
    have Xl_5 := Lib.hid (Xl_V4.out.since ha5 (by omega))
    clear ha5
    have Gi_5 := Lib.hid hoi5
    have Gl_5 := Lib.hid hol5
    have Gdl_5 := Lib.hid hod5
    have Gap := Lib.hid hap5
    clear hoi5 hol5 hod5 hap5
    have bA50 := cell_of_row _ _ 0 _ 25 (0, 0) bA_5.out
    have bA51 := cell_of_row _ _ 1 _ 25 (0, 0) bA_5.out
    have bA52 := cell_of_row _ _ 2 _ 25 (0, 0) bA_5.out
    have bA53 := cell_of_row _ _ 3 _ 25 (0, 0) bA_5.out
    have bA5l := lt_blk bA_5.out
    have bW50 := cell_of_row _ _ 0 _ 30 (0, 0) bW_5.out
    have bW51 := cell_of_row _ _ 1 _ 30 (0, 0) bW_5.out
    have bW52 := cell_of_row _ _ 2 _ 30 (0, 0) bW_5.out
    have bW53 := cell_of_row _ _ 3 _ 30 (0, 0) bW_5.out
    have bW5l := lt_blk bW_5.out
    have bX50 := cell_of_row _ _ 0 _ 30 (0, 0) bX_5.out
    have bX51 := cell_of_row _ _ 1 _ 30 (0, 0) bX_5.out
    have bX52 := cell_of_row _ _ 2 _ 30 (0, 0) bX_5.out
    have bX53 := cell_of_row _ _ 3 _ 30 (0, 0) bX_5.out
    have bX5l := lt_blk bX_5.out
    go_wp2_with fail
    obtain ⟨V5, hV5⟩ : ∃ V5, V5 = w5.alloc (.cells #[.int .i64 an, .slice A5 ni c5, .int .i64 af, .slice D5 nl d5] 30) := ⟨_, rfl⟩
    have haV5 := below1 w5 (.cells #[.int .i64 an, .slice A5 ni c5, .int .i64 af, .slice D5 nl d5] 30)
    have hnV5 := heap_alloc_new w5 (.cells #[.int .i64 an, .slice A5 ni c5, .int .i64 af, .slice D5 nl d5] 30)
    rw [← hV5] at haV5 hnV5 ⊢
    have hsV5 : V5.heap.size = w5.heap.size + 1 := by rw [hV5]; simp
    clear bA50 bA51 bA52 bA53 bA5l bW50 bW51 bW52 bW53 bW5l bX50 bX51 bX52 bX53 bX5l
    have HBV5 := Lib.hid (HB5.out.trans (haV5.mono HB5.out.size))
    have bA_V5 := Lib.hid ((haV5.block (w.heap.size) (lt_blk bA_5.out)).trans bA_5.out)
    have bW_V5 := Lib.hid ((haV5.block (w3.heap.size) (lt_blk bW_5.out)).trans bW_5.out)
    have bX_V5 := Lib.hid ((haV5.block (w4.heap.size) (lt_blk bX_5.out)).trans bX_5.out)
    have Wi_V5 := Lib.hid (Wi_5.out.since haV5 (by omega))
    have Wl_V5 := Lib.hid (Wl_5.out.since haV5 (by omega))
    have Wdl_V5 := Lib.hid (Wdl_5.out.since haV5 (by omega))
    have Xi_V5 := Lib.hid (Xi_5.out.since haV5 (by omega))
    have Xl_V5 := Lib.hid (Xl_5.out.since haV5 (by omega))
    have Gi_V5 := Lib.hid (Gi_5.out.since haV5 (by omega))
    have Gl_V5 := Lib.hid (Gl_5.out.since haV5 (by omega))
    have Gdl_V5 := Lib.hid (Gdl_5.out.since haV5 (by omega))
    have bG_V5 := Lib.hid hnV5
    have hzV5 := haV5.size
    clear hV5 haV5 hnV5
    have HE6 := Lib.hid (eqNet_same an af A5 D5 A3 D3 ni c5 nl d5 c3 d3 ai al V5.heap.size V5 HNI.out HNL.out (Gi_V5.out.ints.mono (by omega)) (Gl_V5.out.lets.mono (by omega)) (Wi_V5.out.ints.mono (by omega)) (Wl_V5.out.lets.mono (by omega)) (Nat.le_refl _) (by omega) (by omega))
    refine HE6.out.mono ?_
    rintro e w6 ⟨rfl, ha6⟩
    have HB6 := Lib.hid (HBV5.out.trans (ha6.mono HBV5.out.size))
    have hz6 := ha6.size
    have bA_6 := Lib.hid ((ha6.block (w.heap.size) (lt_blk bA_V5.out)).trans bA_V5.out)
    have bW_6 := Lib.hid ((ha6.block (w3.heap.size) (lt_blk bW_V5.out)).trans bW_V5.out)
    have bX_6 := Lib.hid ((ha6.block (w4.heap.size) (lt_blk bX_V5.out)).trans bX_V5.out)
    have bG_6 := Lib.hid ((ha6.block (w5.heap.size) (lt_blk bG_V5.out)).trans bG_V5.out)
    have Wi_6 := Lib.hid (Wi_V5.out.since ha6 (by omega))
    have Wl_6 := Lib.hid (Wl_V5.out.since ha6 (by omega))
    have Wdl_6 := Lib.hid (Wdl_V5.out.since ha6 (by omega))
    have Xi_6 := Lib.hid (Xi_V5.out.since ha6 (by omega))
    have Xl_6 := Lib.hid (Xl_V5.out.since ha6 (by omega))
    have Gi_6 := Lib.hid (Gi_V5.out.since ha6 (by omega))
    have Gl_6 := Lib.hid (Gl_V5.out.since ha6 (by omega))
    have Gdl_6 := Lib.hid (Gdl_V5.out.since ha6 (by omega))
    clear ha6
    clear HE6
    have HE7 := Lib.hid (eqLetterS_same E5 E3 nd e5 e3 dl w6.heap.size w6 HND.out (Gdl_6.out.lets.mono (by omega)) (Wdl_6.out.lets.mono (by omega)) (Nat.le_refl _) (by omega))
    go_wp2_with fail
    refine HE7.out.mono ?_
    rintro e w7 ⟨rfl, ha7⟩
    have HB7 := Lib.hid (HB6.out.trans (ha7.mono HB6.out.size))
    have hz7 := ha7.size
    have bA_7 := Lib.hid ((ha7.block (w.heap.size) (lt_blk bA_6.out)).trans bA_6.out)
    have bW_7 := Lib.hid ((ha7.block (w3.heap.size) (lt_blk bW_6.out)).trans bW_6.out)
    have bX_7 := Lib.hid ((ha7.block (w4.heap.size) (lt_blk bX_6.out)).trans bX_6.out)
    have bG_7 := Lib.hid ((ha7.block (w5.heap.size) (lt_blk bG_6.out)).trans bG_6.out)
    have Wi_7 := Lib.hid (Wi_6.out.since ha7 (by omega))
    have Wl_7 := Lib.hid (Wl_6.out.since ha7 (by omega))
    have Wdl_7 := Lib.hid (Wdl_6.out.since ha7 (by omega))
    have Xi_7 := Lib.hid (Xi_6.out.since ha7 (by omega))
    have Xl_7 := Lib.hid (Xl_6.out.since ha7 (by omega))
    have Gi_7 := Lib.hid (Gi_6.out.since ha7 (by omega))
    have Gl_7 := Lib.hid (Gl_6.out.since ha7 (by omega))
    have Gdl_7 := Lib.hid (Gdl_6.out.since ha7 (by omega))
    clear ha7
    clear HE7
    have bA70 := cell_of_row _ _ 0 _ 25 (0, 0) bA_7.out
    have bA71 := cell_of_row _ _ 1 _ 25 (0, 0) bA_7.out
    have bA72 := cell_of_row _ _ 2 _ 25 (0, 0) bA_7.out
    have bA73 := cell_of_row _ _ 3 _ 25 (0, 0) bA_7.out
    have bA7l := lt_blk bA_7.out
    have bX70 := cell_of_row _ _ 0 _ 30 (0, 0) bX_7.out
    have bX71 := cell_of_row _ _ 1 _ 30 (0, 0) bX_7.out
    have bX72 := cell_of_row _ _ 2 _ 30 (0, 0) bX_7.out
    have bX73 := cell_of_row _ _ 3 _ 30 (0, 0) bX_7.out
    have bX7l := lt_blk bX_7.out
    go_wp2_with fail
    have s0 : w7.cell? ⟨w.heap.size, 0, none⟩ = some (.int .i64 now) := bA70
    have s1 : w7.cell? ⟨w.heap.size, 1, none⟩ = some (.slice A n c) := bA71
    have s2 : w7.cell? ⟨w.heap.size, 2, none⟩ = some (.int .i64 far) := bA72
    have s3 : w7.cell? ⟨w.heap.size, 3, none⟩ = some (.slice A' n' c') := bA73
    have s4 : w7.cell? ⟨w4.heap.size, 0, none⟩ = some (.int .i64 now) := bX70
    have s5 : w7.cell? ⟨w4.heap.size, 1, none⟩ = some (.slice A4 n c4) := bX71
    have s6 : w7.cell? ⟨w4.heap.size, 2, none⟩ = some (.int .i64 far) := bX72
    have s7 : w7.cell? ⟨w4.heap.size, 3, none⟩ = some (.slice D4 n' d4) := bX73
    have sA : w.heap.size < w7.heap.size := bA7l
    have sX : w4.heap.size < w7.heap.size := bX7l
    clear bA70 bA71 bA72 bA73 bA7l bX70 bX71 bX72 bX73 bX7l
    have HS0 : w7.drew.cell? ⟨w.heap.size, 0, none⟩ = some (.int .i64 now) ∧ w7.drew.cell? ⟨w.heap.size, 1, none⟩ = some (.slice A n c) ∧ w7.drew.cell? ⟨w.heap.size, 2, none⟩ = some (.int .i64 far) ∧ w7.drew.cell? ⟨w.heap.size, 3, none⟩ = some (.slice A' n' c') ∧ w7.drew.cell? ⟨w4.heap.size, 0, none⟩ = some (.int .i64 now) ∧ w7.drew.cell? ⟨w4.heap.size, 1, none⟩ = some (.slice A4 n c4) ∧ w7.drew.cell? ⟨w4.heap.size, 2, none⟩ = some (.int .i64 far) ∧ w7.drew.cell? ⟨w4.heap.size, 3, none⟩ = some (.slice D4 n' d4) := ⟨s0, s1, s2, s3, s4, s5, s6, s7⟩
    have HTQ := Lib.hid (fun W (hW : Below w7.heap.size w7 W) => HT.out W (HB7.out.trans (hW.mono HB7.out.size)))
    have HEQ := Lib.hid (fun (W : World) (C D : Option Addr) (cc dd lo : Nat) (hW : Below w7.heap.size w7 W) (hoi : OwnI W lo W.heap.size C cc is) (hol : OwnL W lo W.heap.size D dd ls) => eqNet_same now far A4 D4 C D n c4 n' d4 cc dd is ls W.heap.size W HN.out HN'.out ((Xi_7.out.since hW (by omega)).ints.mono (by have := hW.size; omega)) ((Xl_7.out.since hW (by omega)).lets.mono (by have := hW.size; omega)) hoi.ints hol.lets (Nat.le_refl _) (by omega) (by omega))
    have hbel := Below.refl w7.heap.size w7
    go_region_held3 (fun w' => w'.cell? ⟨w.heap.size, 0, none⟩ = some (.int .i64 now) ∧ w'.cell? ⟨w.heap.size, 1, none⟩ = some (.slice A n c) ∧ w'.cell? ⟨w.heap.size, 2, none⟩ = some (.int .i64 far) ∧ w'.cell? ⟨w.heap.size, 3, none⟩ = some (.slice A' n' c') ∧ w'.cell? ⟨w4.heap.size, 0, none⟩ = some (.int .i64 now) ∧ w'.cell? ⟨w4.heap.size, 1, none⟩ = some (.slice A4 n c4) ∧ w'.cell? ⟨w4.heap.size, 2, none⟩ = some (.int .i64 far) ∧ w'.cell? ⟨w4.heap.size, 3, none⟩ = some (.slice D4 n' d4))
      (first | with_reducible exact HS0 | with_reducible exact ⟨kept2 hQ1 s0 sA, kept2 hQ1 s1 sA, kept2 hQ1 s2 sA, kept2 hQ1 s3 sA, kept2 hQ1 s4 sX, kept2 hQ1 s5 sX, kept2 hQ1 s6 sX, kept2 hQ1 s7 sX⟩ | with_reducible exact ⟨kept2 hQ2 s0 sA, kept2 hQ2 s1 sA, kept2 hQ2 s2 sA, kept2 hQ2 s3 sA, kept2 hQ2 s4 sX, kept2 hQ2 s5 sX, kept2 hQ2 s6 sX, kept2 hQ2 s7 sX⟩ | fail)
      (first
        | (go_at_call 16; (with_reducible refine (HTQ.out _ hbel.drew).mono ?_); rintro e v1 ⟨A7, c7, D7, d7, rfl, hoi6, hol6, hv1⟩; have hQ1 : Below w7.heap.size w7 v1 := below_d0 hv1)
        | (go_at_call 18; (with_reducible refine (HEQ.out v1 A7 D7 c7 d7 _ hQ1 hoi6 hol6).mono ?_); rintro e w8 ⟨rfl, hv2⟩; have hQ2 : Below w7.heap.size w7 w8 := hQ1.trans (hv2.mono hQ1.size))
        | fail)
    have ha8 := hQ2
    clear hv1 hv2 hQ1 hQ2 hoi6 hol6 HS0 s0 s1 s2 s3 s4 s5 s6 s7 sA sX HTQ HEQ hbel
    try (rename_i hh7; clear hh7)
    have HB8 := Lib.hid (HB7.out.trans (ha8.mono HB7.out.size))
    have hz8 := ha8.size
    have bA_8 := Lib.hid ((ha8.block (w.heap.size) (lt_blk bA_7.out)).trans bA_7.out)
    have bW_8 := Lib.hid ((ha8.block (w3.heap.size) (lt_blk bW_7.out)).trans bW_7.out)
    have bX_8 := Lib.hid ((ha8.block (w4.heap.size) (lt_blk bX_7.out)).trans bX_7.out)
    have bG_8 := Lib.hid ((ha8.block (w5.heap.size) (lt_blk bG_7.out)).trans bG_7.out)
    have Wi_8 := Lib.hid (Wi_7.out.since ha8 (by omega))
    have Wl_8 := Lib.hid (Wl_7.out.since ha8 (by omega))
    have Wdl_8 := Lib.hid (Wdl_7.out.since ha8 (by omega))
    have Xi_8 := Lib.hid (Xi_7.out.since ha8 (by omega))
    have Xl_8 := Lib.hid (Xl_7.out.since ha8 (by omega))
    have Gi_8 := Lib.hid (Gi_7.out.since ha8 (by omega))
    have Gl_8 := Lib.hid (Gl_7.out.since ha8 (by omega))
    have Gdl_8 := Lib.hid (Gdl_7.out.since ha8 (by omega))
    clear ha8
    have bX80 := cell_of_row _ _ 0 _ 30 (0, 0) bX_8.out
    have bX81 := cell_of_row _ _ 1 _ 30 (0, 0) bX_8.out
    have bX82 := cell_of_row _ _ 2 _ 30 (0, 0) bX_8.out
    have bX83 := cell_of_row _ _ 3 _ 30 (0, 0) bX_8.out
    have bX8l := lt_blk bX_8.out
    have HM9 := Lib.hid (markNet_any now far A4 D4 n c4 n' d4 1 _ _ is ls w8 HN.out HN'.out Xi_8.out Xl_8.out (by omega) (by omega) (Nat.le_refl _) (by omega))
    rw [HMX.out] at HM9
    go_wp2_with fail
    refine HM9.out.mono ?_
    rintro e w9 ⟨rfl, hmi9, hml9, hmm9⟩
    clear bX80 bX81 bX82 bX83 bX8l
    have hz9 := hmm9.2.2.2.1
    have HB9 := Lib.hid (HB8.out.trans ((hmm9.below (by omega)).mono (by omega)))
    have bA_9 := Lib.hid ((hmm9.2.2.2.2 (w.heap.size) (lt_blk bA_8.out) (by omega)).trans bA_8.out)
    have bW_9 := Lib.hid ((hmm9.2.2.2.2 (w3.heap.size) (lt_blk bW_8.out) (by omega)).trans bW_8.out)
    have bX_9 := Lib.hid ((hmm9.2.2.2.2 (w4.heap.size) (lt_blk bX_8.out) (by omega)).trans bX_8.out)
    have bG_9 := Lib.hid ((hmm9.2.2.2.2 (w5.heap.size) (lt_blk bG_8.out) (by omega)).trans bG_8.out)
    have Wi_9 := Lib.hid (Wi_8.out.mid hmm9 (by omega))
    have Wl_9 := Lib.hid (Wl_8.out.mid hmm9 (by omega))
    have Wdl_9 := Lib.hid (Wdl_8.out.mid hmm9 (by omega))
    have Gi_9 := Lib.hid (Gi_8.out.mid hmm9 (by omega))
    have Gl_9 := Lib.hid (Gl_8.out.mid hmm9 (by omega))
    have Gdl_9 := Lib.hid (Gdl_8.out.mid hmm9 (by omega))
    clear hmi9 hml9 hmm9 HM9
    have bW90 := cell_of_row _ _ 0 _ 30 (0, 0) bW_9.out
    have bW91 := cell_of_row _ _ 1 _ 30 (0, 0) bW_9.out
    have bW92 := cell_of_row _ _ 2 _ 30 (0, 0) bW_9.out
    have bW93 := cell_of_row _ _ 3 _ 30 (0, 0) bW_9.out
    have bW9l := lt_blk bW_9.out
    have bG90 := cell_of_row _ _ 0 _ 30 (0, 0) bG_9.out
    have bG91 := cell_of_row _ _ 1 _ 30 (0, 0) bG_9.out
    have bG92 := cell_of_row _ _ 2 _ 30 (0, 0) bG_9.out
    have bG93 := cell_of_row _ _ 3 _ 30 (0, 0) bG_9.out
    have bG9l := lt_blk bG_9.out
    have HE10 := Lib.hid (eqNet_same an af A5 D5 A3 D3 ni c5 nl d5 c3 d3 ai al w9.heap.size w9 HNI.out HNL.out (Gi_9.out.ints.mono (by omega)) (Gl_9.out.lets.mono (by omega)) (Wi_9.out.ints.mono (by omega)) (Wl_9.out.lets.mono (by omega)) (Nat.le_refl _) (by omega) (by omega))
    go_wp2_with fail
    refine HE10.out.mono ?_
    rintro e w10 ⟨rfl, ha10⟩
    clear bW90 bW91 bW92 bW93 bW9l bG90 bG91 bG92 bG93 bG9l
    have HB10 := Lib.hid (HB9.out.trans (ha10.mono HB9.out.size))
    have hz10 := ha10.size
    have bA_10 := Lib.hid ((ha10.block (w.heap.size) (lt_blk bA_9.out)).trans bA_9.out)
    have bW_10 := Lib.hid ((ha10.block (w3.heap.size) (lt_blk bW_9.out)).trans bW_9.out)
    have bG_10 := Lib.hid ((ha10.block (w5.heap.size) (lt_blk bG_9.out)).trans bG_9.out)
    have Wi_10 := Lib.hid (Wi_9.out.since ha10 (by omega))
    have Wl_10 := Lib.hid (Wl_9.out.since ha10 (by omega))
    have Wdl_10 := Lib.hid (Wdl_9.out.since ha10 (by omega))
    have Gi_10 := Lib.hid (Gi_9.out.since ha10 (by omega))
    have Gl_10 := Lib.hid (Gl_9.out.since ha10 (by omega))
    have Gdl_10 := Lib.hid (Gdl_9.out.since ha10 (by omega))
    clear ha10
    clear HE10
    have HE11 := Lib.hid (eqLetterS_same E5 E3 nd e5 e3 dl w10.heap.size w10 HND.out (Gdl_10.out.lets.mono (by omega)) (Wdl_10.out.lets.mono (by omega)) (Nat.le_refl _) (by omega))
    go_wp2_with fail
    refine HE11.out.mono ?_
    rintro e w11 ⟨rfl, ha11⟩
    have HB11 := Lib.hid (HB10.out.trans (ha11.mono HB10.out.size))
    have hz11 := ha11.size
    have bA_11 := Lib.hid ((ha11.block (w.heap.size) (lt_blk bA_10.out)).trans bA_10.out)
    have bW_11 := Lib.hid ((ha11.block (w3.heap.size) (lt_blk bW_10.out)).trans bW_10.out)
    have bG_11 := Lib.hid ((ha11.block (w5.heap.size) (lt_blk bG_10.out)).trans bG_10.out)
    have Wi_11 := Lib.hid (Wi_10.out.since ha11 (by omega))
    have Wl_11 := Lib.hid (Wl_10.out.since ha11 (by omega))
    have Wdl_11 := Lib.hid (Wdl_10.out.since ha11 (by omega))
    have Gi_11 := Lib.hid (Gi_10.out.since ha11 (by omega))
    have Gl_11 := Lib.hid (Gl_10.out.since ha11 (by omega))
    have Gdl_11 := Lib.hid (Gdl_10.out.since ha11 (by omega))
    clear ha11
    clear HE11
    have bG110 := cell_of_row _ _ 0 _ 30 (0, 0) bG_11.out
    have bG111 := cell_of_row _ _ 1 _ 30 (0, 0) bG_11.out
    have bG112 := cell_of_row _ _ 2 _ 30 (0, 0) bG_11.out
    have bG113 := cell_of_row _ _ 3 _ 30 (0, 0) bG_11.out
    have bG11l := lt_blk bG_11.out
    have HM12 := Lib.hid (markNet_apart an af A5 D5 E5 ni c5 nl d5 e5 1 _ _ ai al dl w11 HNI.out HNL.out Gi_11.out Gl_11.out Gdl_11.out Gap.out (by omega) (by omega) (Nat.le_refl _) (by have := HGG.out; omega))
    rw [HMG.out] at HM12
    go_wp2_with fail
    refine HM12.out.mono ?_
    rintro e w12 ⟨rfl, hmi12, hml12, hmd12, hmm12⟩
    clear bG110 bG111 bG112 bG113 bG11l
    have hz12 := hmm12.2.2.2.1
    have HB12 := Lib.hid (HB11.out.trans ((hmm12.below (by omega)).mono (by omega)))
    have bA_12 := Lib.hid ((hmm12.2.2.2.2 (w.heap.size) (lt_blk bA_11.out) (by omega)).trans bA_11.out)
    have bW_12 := Lib.hid ((hmm12.2.2.2.2 (w3.heap.size) (lt_blk bW_11.out) (by omega)).trans bW_11.out)
    have bG_12 := Lib.hid ((hmm12.2.2.2.2 (w5.heap.size) (lt_blk bG_11.out) (by omega)).trans bG_11.out)
    have Wi_12 := Lib.hid (Wi_11.out.mid hmm12 (by omega))
    have Wl_12 := Lib.hid (Wl_11.out.mid hmm12 (by omega))
    have Wdl_12 := Lib.hid (Wdl_11.out.mid hmm12 (by omega))
    have Gi_12 := Lib.hid hmi12
    have Gl_12 := Lib.hid hml12
    have Gdl_12 := Lib.hid hmd12
    clear hmi12 hml12 hmd12 hmm12 HM12
    have HM13 := Lib.hid (markLetterS_any E5 nd e5 mg _ _ dl w12 HND.out Gdl_12.out hmg1 HM2.out)
    rw [HMH.out] at HM13
    go_wp2_with fail
    refine HM13.out.mono ?_
    rintro e w13 ⟨rfl, hmd13, hma13⟩
    have hmm13 := hma13.mid (own_range Gdl_12.out)
    have Gi_13 := Lib.hid (show OwnI w13 _ _ _ _ _ from Own.midA Gi_12.out hma13 (own_apart Gdl_12.out Gi_12.out (by decide)))
    have Gl_13 := Lib.hid (show OwnL w13 _ _ _ _ _ from Own.midA Gl_12.out hma13 (fun x y hx hy => Ne.symm (Gap.out y x hy hx)))
    have hz13 := hmm13.2.2.2.1
    have HB13 := Lib.hid (HB12.out.trans ((hmm13.below (by omega)).mono (by omega)))
    have bA_13 := Lib.hid ((hmm13.2.2.2.2 (w.heap.size) (lt_blk bA_12.out) (by omega)).trans bA_12.out)
    have bW_13 := Lib.hid ((hmm13.2.2.2.2 (w3.heap.size) (lt_blk bW_12.out) (by omega)).trans bW_12.out)
    have bG_13 := Lib.hid ((hmm13.2.2.2.2 (w5.heap.size) (lt_blk bG_12.out) (by omega)).trans bG_12.out)
    have Wi_13 := Lib.hid (Wi_12.out.mid hmm13 (by omega))
    have Wl_13 := Lib.hid (Wl_12.out.mid hmm13 (by omega))
    have Wdl_13 := Lib.hid (Wdl_12.out.mid hmm13 (by omega))
    have Gdl_13 := Lib.hid hmd13
    clear hmd13 hmm13 hma13 HM13
    have bG130 := cell_of_row _ _ 0 _ 30 (0, 0) bG_13.out
    have bG131 := cell_of_row _ _ 1 _ 30 (0, 0) bG_13.out
    have bG132 := cell_of_row _ _ 2 _ 30 (0, 0) bG_13.out
    have bG133 := cell_of_row _ _ 3 _ 30 (0, 0) bG_13.out
    have bG13l := lt_blk bG_13.out
    have HH14 := Lib.hid (heldNet_any an af A5 D5 ni c5 nl d5 1 w13.heap.size w13 (OwnI.ints Gi_13.out |>.mono (by omega)) (OwnL.lets Gl_13.out |>.mono (by omega)) (Nat.le_refl _) (Nat.le_refl _) (by have := HGG.out; omega))
    rw [HMG.out] at HH14
    go_wp2_with fail
    refine HH14.out.mono ?_
    rintro e w14 ⟨rfl, ha14⟩
    clear bG130 bG131 bG132 bG133 bG13l
    have HB14 := Lib.hid (HB13.out.trans (ha14.mono HB13.out.size))
    have hz14 := ha14.size
    have bA_14 := Lib.hid ((ha14.block (w.heap.size) (lt_blk bA_13.out)).trans bA_13.out)
    have bW_14 := Lib.hid ((ha14.block (w3.heap.size) (lt_blk bW_13.out)).trans bW_13.out)
    have bG_14 := Lib.hid ((ha14.block (w5.heap.size) (lt_blk bG_13.out)).trans bG_13.out)
    have Wi_14 := Lib.hid (Wi_13.out.since ha14 (by omega))
    have Wl_14 := Lib.hid (Wl_13.out.since ha14 (by omega))
    have Wdl_14 := Lib.hid (Wdl_13.out.since ha14 (by omega))
    have Gi_14 := Lib.hid (Gi_13.out.since ha14 (by omega))
    have Gl_14 := Lib.hid (Gl_13.out.since ha14 (by omega))
    have Gdl_14 := Lib.hid (Gdl_13.out.since ha14 (by omega))
    clear ha14
    clear HH14
    have HH15 := Lib.hid (heldLetterS_any E5 nd e5 mg w14.heap.size w14 (OwnL.lets Gdl_14.out |>.mono (by omega)) (Nat.le_refl _) hmg1 HM2.out)
    rw [HMH.out] at HH15
    go_wp2_with fail
    refine HH15.out.mono ?_
    rintro e w15 ⟨rfl, ha15⟩
    have HB15 := Lib.hid (HB14.out.trans (ha15.mono HB14.out.size))
    have hz15 := ha15.size
    have bA_15 := Lib.hid ((ha15.block (w.heap.size) (lt_blk bA_14.out)).trans bA_14.out)
    have bW_15 := Lib.hid ((ha15.block (w3.heap.size) (lt_blk bW_14.out)).trans bW_14.out)
    have bG_15 := Lib.hid ((ha15.block (w5.heap.size) (lt_blk bG_14.out)).trans bG_14.out)
    have Wi_15 := Lib.hid (Wi_14.out.since ha15 (by omega))
    have Wl_15 := Lib.hid (Wl_14.out.since ha15 (by omega))
    have Wdl_15 := Lib.hid (Wdl_14.out.since ha15 (by omega))
    have Gi_15 := Lib.hid (Gi_14.out.since ha15 (by omega))
    have Gl_15 := Lib.hid (Gl_14.out.since ha15 (by omega))
    have Gdl_15 := Lib.hid (Gdl_14.out.since ha15 (by omega))
    clear ha15
    clear HH15
    have bA150 := cell_of_row _ _ 0 _ 25 (0, 0) bA_15.out
    have bA151 := cell_of_row _ _ 1 _ 25 (0, 0) bA_15.out
    have bA152 := cell_of_row _ _ 2 _ 25 (0, 0) bA_15.out
    have bA153 := cell_of_row _ _ 3 _ 25 (0, 0) bA_15.out
    have bA15l := lt_blk bA_15.out
    go_wp2_with fail
    refine (HT.out _ HB15.out).mono ?_
    rintro e w16 ⟨A16, c16, D16, d16, rfl, hoi16, hol16, ha16⟩
    clear bA150 bA151 bA152 bA153 bA15l
    have HB16 := Lib.hid (HB15.out.trans (ha16.mono HB15.out.size))
    have hz16 := ha16.size
    have bA_16 := Lib.hid ((ha16.block (w.heap.size) (lt_blk bA_15.out)).trans bA_15.out)
    have bW_16 := Lib.hid ((ha16.block (w3.heap.size) (lt_blk bW_15.out)).trans bW_15.out)
    have bG_16 := Lib.hid ((ha16.block (w5.heap.size) (lt_blk bG_15.out)).trans bG_15.out)
    have Wi_16 := Lib.hid (Wi_15.out.since ha16 (by omega))
    have Wl_16 := Lib.hid (Wl_15.out.since ha16 (by omega))
    have Wdl_16 := Lib.hid (Wdl_15.out.since ha16 (by omega))
    have Gi_16 := Lib.hid (Gi_15.out.since ha16 (by omega))
    have Gl_16 := Lib.hid (Gl_15.out.since ha16 (by omega))
    have Gdl_16 := Lib.hid (Gdl_15.out.since ha16 (by omega))
    clear ha16
    have Zi_16 := Lib.hid hoi16
    have Zl_16 := Lib.hid hol16
    clear hoi16 hol16
    go_wp2_with fail
    refine (HI.out _ A16 D16 c16 d16 _ _ Zi_16.out Zl_16.out (by omega)).mono ?_
    rintro e w17 ⟨A17, c17, D17, d17, E17, e17, rfl, hoi17, hol17, hod17, hap17, ha17⟩
    have HB17 := Lib.hid (HB16.out.trans (ha17.mono HB16.out.size))
    have hz17 := ha17.size
    have bA_17 := Lib.hid ((ha17.block (w.heap.size) (lt_blk bA_16.out)).trans bA_16.out)
    have bW_17 := Lib.hid ((ha17.block (w3.heap.size) (lt_blk bW_16.out)).trans bW_16.out)
    have bG_17 := Lib.hid ((ha17.block (w5.heap.size) (lt_blk bG_16.out)).trans bG_16.out)
    have Wi_17 := Lib.hid (Wi_16.out.since ha17 (by omega))
    have Wl_17 := Lib.hid (Wl_16.out.since ha17 (by omega))
    have Wdl_17 := Lib.hid (Wdl_16.out.since ha17 (by omega))
    have Gi_17 := Lib.hid (Gi_16.out.since ha17 (by omega))
    have Gl_17 := Lib.hid (Gl_16.out.since ha17 (by omega))
    have Gdl_17 := Lib.hid (Gdl_16.out.since ha17 (by omega))
    have Zi_17 := Lib.hid (Zi_16.out.since ha17 (by omega))
    have Zl_17 := Lib.hid (Zl_16.out.since ha17 (by omega))
    clear ha17
    have Hi_17 := Lib.hid hoi17
    have Hl_17 := Lib.hid hol17
    have Hdl_17 := Lib.hid hod17
    have Hap := Lib.hid hap17
    clear hoi17 hol17 hod17 hap17
    have bA170 := cell_of_row _ _ 0 _ 25 (0, 0) bA_17.out
    have bA171 := cell_of_row _ _ 1 _ 25 (0, 0) bA_17.out
    have bA172 := cell_of_row _ _ 2 _ 25 (0, 0) bA_17.out
    have bA173 := cell_of_row _ _ 3 _ 25 (0, 0) bA_17.out
    have bA17l := lt_blk bA_17.out
    have bW170 := cell_of_row _ _ 0 _ 30 (0, 0) bW_17.out
    have bW171 := cell_of_row _ _ 1 _ 30 (0, 0) bW_17.out
    have bW172 := cell_of_row _ _ 2 _ 30 (0, 0) bW_17.out
    have bW173 := cell_of_row _ _ 3 _ 30 (0, 0) bW_17.out
    have bW17l := lt_blk bW_17.out
    have bG170 := cell_of_row _ _ 0 _ 30 (0, 0) bG_17.out
    have bG171 := cell_of_row _ _ 1 _ 30 (0, 0) bG_17.out
    have bG172 := cell_of_row _ _ 2 _ 30 (0, 0) bG_17.out
    have bG173 := cell_of_row _ _ 3 _ 30 (0, 0) bG_17.out
    have bG17l := lt_blk bG_17.out
    go_wp2_with fail
    obtain ⟨V17, hV17⟩ : ∃ V17, V17 = w17.alloc (.cells #[.int .i64 an, .slice A17 ni c17, .int .i64 af, .slice D17 nl d17] 30) := ⟨_, rfl⟩
    have haV17 := below1 w17 (.cells #[.int .i64 an, .slice A17 ni c17, .int .i64 af, .slice D17 nl d17] 30)
    have hnV17 := heap_alloc_new w17 (.cells #[.int .i64 an, .slice A17 ni c17, .int .i64 af, .slice D17 nl d17] 30)
    rw [← hV17] at haV17 hnV17 ⊢
    have hsV17 : V17.heap.size = w17.heap.size + 1 := by rw [hV17]; simp
    clear bA170 bA171 bA172 bA173 bA17l bW170 bW171 bW172 bW173 bW17l bG170 bG171 bG172 bG173 bG17l
    have HBV17 := Lib.hid (HB17.out.trans (haV17.mono HB17.out.size))
    have bA_V17 := Lib.hid ((haV17.block (w.heap.size) (lt_blk bA_17.out)).trans bA_17.out)
    have bW_V17 := Lib.hid ((haV17.block (w3.heap.size) (lt_blk bW_17.out)).trans bW_17.out)
    have bG_V17 := Lib.hid ((haV17.block (w5.heap.size) (lt_blk bG_17.out)).trans bG_17.out)
    have Wi_V17 := Lib.hid (Wi_17.out.since haV17 (by omega))
    have Wl_V17 := Lib.hid (Wl_17.out.since haV17 (by omega))
    have Wdl_V17 := Lib.hid (Wdl_17.out.since haV17 (by omega))
    have Gi_V17 := Lib.hid (Gi_17.out.since haV17 (by omega))
    have Gl_V17 := Lib.hid (Gl_17.out.since haV17 (by omega))
    have Gdl_V17 := Lib.hid (Gdl_17.out.since haV17 (by omega))
    have Hi_V17 := Lib.hid (Hi_17.out.since haV17 (by omega))
    have Hl_V17 := Lib.hid (Hl_17.out.since haV17 (by omega))
    have Hdl_V17 := Lib.hid (Hdl_17.out.since haV17 (by omega))
    have bH_V17 := Lib.hid hnV17
    have hzV17 := haV17.size
    clear hV17 haV17 hnV17
    have HE18 := Lib.hid (eqNet_same an af A17 D17 A3 D3 ni c17 nl d17 c3 d3 ai al V17.heap.size V17 HNI.out HNL.out (Hi_V17.out.ints.mono (by omega)) (Hl_V17.out.lets.mono (by omega)) (Wi_V17.out.ints.mono (by omega)) (Wl_V17.out.lets.mono (by omega)) (Nat.le_refl _) (by omega) (by omega))
    refine HE18.out.mono ?_
    rintro e w18 ⟨rfl, ha18⟩
    have HB18 := Lib.hid (HBV17.out.trans (ha18.mono HBV17.out.size))
    have hz18 := ha18.size
    have bA_18 := Lib.hid ((ha18.block (w.heap.size) (lt_blk bA_V17.out)).trans bA_V17.out)
    have bW_18 := Lib.hid ((ha18.block (w3.heap.size) (lt_blk bW_V17.out)).trans bW_V17.out)
    have bG_18 := Lib.hid ((ha18.block (w5.heap.size) (lt_blk bG_V17.out)).trans bG_V17.out)
    have bH_18 := Lib.hid ((ha18.block (w17.heap.size) (lt_blk bH_V17.out)).trans bH_V17.out)
    have Wi_18 := Lib.hid (Wi_V17.out.since ha18 (by omega))
    have Wl_18 := Lib.hid (Wl_V17.out.since ha18 (by omega))
    have Wdl_18 := Lib.hid (Wdl_V17.out.since ha18 (by omega))
    have Gi_18 := Lib.hid (Gi_V17.out.since ha18 (by omega))
    have Gl_18 := Lib.hid (Gl_V17.out.since ha18 (by omega))
    have Gdl_18 := Lib.hid (Gdl_V17.out.since ha18 (by omega))
    have Hi_18 := Lib.hid (Hi_V17.out.since ha18 (by omega))
    have Hl_18 := Lib.hid (Hl_V17.out.since ha18 (by omega))
    have Hdl_18 := Lib.hid (Hdl_V17.out.since ha18 (by omega))
    clear ha18
    clear HE18
    have HE19 := Lib.hid (eqLetterS_same E17 E3 nd e17 e3 dl w18.heap.size w18 HND.out (Hdl_18.out.lets.mono (by omega)) (Wdl_18.out.lets.mono (by omega)) (Nat.le_refl _) (by omega))
    go_wp2_with fail
    refine HE19.out.mono ?_
    rintro e w19 ⟨rfl, ha19⟩
    have HB19 := Lib.hid (HB18.out.trans (ha19.mono HB18.out.size))
    have hz19 := ha19.size
    have bA_19 := Lib.hid ((ha19.block (w.heap.size) (lt_blk bA_18.out)).trans bA_18.out)
    have bW_19 := Lib.hid ((ha19.block (w3.heap.size) (lt_blk bW_18.out)).trans bW_18.out)
    have bG_19 := Lib.hid ((ha19.block (w5.heap.size) (lt_blk bG_18.out)).trans bG_18.out)
    have bH_19 := Lib.hid ((ha19.block (w17.heap.size) (lt_blk bH_18.out)).trans bH_18.out)
    have Wi_19 := Lib.hid (Wi_18.out.since ha19 (by omega))
    have Wl_19 := Lib.hid (Wl_18.out.since ha19 (by omega))
    have Wdl_19 := Lib.hid (Wdl_18.out.since ha19 (by omega))
    have Gi_19 := Lib.hid (Gi_18.out.since ha19 (by omega))
    have Gl_19 := Lib.hid (Gl_18.out.since ha19 (by omega))
    have Gdl_19 := Lib.hid (Gdl_18.out.since ha19 (by omega))
    have Hi_19 := Lib.hid (Hi_18.out.since ha19 (by omega))
    have Hl_19 := Lib.hid (Hl_18.out.since ha19 (by omega))
    have Hdl_19 := Lib.hid (Hdl_18.out.since ha19 (by omega))
    clear ha19
    clear HE19
    have bG190 := cell_of_row _ _ 0 _ 30 (0, 0) bG_19.out
    have bG191 := cell_of_row _ _ 1 _ 30 (0, 0) bG_19.out
    have bG192 := cell_of_row _ _ 2 _ 30 (0, 0) bG_19.out
    have bG193 := cell_of_row _ _ 3 _ 30 (0, 0) bG_19.out
    have bG19l := lt_blk bG_19.out
    have HH20 := Lib.hid (heldNet_any an af A5 D5 ni c5 nl d5 1 w19.heap.size w19 (OwnI.ints Gi_19.out |>.mono (by omega)) (OwnL.lets Gl_19.out |>.mono (by omega)) (Nat.le_refl _) (Nat.le_refl _) (by have := HGG.out; omega))
    rw [HMG.out] at HH20
    go_wp2_with fail
    refine HH20.out.mono ?_
    rintro e w20 ⟨rfl, ha20⟩
    clear bG190 bG191 bG192 bG193 bG19l
    have HB20 := Lib.hid (HB19.out.trans (ha20.mono HB19.out.size))
    have hz20 := ha20.size
    have bA_20 := Lib.hid ((ha20.block (w.heap.size) (lt_blk bA_19.out)).trans bA_19.out)
    have bW_20 := Lib.hid ((ha20.block (w3.heap.size) (lt_blk bW_19.out)).trans bW_19.out)
    have bG_20 := Lib.hid ((ha20.block (w5.heap.size) (lt_blk bG_19.out)).trans bG_19.out)
    have bH_20 := Lib.hid ((ha20.block (w17.heap.size) (lt_blk bH_19.out)).trans bH_19.out)
    have Wi_20 := Lib.hid (Wi_19.out.since ha20 (by omega))
    have Wl_20 := Lib.hid (Wl_19.out.since ha20 (by omega))
    have Wdl_20 := Lib.hid (Wdl_19.out.since ha20 (by omega))
    have Gi_20 := Lib.hid (Gi_19.out.since ha20 (by omega))
    have Gl_20 := Lib.hid (Gl_19.out.since ha20 (by omega))
    have Gdl_20 := Lib.hid (Gdl_19.out.since ha20 (by omega))
    have Hi_20 := Lib.hid (Hi_19.out.since ha20 (by omega))
    have Hl_20 := Lib.hid (Hl_19.out.since ha20 (by omega))
    have Hdl_20 := Lib.hid (Hdl_19.out.since ha20 (by omega))
    clear ha20
    clear HH20
    have HH21 := Lib.hid (heldLetterS_any E5 nd e5 mg w20.heap.size w20 (OwnL.lets Gdl_20.out |>.mono (by omega)) (Nat.le_refl _) hmg1 HM2.out)
    rw [HMH.out] at HH21
    go_wp2_with fail
    refine HH21.out.mono ?_
    rintro e w21 ⟨rfl, ha21⟩
    have HB21 := Lib.hid (HB20.out.trans (ha21.mono HB20.out.size))
    have hz21 := ha21.size
    have bA_21 := Lib.hid ((ha21.block (w.heap.size) (lt_blk bA_20.out)).trans bA_20.out)
    have bW_21 := Lib.hid ((ha21.block (w3.heap.size) (lt_blk bW_20.out)).trans bW_20.out)
    have bG_21 := Lib.hid ((ha21.block (w5.heap.size) (lt_blk bG_20.out)).trans bG_20.out)
    have bH_21 := Lib.hid ((ha21.block (w17.heap.size) (lt_blk bH_20.out)).trans bH_20.out)
    have Wi_21 := Lib.hid (Wi_20.out.since ha21 (by omega))
    have Wl_21 := Lib.hid (Wl_20.out.since ha21 (by omega))
    have Wdl_21 := Lib.hid (Wdl_20.out.since ha21 (by omega))
    have Gi_21 := Lib.hid (Gi_20.out.since ha21 (by omega))
    have Gl_21 := Lib.hid (Gl_20.out.since ha21 (by omega))
    have Gdl_21 := Lib.hid (Gdl_20.out.since ha21 (by omega))
    have Hi_21 := Lib.hid (Hi_20.out.since ha21 (by omega))
    have Hl_21 := Lib.hid (Hl_20.out.since ha21 (by omega))
    have Hdl_21 := Lib.hid (Hdl_20.out.since ha21 (by omega))
    clear ha21
    clear HH21
    go_wp2
    go_ret
    exact ⟨rfl, HB21.out⟩
  · rw [remI_no (show 1048576 < n + szLs ls by omega)] at HZ
    clear h hn hA hln hn' hL hmx
    go_enter Try.func10, Try.ntmps10
    go_wp2_with fail
    refine (HZ.out _ hb0).mono ?_
    rintro e w1 ⟨rfl, ha1⟩
    have HB := Lib.hid (hb0.trans (ha1.mono hb0.size))
    clear ha1
    go_wp2
    go_ret
    exact ⟨rfl, HB.out⟩
end Go.Proofs.Ytkfphbbbidemcaa.Nt
