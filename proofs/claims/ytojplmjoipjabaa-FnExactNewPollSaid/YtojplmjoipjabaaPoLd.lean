/-
  The walk of the exact law NewPoll.
-/
import Derived.Test.YtojplmjoipjabaaPoW0
import Derived.Test.YtojplmjoipjabaaPoNew
import Derived.Test.YtojplmjoipjabaaPoNewS
import Derived.Test.YtojplmjoipjabaaPoMk2
namespace Go.Proofs.Ytojplmjoipjabaa.Po
open Go.RowKit Nt
set_option linter.unusedVariables false
set_option linter.unusedSimpArgs false

theorem PAPost_un (av : List ((Bool × Int × Int × Bool) × List Int)) (an : Int) (ai : List Int) (af : Int) (al : List (Int × Int × Int × ByteArray)) (aw : List (Int × Int)) (ok : Bool) (w : World) : PAPost (av, an, ai, af, al, aw, ok) w = fun e w' => ∃ A c gs A1 c1 A2 c2 A3 c3, e = .returned (.tuple #[.agg #[.slice A av.length c, .int .i64 an, .slice A1 ai.length c1, .int .i64 af, .slice A2 al.length c2, .slice A3 aw.length c3], .bool ok]) ∧ gs.map vdat = av ∧ OwnP w' w.heap.size w'.heap.size A c gs A1 c1 ai A2 c2 al A3 c3 aw ∧ Below w.heap.size w w' := rfl
theorem newPA_small (is : List Int) (far : Int) : (newPA is far).1.length ≤ 1048576 ∧ (∀ v ∈ (newPA is far).1, v.2 = []) ∧ (newPA is far).2.2.1.length ≤ 1048576 ∧ (newPA is far).2.2.2.2.1.length ≤ 2000000 ∧ (newPA is far).2.2.2.2.2.1.length ≤ 2000000 := by
  unfold newPA
  split
  · rename_i h
    have h5 : is.length = 3 ∨ is.length = 5 := by
      unfold newB at h
      rw [Bool.and_eq_true] at h
      simpa [sizeB] using h.2
    refine ⟨by simp; omega, fun v hv => ?_, by simp only; omega, by simp, by simp⟩
    rw [List.eq_of_mem_replicate hv]
    rfl
  · simp [noPA]
theorem vsmall_av {gs : List ((Bool × Int × Int × Bool) × Option Addr × Nat × List Int)} {av : List ((Bool × Int × Int × Bool) × List Int)} (hd : gs.map vdat = av) (hl : av.length ≤ 1048576) (h : ∀ v ∈ av, v.2 = []) : VtSmall gs := by
  refine ⟨by rw [← hd, List.length_map] at hl; exact hl, fun x hx => ?_⟩
  have := h (vdat x) (by rw [← hd]; exact List.mem_map_of_mem hx)
  have h2 : x.2.2.2 = [] := this
  rw [h2]; simp

set_option maxRecDepth 100000 in
set_option maxHeartbeats 16000000 in
theorem newPoll_walk (w : World) (A : Option Addr) (n c : Nat) (is : List Int) (hn : is.length = n) (hln : n ≤ maxLen) (hA : IntsB w w.heap.size A is) (far : Int) (hwf : (Lit.int .i64 far).wf = true) :
    Calls Try.prog 4 #[.slice A n c, .int .i64 far] w fun e w' => e = .returned (.bool true) ∧ Below w.heap.size w w' := by
  by_cases h : n ≤ 1048576
  · have hi1 : (n : Int) ≤ 1048576 := by omega
    have ht := fun W (hW : Below w.heap.size w W) => toIntS_any A n c is w.heap.size W hn (hA.below hW) hW.size h
    unfold ToIPost at ht
    have HT := Lib.hid ht
    clear ht
    have hspec := fun (W : World) (C : Option Addr) (d lo hi : Nat) (hoi : OwnI W lo hi C d is) (hh : hi ≤ W.heap.size) => specNewPoll_any C n d is far W.heap.size W hn (hoi.ints.mono hh) (Nat.le_refl _) h
    have himpl := fun (W : World) (C : Option Addr) (d lo hi : Nat) (hoi : OwnI W lo hi C d is) (hh : hi ≤ W.heap.size) => implNewPoll_any C n d is far W.heap.size W hn (hoi.ints.mono hh) (Nat.le_refl _) h
    have hsm := newPA_small is far
    obtain ⟨⟨av, an, ai, af, al, aw, ok⟩, hr⟩ : ∃ r, r = newPA is far := ⟨_, rfl⟩
    rw [← hr] at hsm
    simp only [← hr] at hspec himpl
    simp only [PAPost_un] at hspec himpl
    simp only at hsm
    obtain ⟨na, hna⟩ : ∃ na, na = av.length := ⟨_, rfl⟩
    obtain ⟨ni, hni⟩ : ∃ ni, ni = ai.length := ⟨_, rfl⟩
    obtain ⟨nl, hnl⟩ : ∃ nl, nl = al.length := ⟨_, rfl⟩
    obtain ⟨nw, hnw⟩ : ∃ nw, nw = aw.length := ⟨_, rfl⟩
    rw [← hna, ← hni, ← hnl, ← hnw] at hsm
    simp only [← hna, ← hni, ← hnl, ← hnw] at hspec himpl
    obtain ⟨hsm0, hsm1, hsm2, hsm3, hsm4⟩ := hsm
    have HSM := Lib.hid (fun (gs : List ((Bool × Int × Int × Bool) × Option Addr × Nat × List Int)) (hd : gs.map vdat = av) => show VtSmall gs from vsmall_av hd (by omega) hsm1)
    have HAK := Lib.hid (show afterP 1 av ni nl nw ≤ 1000000000 from by
      have := afterD_few 1 0 av (fun v hv => by rw [hsm1 v hv]; exact Nat.le_refl _)
      unfold afterP
      omega)
    clear hsm1
    have HS := Lib.hid hspec
    have HI := Lib.hid himpl
    have HNA := Lib.hid hna.symm
    have HNI := Lib.hid hni.symm
    have HNL := Lib.hid hnl.symm
    have HNW := Lib.hid hnw.symm
    have HN := Lib.hid hn
    have m1 : (0 : Int) ≤ ((1 + n : Nat) : Int) := by omega
    have m2 : (0 : Int) ≤ ((afterP 1 av ni nl nw : Nat) : Int) := by omega
    obtain ⟨mx, hmxx⟩ : ∃ mx, mx = 1 + n := ⟨_, rfl⟩
    obtain ⟨mg, hmgg⟩ : ∃ mg, mg = afterP 1 av ni nl nw := ⟨_, rfl⟩
    rw [← hmxx] at m1
    rw [← hmgg] at m2
    have HMX := Lib.hid hmxx.symm
    have HMG := Lib.hid hmgg.symm
    have HB0 := Lib.hid (Below.refl w.heap.size w)
    clear hspec himpl hr hna hni hnl hnw hA hn hln hmxx hmgg hwf
    go_enter Try.func4, Try.ntmps4
    go_wp2_with fail
    refine (HT.out _ HB0.out).mono ?_
    rintro e w1 ⟨A1, rfl, hoi1, ha1⟩
    have HB1 := Lib.hid (HB0.out.trans (ha1.mono HB0.out.size))
    have hz1 := ha1.size
    clear ha1
    have t1o_1 := Lib.hid hoi1
    clear hoi1
    have h00 := HB0.out.size
    go_wp2_with fail
    refine (HS.out _ (some ⟨A1, 0, none⟩) n _ _ t1o_1.out (by omega)).mono ?_
    rintro e w2 ⟨E2, d2, gs2, F2, p2, G2, q2, K2, r2, rfl, hgd2, hop2, ha2⟩
    have HB2 := Lib.hid (HB1.out.trans (ha2.mono HB1.out.size))
    have hz2 := ha2.size
    have t1o_2 := Lib.hid (t1o_1.out.since ha2 (by omega))
    clear ha2
    have Wo_2 := Lib.hid hop2
    have HGD2 := Lib.hid hgd2
    clear hop2 hgd2
    go_wp2_with fail
    obtain ⟨V2, hV2⟩ : ∃ V2, V2 = w2.alloc (.cells #[.slice E2 na d2, .int .i64 an, .slice F2 ni p2, .int .i64 af, .slice G2 nl q2, .slice K2 nw r2] 38) := ⟨_, rfl⟩
    have haV2 := below1 w2 (.cells #[.slice E2 na d2, .int .i64 an, .slice F2 ni p2, .int .i64 af, .slice G2 nl q2, .slice K2 nw r2] 38)
    have hnV2 := heap_alloc_new w2 (.cells #[.slice E2 na d2, .int .i64 an, .slice F2 ni p2, .int .i64 af, .slice G2 nl q2, .slice K2 nw r2] 38)
    rw [← hV2] at haV2 hnV2 ⊢
    have hsV2 : V2.heap.size = w2.heap.size + 1 := by rw [hV2]; simp
    clear hV2
    have HBV2 := Lib.hid (HB2.out.trans (haV2.mono HB2.out.size))
    have Wo_V2 := Lib.hid (Wo_2.out.since haV2 (by omega))
    have bW_V2 := Lib.hid hnV2
    clear haV2 hnV2
    refine (HT.out _ HBV2.out).mono ?_
    rintro e w3 ⟨A3, rfl, hoi3, ha3⟩
    have HB3 := Lib.hid (HBV2.out.trans (ha3.mono HBV2.out.size))
    have hz3 := ha3.size
    have bW_3 := Lib.hid ((ha3.block (w2.heap.size) (lt_blk bW_V2.out)).trans bW_V2.out)
    have Wo_3 := Lib.hid (Wo_V2.out.since ha3 (by omega))
    clear ha3
    have Xo_3 := Lib.hid hoi3
    clear hoi3
    go_wp2_with fail
    refine (HI.out _ (some ⟨A3, 0, none⟩) n _ _ Xo_3.out (by omega)).mono ?_
    rintro e w4 ⟨E4, d4, gs4, F4, p4, G4, q4, K4, r4, rfl, hgd4, hop4, ha4⟩
    have HB4 := Lib.hid (HB3.out.trans (ha4.mono HB3.out.size))
    have hz4 := ha4.size
    have bW_4 := Lib.hid ((ha4.block (w2.heap.size) (lt_blk bW_3.out)).trans bW_3.out)
    have Wo_4 := Lib.hid (Wo_3.out.since ha4 (by omega))
    have Xo_4 := Lib.hid (Xo_3.out.since ha4 (by omega))
    clear ha4
    have Go_4 := Lib.hid hop4
    have HGD4 := Lib.hid hgd4
    clear hop4 hgd4
    have bW40 := cell_of_row _ _ 0 _ 38 (0, 0) bW_4.out
    have bW41 := cell_of_row _ _ 1 _ 38 (0, 0) bW_4.out
    have bW42 := cell_of_row _ _ 2 _ 38 (0, 0) bW_4.out
    have bW43 := cell_of_row _ _ 3 _ 38 (0, 0) bW_4.out
    have bW44 := cell_of_row _ _ 4 _ 38 (0, 0) bW_4.out
    have bW45 := cell_of_row _ _ 5 _ 38 (0, 0) bW_4.out
    have bW4l := lt_blk bW_4.out
    go_wp2_with fail
    obtain ⟨V4, hV4⟩ : ∃ V4, V4 = w4.alloc (.cells #[.slice E4 na d4, .int .i64 an, .slice F4 ni p4, .int .i64 af, .slice G4 nl q4, .slice K4 nw r4] 38) := ⟨_, rfl⟩
    have haV4 := below1 w4 (.cells #[.slice E4 na d4, .int .i64 an, .slice F4 ni p4, .int .i64 af, .slice G4 nl q4, .slice K4 nw r4] 38)
    have hnV4 := heap_alloc_new w4 (.cells #[.slice E4 na d4, .int .i64 an, .slice F4 ni p4, .int .i64 af, .slice G4 nl q4, .slice K4 nw r4] 38)
    rw [← hV4] at haV4 hnV4 ⊢
    have hsV4 : V4.heap.size = w4.heap.size + 1 := by rw [hV4]; simp
    clear bW40 bW41 bW42 bW43 bW44 bW45 bW4l
    clear hV4
    have HBV4 := Lib.hid (HB4.out.trans (haV4.mono HB4.out.size))
    have bW_V4 := Lib.hid ((haV4.block (w2.heap.size) (lt_blk bW_4.out)).trans bW_4.out)
    have Wo_V4 := Lib.hid (Wo_4.out.since haV4 (by omega))
    have Xo_V4 := Lib.hid (Xo_4.out.since haV4 (by omega))
    have Go_V4 := Lib.hid (Go_4.out.since haV4 (by omega))
    have bG_V4 := Lib.hid hnV4
    clear haV4 hnV4
    have HE5 := Lib.hid (eqPoll_own an af Go_V4.out Wo_V4.out HGD4.out HGD2.out HNA.out HNI.out HNL.out HNW.out (by omega) (by omega) (HSM.out _ HGD4.out) (by omega) (by omega) (by omega))
    refine HE5.out.mono ?_
    rintro e w5 ⟨rfl, ha5⟩
    have HB5 := Lib.hid (HBV4.out.trans (ha5.mono HBV4.out.size))
    have hz5 := ha5.size
    have bW_5 := Lib.hid ((ha5.block (w2.heap.size) (lt_blk bW_V4.out)).trans bW_V4.out)
    have bG_5 := Lib.hid ((ha5.block (w4.heap.size) (lt_blk bG_V4.out)).trans bG_V4.out)
    have Wo_5 := Lib.hid (Wo_V4.out.since ha5 (by omega))
    have Xo_5 := Lib.hid (Xo_V4.out.since ha5 (by omega))
    have Go_5 := Lib.hid (Go_V4.out.since ha5 (by omega))
    clear ha5
    clear HE5
    go_wp2_with fail
    refine (HT.out _ HB5.out).mono ?_
    rintro e w6 ⟨A6, rfl, hoi6, ha6⟩
    have HB6 := Lib.hid (HB5.out.trans (ha6.mono HB5.out.size))
    have hz6 := ha6.size
    have bW_6 := Lib.hid ((ha6.block (w2.heap.size) (lt_blk bW_5.out)).trans bW_5.out)
    have bG_6 := Lib.hid ((ha6.block (w4.heap.size) (lt_blk bG_5.out)).trans bG_5.out)
    have Wo_6 := Lib.hid (Wo_5.out.since ha6 (by omega))
    have Xo_6 := Lib.hid (Xo_5.out.since ha6 (by omega))
    have Go_6 := Lib.hid (Go_5.out.since ha6 (by omega))
    clear ha6
    have t6o_6 := Lib.hid hoi6
    clear hoi6
    have HE7 := Lib.hid (eqIntS_same (some ⟨A3, 0, none⟩) (some ⟨A6, 0, none⟩) n n n is w6.heap.size w6 HN.out (Xo_6.out.ints.mono (by omega)) (t6o_6.out.ints.mono (by omega)) (Nat.le_refl _) (by omega))
    go_wp2_with fail
    refine HE7.out.mono ?_
    rintro e w7 ⟨rfl, ha7⟩
    have HB7 := Lib.hid (HB6.out.trans (ha7.mono HB6.out.size))
    have hz7 := ha7.size
    have bW_7 := Lib.hid ((ha7.block (w2.heap.size) (lt_blk bW_6.out)).trans bW_6.out)
    have bG_7 := Lib.hid ((ha7.block (w4.heap.size) (lt_blk bG_6.out)).trans bG_6.out)
    have Wo_7 := Lib.hid (Wo_6.out.since ha7 (by omega))
    have Xo_7 := Lib.hid (Xo_6.out.since ha7 (by omega))
    have Go_7 := Lib.hid (Go_6.out.since ha7 (by omega))
    have t6o_7 := Lib.hid (t6o_6.out.since ha7 (by omega))
    clear ha7
    clear HE7
    have HM8 := Lib.hid (markIntS_any (some ⟨A3, 0, none⟩) n n 1 _ _ is w7 HN.out Xo_7.out (Nat.le_refl _) (by omega))
    rw [HMX.out] at HM8
    go_wp2_with fail
    refine HM8.out.mono ?_
    rintro e w8 ⟨rfl, hmi8, hma8⟩
    have hmm8 := hma8.mid (own_range Xo_7.out)
    clear hma8
    have hz8 := hmm8.2.2.2.1
    have HB8 := Lib.hid (HB7.out.trans ((hmm8.below (by omega)).mono (by omega)))
    have bW_8 := Lib.hid ((hmm8.2.2.2.2 (w2.heap.size) (lt_blk bW_7.out) (by omega)).trans bW_7.out)
    have bG_8 := Lib.hid ((hmm8.2.2.2.2 (w4.heap.size) (lt_blk bG_7.out) (by omega)).trans bG_7.out)
    have Wo_8 := Lib.hid (Wo_7.out.mid hmm8 (by omega))
    have Go_8 := Lib.hid (Go_7.out.mid hmm8 (by omega))
    have Xo_8 := Lib.hid hmi8
    clear hmi8
    clear hmm8 HM8
    have bW80 := cell_of_row _ _ 0 _ 38 (0, 0) bW_8.out
    have bW81 := cell_of_row _ _ 1 _ 38 (0, 0) bW_8.out
    have bW82 := cell_of_row _ _ 2 _ 38 (0, 0) bW_8.out
    have bW83 := cell_of_row _ _ 3 _ 38 (0, 0) bW_8.out
    have bW84 := cell_of_row _ _ 4 _ 38 (0, 0) bW_8.out
    have bW85 := cell_of_row _ _ 5 _ 38 (0, 0) bW_8.out
    have bW8l := lt_blk bW_8.out
    have bG80 := cell_of_row _ _ 0 _ 38 (0, 0) bG_8.out
    have bG81 := cell_of_row _ _ 1 _ 38 (0, 0) bG_8.out
    have bG82 := cell_of_row _ _ 2 _ 38 (0, 0) bG_8.out
    have bG83 := cell_of_row _ _ 3 _ 38 (0, 0) bG_8.out
    have bG84 := cell_of_row _ _ 4 _ 38 (0, 0) bG_8.out
    have bG85 := cell_of_row _ _ 5 _ 38 (0, 0) bG_8.out
    have bG8l := lt_blk bG_8.out
    have HE9 := Lib.hid (eqPoll_own an af Go_8.out Wo_8.out HGD4.out HGD2.out HNA.out HNI.out HNL.out HNW.out (by omega) (by omega) (HSM.out _ HGD4.out) (by omega) (by omega) (by omega))
    go_wp2_with fail
    refine HE9.out.mono ?_
    rintro e w9 ⟨rfl, ha9⟩
    clear bW80 bW81 bW82 bW83 bW84 bW85 bW8l bG80 bG81 bG82 bG83 bG84 bG85 bG8l
    have HB9 := Lib.hid (HB8.out.trans (ha9.mono HB8.out.size))
    have hz9 := ha9.size
    have bW_9 := Lib.hid ((ha9.block (w2.heap.size) (lt_blk bW_8.out)).trans bW_8.out)
    have bG_9 := Lib.hid ((ha9.block (w4.heap.size) (lt_blk bG_8.out)).trans bG_8.out)
    have Wo_9 := Lib.hid (Wo_8.out.since ha9 (by omega))
    have Go_9 := Lib.hid (Go_8.out.since ha9 (by omega))
    clear ha9
    clear HE9
    have bG90 := cell_of_row _ _ 0 _ 38 (0, 0) bG_9.out
    have bG91 := cell_of_row _ _ 1 _ 38 (0, 0) bG_9.out
    have bG92 := cell_of_row _ _ 2 _ 38 (0, 0) bG_9.out
    have bG93 := cell_of_row _ _ 3 _ 38 (0, 0) bG_9.out
    have bG94 := cell_of_row _ _ 4 _ 38 (0, 0) bG_9.out
    have bG95 := cell_of_row _ _ 5 _ 38 (0, 0) bG_9.out
    have bG9l := lt_blk bG_9.out
    have HM10 := Lib.hid (markPoll_any E4 F4 G4 K4 na d4 ni p4 nl q4 nw r4 1 _ _ an af gs4 av ai al aw w9 HGD4.out HNA.out HNI.out HNL.out HNW.out Go_9.out (by omega) (by omega) (Nat.le_refl _) HAK.out)
    rw [HMG.out] at HM10
    go_wp2_with fail
    refine HM10.out.mono ?_
    rintro e w10 ⟨rfl, hmi10, hmm10⟩
    clear bG90 bG91 bG92 bG93 bG94 bG95 bG9l
    have hz10 := hmm10.2.2.2.1
    have HB10 := Lib.hid (HB9.out.trans ((hmm10.below (by omega)).mono (by omega)))
    have bW_10 := Lib.hid ((hmm10.2.2.2.2 (w2.heap.size) (lt_blk bW_9.out) (by omega)).trans bW_9.out)
    have bG_10 := Lib.hid ((hmm10.2.2.2.2 (w4.heap.size) (lt_blk bG_9.out) (by omega)).trans bG_9.out)
    have Wo_10 := Lib.hid (Wo_9.out.mid hmm10 (by omega))
    have Go_10 := Lib.hid hmi10
    clear hmi10
    clear hmm10 HM10
    have bG100 := cell_of_row _ _ 0 _ 38 (0, 0) bG_10.out
    have bG101 := cell_of_row _ _ 1 _ 38 (0, 0) bG_10.out
    have bG102 := cell_of_row _ _ 2 _ 38 (0, 0) bG_10.out
    have bG103 := cell_of_row _ _ 3 _ 38 (0, 0) bG_10.out
    have bG104 := cell_of_row _ _ 4 _ 38 (0, 0) bG_10.out
    have bG105 := cell_of_row _ _ 5 _ 38 (0, 0) bG_10.out
    have bG10l := lt_blk bG_10.out
    have HH11 := Lib.hid (heldPoll_any E4 F4 G4 K4 na d4 ni p4 nl q4 nw r4 1 _ _ an af gs4 av w10 HGD4.out HNA.out Go_10.out (by omega) (Nat.le_refl _) HAK.out)
    rw [HMG.out] at HH11
    go_wp2_with fail
    refine HH11.out.mono ?_
    rintro e w11 ⟨rfl, ha11⟩
    clear bG100 bG101 bG102 bG103 bG104 bG105 bG10l
    have HB11 := Lib.hid (HB10.out.trans (ha11.mono HB10.out.size))
    have hz11 := ha11.size
    have bW_11 := Lib.hid ((ha11.block (w2.heap.size) (lt_blk bW_10.out)).trans bW_10.out)
    have bG_11 := Lib.hid ((ha11.block (w4.heap.size) (lt_blk bG_10.out)).trans bG_10.out)
    have Wo_11 := Lib.hid (Wo_10.out.since ha11 (by omega))
    have Go_11 := Lib.hid (Go_10.out.since ha11 (by omega))
    clear ha11
    clear HH11
    go_wp2_with fail
    refine (HT.out _ HB11.out).mono ?_
    rintro e w12 ⟨A12, rfl, hoi12, ha12⟩
    have HB12 := Lib.hid (HB11.out.trans (ha12.mono HB11.out.size))
    have hz12 := ha12.size
    have bW_12 := Lib.hid ((ha12.block (w2.heap.size) (lt_blk bW_11.out)).trans bW_11.out)
    have bG_12 := Lib.hid ((ha12.block (w4.heap.size) (lt_blk bG_11.out)).trans bG_11.out)
    have Wo_12 := Lib.hid (Wo_11.out.since ha12 (by omega))
    have Go_12 := Lib.hid (Go_11.out.since ha12 (by omega))
    clear ha12
    have Zo_12 := Lib.hid hoi12
    clear hoi12
    go_wp2_with fail
    refine (HI.out _ (some ⟨A12, 0, none⟩) n _ _ Zo_12.out (by omega)).mono ?_
    rintro e w13 ⟨E13, d13, gs13, F13, p13, G13, q13, K13, r13, rfl, hgd13, hop13, ha13⟩
    have HB13 := Lib.hid (HB12.out.trans (ha13.mono HB12.out.size))
    have hz13 := ha13.size
    have bW_13 := Lib.hid ((ha13.block (w2.heap.size) (lt_blk bW_12.out)).trans bW_12.out)
    have bG_13 := Lib.hid ((ha13.block (w4.heap.size) (lt_blk bG_12.out)).trans bG_12.out)
    have Wo_13 := Lib.hid (Wo_12.out.since ha13 (by omega))
    have Go_13 := Lib.hid (Go_12.out.since ha13 (by omega))
    have Zo_13 := Lib.hid (Zo_12.out.since ha13 (by omega))
    clear ha13
    have Ho_13 := Lib.hid hop13
    have HGD13 := Lib.hid hgd13
    clear hop13 hgd13
    have bW130 := cell_of_row _ _ 0 _ 38 (0, 0) bW_13.out
    have bW131 := cell_of_row _ _ 1 _ 38 (0, 0) bW_13.out
    have bW132 := cell_of_row _ _ 2 _ 38 (0, 0) bW_13.out
    have bW133 := cell_of_row _ _ 3 _ 38 (0, 0) bW_13.out
    have bW134 := cell_of_row _ _ 4 _ 38 (0, 0) bW_13.out
    have bW135 := cell_of_row _ _ 5 _ 38 (0, 0) bW_13.out
    have bW13l := lt_blk bW_13.out
    have bG130 := cell_of_row _ _ 0 _ 38 (0, 0) bG_13.out
    have bG131 := cell_of_row _ _ 1 _ 38 (0, 0) bG_13.out
    have bG132 := cell_of_row _ _ 2 _ 38 (0, 0) bG_13.out
    have bG133 := cell_of_row _ _ 3 _ 38 (0, 0) bG_13.out
    have bG134 := cell_of_row _ _ 4 _ 38 (0, 0) bG_13.out
    have bG135 := cell_of_row _ _ 5 _ 38 (0, 0) bG_13.out
    have bG13l := lt_blk bG_13.out
    go_wp2_with fail
    obtain ⟨V13, hV13⟩ : ∃ V13, V13 = w13.alloc (.cells #[.slice E13 na d13, .int .i64 an, .slice F13 ni p13, .int .i64 af, .slice G13 nl q13, .slice K13 nw r13] 38) := ⟨_, rfl⟩
    have haV13 := below1 w13 (.cells #[.slice E13 na d13, .int .i64 an, .slice F13 ni p13, .int .i64 af, .slice G13 nl q13, .slice K13 nw r13] 38)
    have hnV13 := heap_alloc_new w13 (.cells #[.slice E13 na d13, .int .i64 an, .slice F13 ni p13, .int .i64 af, .slice G13 nl q13, .slice K13 nw r13] 38)
    rw [← hV13] at haV13 hnV13 ⊢
    have hsV13 : V13.heap.size = w13.heap.size + 1 := by rw [hV13]; simp
    clear bW130 bW131 bW132 bW133 bW134 bW135 bW13l bG130 bG131 bG132 bG133 bG134 bG135 bG13l
    clear hV13
    have HBV13 := Lib.hid (HB13.out.trans (haV13.mono HB13.out.size))
    have bW_V13 := Lib.hid ((haV13.block (w2.heap.size) (lt_blk bW_13.out)).trans bW_13.out)
    have bG_V13 := Lib.hid ((haV13.block (w4.heap.size) (lt_blk bG_13.out)).trans bG_13.out)
    have Wo_V13 := Lib.hid (Wo_13.out.since haV13 (by omega))
    have Go_V13 := Lib.hid (Go_13.out.since haV13 (by omega))
    have Ho_V13 := Lib.hid (Ho_13.out.since haV13 (by omega))
    have bH_V13 := Lib.hid hnV13
    clear haV13 hnV13
    have HE14 := Lib.hid (eqPoll_own an af Ho_V13.out Wo_V13.out HGD13.out HGD2.out HNA.out HNI.out HNL.out HNW.out (by omega) (by omega) (HSM.out _ HGD13.out) (by omega) (by omega) (by omega))
    refine HE14.out.mono ?_
    rintro e w14 ⟨rfl, ha14⟩
    have HB14 := Lib.hid (HBV13.out.trans (ha14.mono HBV13.out.size))
    have hz14 := ha14.size
    have bW_14 := Lib.hid ((ha14.block (w2.heap.size) (lt_blk bW_V13.out)).trans bW_V13.out)
    have bG_14 := Lib.hid ((ha14.block (w4.heap.size) (lt_blk bG_V13.out)).trans bG_V13.out)
    have bH_14 := Lib.hid ((ha14.block (w13.heap.size) (lt_blk bH_V13.out)).trans bH_V13.out)
    have Wo_14 := Lib.hid (Wo_V13.out.since ha14 (by omega))
    have Go_14 := Lib.hid (Go_V13.out.since ha14 (by omega))
    have Ho_14 := Lib.hid (Ho_V13.out.since ha14 (by omega))
    clear ha14
    clear HE14
    have bG140 := cell_of_row _ _ 0 _ 38 (0, 0) bG_14.out
    have bG141 := cell_of_row _ _ 1 _ 38 (0, 0) bG_14.out
    have bG142 := cell_of_row _ _ 2 _ 38 (0, 0) bG_14.out
    have bG143 := cell_of_row _ _ 3 _ 38 (0, 0) bG_14.out
    have bG144 := cell_of_row _ _ 4 _ 38 (0, 0) bG_14.out
    have bG145 := cell_of_row _ _ 5 _ 38 (0, 0) bG_14.out
    have bG14l := lt_blk bG_14.out
    have HH15 := Lib.hid (heldPoll_any E4 F4 G4 K4 na d4 ni p4 nl q4 nw r4 1 _ _ an af gs4 av w14 HGD4.out HNA.out Go_14.out (by omega) (Nat.le_refl _) HAK.out)
    rw [HMG.out] at HH15
    go_wp2_with fail
    refine HH15.out.mono ?_
    rintro e w15 ⟨rfl, ha15⟩
    clear bG140 bG141 bG142 bG143 bG144 bG145 bG14l
    have HB15 := Lib.hid (HB14.out.trans (ha15.mono HB14.out.size))
    have hz15 := ha15.size
    have bW_15 := Lib.hid ((ha15.block (w2.heap.size) (lt_blk bW_14.out)).trans bW_14.out)
    have bG_15 := Lib.hid ((ha15.block (w4.heap.size) (lt_blk bG_14.out)).trans bG_14.out)
    have bH_15 := Lib.hid ((ha15.block (w13.heap.size) (lt_blk bH_14.out)).trans bH_14.out)
    have Wo_15 := Lib.hid (Wo_14.out.since ha15 (by omega))
    have Go_15 := Lib.hid (Go_14.out.since ha15 (by omega))
    have Ho_15 := Lib.hid (Ho_14.out.since ha15 (by omega))
    clear ha15
    clear HH15
    go_wp2
    go_ret
    exact ⟨rfl, HB15.out⟩
  · have hlt : (1048576 : Int) < (n : Int) := by omega
    clear h hA hln hn
    go_enter Try.func4, Try.ntmps4
    go_wp2
    go_ret
    exact ⟨rfl, Below.refl _ _⟩
end Go.Proofs.Ytojplmjoipjabaa.Po
