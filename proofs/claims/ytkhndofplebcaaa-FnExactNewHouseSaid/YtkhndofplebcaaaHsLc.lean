/-
  The walk of the exact law NewHouse.
-/
import Derived.Test.YtkhndofplebcaaaHsNh
namespace Go.Proofs.Ytkhndofplebcaaa.Hs
open Go.RowKit CM Gr
set_option linter.unusedVariables false
set_option linter.unusedSimpArgs false
theorem markH_ok {gs : List RH} {l : List RD} {nd : Nat} (hd : gs.map rdat = l) (h : rpSz l ≤ 1048576 ∧ nd ≤ 1048576) : aft nxR 1 gs + 2 * nd ≤ 1000000000 := by
  have := aftR_le 1 gs
  rw [hd] at this
  omega
set_option maxRecDepth 100000 in
set_option maxHeartbeats 16000000 in
theorem newHouse_walk (w : World) (many : Int) (hwf : (Lit.int .i64 many).wf = true) :
    Calls Try.prog 5 #[.int .i64 many] w fun e w' => e = .returned (.bool true) ∧ Below w.heap.size w w' := by
  have hspec := fun (W : World) => specNewHouse_any many W
  have himpl := fun (W : World) => implNewHouse_any many W
  have hasz := newHA_sz many
  obtain ⟨⟨l, at_, al, ds, ok⟩, hr⟩ : ∃ ans9, ans9 = newHA many := ⟨_, rfl⟩
  rw [← hr] at hasz
  simp only [← hr, HAPost_un] at hspec himpl
  simp only at hasz
  obtain ⟨na, hna⟩ : ∃ na, na = l.length := ⟨_, rfl⟩
  obtain ⟨nd, hnd⟩ : ∃ nd, nd = ds.length := ⟨_, rfl⟩
  simp only [← hna, ← hnd] at hspec himpl
  rw [← hnd] at hasz
  have HNA := Lib.hid hna.symm
  have HND := Lib.hid hnd.symm
  have HASZ := Lib.hid hasz
  have HS := Lib.hid hspec
  have HI := Lib.hid himpl
  have HB0 := Lib.hid (Below.refl w.heap.size w)
  clear hspec himpl hr hna hnd hasz hwf
  go_enter Try.func5, Try.ntmps5
  go_wp2_with fail
  (with_reducible refine (HS.out _).mono ?_)
  rintro e w1 ⟨E1, c1, gs1, D1, d1, rfl, hgd1, hop1, ha1⟩
  have HB1 := Lib.hid (HB0.out.trans (ha1.mono HB0.out.size))
  have hz1 := ha1.size
  clear ha1
  have Wo_1 := Lib.hid hop1
  have HGD1 := Lib.hid hgd1
  clear hop1 hgd1
  go_wp2_with fail
  obtain ⟨V1, hV1⟩ : ∃ V1, V1 = w1.alloc (.cells #[.slice E1 na c1, .int .i64 at_, .int .i64 al, .slice D1 nd d1] 48) := ⟨_, rfl⟩
  have haV1 := below1 w1 (.cells #[.slice E1 na c1, .int .i64 at_, .int .i64 al, .slice D1 nd d1] 48)
  have hnV1 := heap_alloc_new w1 (.cells #[.slice E1 na c1, .int .i64 at_, .int .i64 al, .slice D1 nd d1] 48)
  rw [← hV1] at haV1 hnV1 ⊢
  have hsV1 : V1.heap.size = w1.heap.size + 1 := by rw [hV1]; simp
  clear hV1
  have HBV1 := Lib.hid (HB1.out.trans (haV1.mono HB1.out.size))
  have Wo_V1 := Lib.hid (Wo_1.out.since haV1)
  have bW_V1 := Lib.hid hnV1
  clear haV1 hnV1
  (with_reducible refine (HI.out _).mono ?_)
  rintro e w2 ⟨E2, c2, gs2, D2, d2, rfl, hgd2, hop2, ha2⟩
  have HB2 := Lib.hid (HBV1.out.trans (ha2.mono HBV1.out.size))
  have hz2 := ha2.size
  have bW_2 := Lib.hid ((ha2.block (w1.heap.size) (lt_blk bW_V1.out)).trans bW_V1.out)
  have Wo_2 := Lib.hid (Wo_V1.out.since ha2)
  clear ha2
  have Go_2 := Lib.hid hop2
  have HGD2 := Lib.hid hgd2
  clear hop2 hgd2
  have bW20 := cell_of_row _ _ 0 _ 48 (0, 0) bW_2.out
  have bW21 := cell_of_row _ _ 1 _ 48 (0, 0) bW_2.out
  have bW22 := cell_of_row _ _ 2 _ 48 (0, 0) bW_2.out
  have bW23 := cell_of_row _ _ 3 _ 48 (0, 0) bW_2.out
  have bW2l := lt_blk bW_2.out
  go_wp2_with fail
  obtain ⟨V2, hV2⟩ : ∃ V2, V2 = w2.alloc (.cells #[.slice E2 na c2, .int .i64 at_, .int .i64 al, .slice D2 nd d2] 48) := ⟨_, rfl⟩
  have haV2 := below1 w2 (.cells #[.slice E2 na c2, .int .i64 at_, .int .i64 al, .slice D2 nd d2] 48)
  have hnV2 := heap_alloc_new w2 (.cells #[.slice E2 na c2, .int .i64 at_, .int .i64 al, .slice D2 nd d2] 48)
  rw [← hV2] at haV2 hnV2 ⊢
  have hsV2 : V2.heap.size = w2.heap.size + 1 := by rw [hV2]; simp
  clear bW20 bW21 bW22 bW23 bW2l
  clear hV2
  have HBV2 := Lib.hid (HB2.out.trans (haV2.mono HB2.out.size))
  have bW_V2 := Lib.hid ((haV2.block (w1.heap.size) (lt_blk bW_2.out)).trans bW_2.out)
  have Wo_V2 := Lib.hid (Wo_2.out.since haV2)
  have Go_V2 := Lib.hid (Go_2.out.since haV2)
  have bG_V2 := Lib.hid hnV2
  clear haV2 hnV2
  have bWV20 := cell_of_row _ _ 0 _ 48 (0, 0) bW_V2.out
  have bWV21 := cell_of_row _ _ 1 _ 48 (0, 0) bW_V2.out
  have bWV22 := cell_of_row _ _ 2 _ 48 (0, 0) bW_V2.out
  have bWV23 := cell_of_row _ _ 3 _ 48 (0, 0) bW_V2.out
  have bWV2l := lt_blk bW_V2.out
  have HE3 := Lib.hid (eqHouse_own at_ al Go_V2.out Wo_V2.out HGD2.out HGD1.out HNA.out HND.out (by omega) (by omega) (rpSmall_sz HASZ.out.1) HASZ.out.2)
  (with_reducible refine HE3.out.mono ?_)
  rintro e w3 ⟨rfl, ha3⟩
  clear bWV20 bWV21 bWV22 bWV23 bWV2l
  have HB3 := Lib.hid (HBV2.out.trans (ha3.mono HBV2.out.size))
  have hz3 := ha3.size
  have bW_3 := Lib.hid ((ha3.block (w1.heap.size) (lt_blk bW_V2.out)).trans bW_V2.out)
  have bG_3 := Lib.hid ((ha3.block (w2.heap.size) (lt_blk bG_V2.out)).trans bG_V2.out)
  have Wo_3 := Lib.hid (Wo_V2.out.since ha3)
  have Go_3 := Lib.hid (Go_V2.out.since ha3)
  clear ha3
  clear HE3
  have bW30 := cell_of_row _ _ 0 _ 48 (0, 0) bW_3.out
  have bW31 := cell_of_row _ _ 1 _ 48 (0, 0) bW_3.out
  have bW32 := cell_of_row _ _ 2 _ 48 (0, 0) bW_3.out
  have bW33 := cell_of_row _ _ 3 _ 48 (0, 0) bW_3.out
  have bW3l := lt_blk bW_3.out
  have bG30 := cell_of_row _ _ 0 _ 48 (0, 0) bG_3.out
  have bG31 := cell_of_row _ _ 1 _ 48 (0, 0) bG_3.out
  have bG32 := cell_of_row _ _ 2 _ 48 (0, 0) bG_3.out
  have bG33 := cell_of_row _ _ 3 _ 48 (0, 0) bG_3.out
  have bG3l := lt_blk bG_3.out
  have HMK := Lib.hid (markH_ok HGD2.out HASZ.out)
  obtain ⟨mg, hmg⟩ : ∃ mg, mg = aft nxR 1 gs2 + 2 * nd := ⟨_, rfl⟩
  have HMG := Lib.hid hmg.symm
  have hmg0 : (0 : Int) ≤ (mg : Int) := by omega
  clear hmg
  have HM4 := Lib.hid (markHouse_any E2 D2 na c2 nd d2 _ _ at_ al gs2 _ w3 (glen HGD2.out HNA.out) HND.out Go_3.out (by omega) HMK.out)
  rw [HMG.out] at HM4
  go_wp2_with fail
  (with_reducible refine HM4.out.mono ?_)
  rintro e w4 ⟨rfl, hmi4, hmm4⟩
  clear bW30 bW31 bW32 bW33 bW3l bG30 bG31 bG32 bG33 bG3l
  have hz4 := hmm4.2.2.2.1
  have HB4 := Lib.hid (HB3.out.trans ((hmm4.below (by omega)).mono (by omega)))
  have bW_4 := Lib.hid ((hmm4.2.2.2.2 (w1.heap.size) (lt_blk bW_3.out) (by omega)).trans bW_3.out)
  have bG_4 := Lib.hid ((hmm4.2.2.2.2 (w2.heap.size) (lt_blk bG_3.out) (by omega)).trans bG_3.out)
  have Wo_4 := Lib.hid (Wo_3.out.mid hmm4 (by omega))
  have Go_4 := Lib.hid hmi4
  clear hmi4 hmm4 HM4
  have bW40 := cell_of_row _ _ 0 _ 48 (0, 0) bW_4.out
  have bW41 := cell_of_row _ _ 1 _ 48 (0, 0) bW_4.out
  have bW42 := cell_of_row _ _ 2 _ 48 (0, 0) bW_4.out
  have bW43 := cell_of_row _ _ 3 _ 48 (0, 0) bW_4.out
  have bW4l := lt_blk bW_4.out
  have bG40 := cell_of_row _ _ 0 _ 48 (0, 0) bG_4.out
  have bG41 := cell_of_row _ _ 1 _ 48 (0, 0) bG_4.out
  have bG42 := cell_of_row _ _ 2 _ 48 (0, 0) bG_4.out
  have bG43 := cell_of_row _ _ 3 _ 48 (0, 0) bG_4.out
  have bG4l := lt_blk bG_4.out
  have HH5 := Lib.hid (heldHouse_any E2 D2 na c2 nd d2 _ at_ al gs2 w4 (glen HGD2.out HNA.out) Go_4.out.rows Go_4.out.dks (by omega) HMK.out)
  rw [HMG.out] at HH5
  go_wp2_with fail
  (with_reducible refine HH5.out.mono ?_)
  rintro e w5 ⟨rfl, ha5⟩
  clear bW40 bW41 bW42 bW43 bW4l bG40 bG41 bG42 bG43 bG4l
  have HB5 := Lib.hid (HB4.out.trans (ha5.mono HB4.out.size))
  have hz5 := ha5.size
  have bW_5 := Lib.hid ((ha5.block (w1.heap.size) (lt_blk bW_4.out)).trans bW_4.out)
  have bG_5 := Lib.hid ((ha5.block (w2.heap.size) (lt_blk bG_4.out)).trans bG_4.out)
  have Wo_5 := Lib.hid (Wo_4.out.since ha5)
  have Go_5 := Lib.hid (Go_4.out.since ha5)
  clear ha5
  clear HH5
  go_wp2_with fail
  (with_reducible refine (HI.out _).mono ?_)
  rintro e w6 ⟨E6, c6, gs6, D6, d6, rfl, hgd6, hop6, ha6⟩
  have HB6 := Lib.hid (HB5.out.trans (ha6.mono HB5.out.size))
  have hz6 := ha6.size
  have bW_6 := Lib.hid ((ha6.block (w1.heap.size) (lt_blk bW_5.out)).trans bW_5.out)
  have bG_6 := Lib.hid ((ha6.block (w2.heap.size) (lt_blk bG_5.out)).trans bG_5.out)
  have Wo_6 := Lib.hid (Wo_5.out.since ha6)
  have Go_6 := Lib.hid (Go_5.out.since ha6)
  clear ha6
  have Ho_6 := Lib.hid hop6
  have HGD6 := Lib.hid hgd6
  clear hop6 hgd6
  have bW60 := cell_of_row _ _ 0 _ 48 (0, 0) bW_6.out
  have bW61 := cell_of_row _ _ 1 _ 48 (0, 0) bW_6.out
  have bW62 := cell_of_row _ _ 2 _ 48 (0, 0) bW_6.out
  have bW63 := cell_of_row _ _ 3 _ 48 (0, 0) bW_6.out
  have bW6l := lt_blk bW_6.out
  go_wp2_with fail
  obtain ⟨V6, hV6⟩ : ∃ V6, V6 = w6.alloc (.cells #[.slice E6 na c6, .int .i64 at_, .int .i64 al, .slice D6 nd d6] 48) := ⟨_, rfl⟩
  have haV6 := below1 w6 (.cells #[.slice E6 na c6, .int .i64 at_, .int .i64 al, .slice D6 nd d6] 48)
  have hnV6 := heap_alloc_new w6 (.cells #[.slice E6 na c6, .int .i64 at_, .int .i64 al, .slice D6 nd d6] 48)
  rw [← hV6] at haV6 hnV6 ⊢
  have hsV6 : V6.heap.size = w6.heap.size + 1 := by rw [hV6]; simp
  clear bW60 bW61 bW62 bW63 bW6l
  clear hV6
  have HBV6 := Lib.hid (HB6.out.trans (haV6.mono HB6.out.size))
  have bW_V6 := Lib.hid ((haV6.block (w1.heap.size) (lt_blk bW_6.out)).trans bW_6.out)
  have bG_V6 := Lib.hid ((haV6.block (w2.heap.size) (lt_blk bG_6.out)).trans bG_6.out)
  have Wo_V6 := Lib.hid (Wo_6.out.since haV6)
  have Go_V6 := Lib.hid (Go_6.out.since haV6)
  have Ho_V6 := Lib.hid (Ho_6.out.since haV6)
  have bH_V6 := Lib.hid hnV6
  clear haV6 hnV6
  have bWV60 := cell_of_row _ _ 0 _ 48 (0, 0) bW_V6.out
  have bWV61 := cell_of_row _ _ 1 _ 48 (0, 0) bW_V6.out
  have bWV62 := cell_of_row _ _ 2 _ 48 (0, 0) bW_V6.out
  have bWV63 := cell_of_row _ _ 3 _ 48 (0, 0) bW_V6.out
  have bWV6l := lt_blk bW_V6.out
  have HE7 := Lib.hid (eqHouse_own at_ al Ho_V6.out Wo_V6.out HGD6.out HGD1.out HNA.out HND.out (by omega) (by omega) (rpSmall_sz HASZ.out.1) HASZ.out.2)
  (with_reducible refine HE7.out.mono ?_)
  rintro e w7 ⟨rfl, ha7⟩
  clear bWV60 bWV61 bWV62 bWV63 bWV6l
  have HB7 := Lib.hid (HBV6.out.trans (ha7.mono HBV6.out.size))
  have hz7 := ha7.size
  have bW_7 := Lib.hid ((ha7.block (w1.heap.size) (lt_blk bW_V6.out)).trans bW_V6.out)
  have bG_7 := Lib.hid ((ha7.block (w2.heap.size) (lt_blk bG_V6.out)).trans bG_V6.out)
  have bH_7 := Lib.hid ((ha7.block (w6.heap.size) (lt_blk bH_V6.out)).trans bH_V6.out)
  have Wo_7 := Lib.hid (Wo_V6.out.since ha7)
  have Go_7 := Lib.hid (Go_V6.out.since ha7)
  have Ho_7 := Lib.hid (Ho_V6.out.since ha7)
  clear ha7
  clear HE7
  have bG70 := cell_of_row _ _ 0 _ 48 (0, 0) bG_7.out
  have bG71 := cell_of_row _ _ 1 _ 48 (0, 0) bG_7.out
  have bG72 := cell_of_row _ _ 2 _ 48 (0, 0) bG_7.out
  have bG73 := cell_of_row _ _ 3 _ 48 (0, 0) bG_7.out
  have bG7l := lt_blk bG_7.out
  have HH8 := Lib.hid (heldHouse_any E2 D2 na c2 nd d2 _ at_ al gs2 w7 (glen HGD2.out HNA.out) Go_7.out.rows Go_7.out.dks (by omega) HMK.out)
  rw [HMG.out] at HH8
  go_wp2_with fail
  (with_reducible refine HH8.out.mono ?_)
  rintro e w8 ⟨rfl, ha8⟩
  clear bG70 bG71 bG72 bG73 bG7l
  have HB8 := Lib.hid (HB7.out.trans (ha8.mono HB7.out.size))
  have hz8 := ha8.size
  have bW_8 := Lib.hid ((ha8.block (w1.heap.size) (lt_blk bW_7.out)).trans bW_7.out)
  have bG_8 := Lib.hid ((ha8.block (w2.heap.size) (lt_blk bG_7.out)).trans bG_7.out)
  have bH_8 := Lib.hid ((ha8.block (w6.heap.size) (lt_blk bH_7.out)).trans bH_7.out)
  have Wo_8 := Lib.hid (Wo_7.out.since ha8)
  have Go_8 := Lib.hid (Go_7.out.since ha8)
  have Ho_8 := Lib.hid (Ho_7.out.since ha8)
  clear ha8
  clear HH8
  go_wp2
  go_ret
  exact ⟨rfl, HB8.out⟩
end Go.Proofs.Ytkhndofplebcaaa.Hs
