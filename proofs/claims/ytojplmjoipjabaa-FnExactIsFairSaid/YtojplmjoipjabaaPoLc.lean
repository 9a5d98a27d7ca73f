/-
  The walk of the exact law IsFair.
-/
import Derived.Test.YtojplmjoipjabaaPoW0
import Derived.Test.YtojplmjoipjabaaPoFair
import Derived.Test.YtojplmjoipjabaaPoFair2
namespace Go.Proofs.Ytojplmjoipjabaa.Po
open Go.RowKit Nt
set_option linter.unusedVariables false
set_option linter.unusedSimpArgs false

set_option maxRecDepth 100000 in
set_option maxHeartbeats 16000000 in
theorem isFair_walk (w : World) (A : Option Addr) (n c : Nat) (hs : List ((Bool × Int × Int × Bool) × Option Addr × Nat × List Int)) (now far : Int) (A1 : Option Addr) (n1 c1 : Nat) (is : List Int) (A2 : Option Addr) (n2 c2 : Nat) (ls : List (Int × Int × Int × ByteArray)) (A3 : Option Addr) (n3 c3 : Nat) (ws : List (Int × Int)) (hn : hs.length = n) (hV : VotB w w.heap.size A hs) (hVm : VtMax hs) (hn1 : is.length = n1) (hI : IntsB w w.heap.size A1 is) (hm1 : n1 ≤ maxLen) (hn2 : ls.length = n2) (hL : LetsB w w.heap.size A2 ls) (hm2 : LMax ls) (hn3 : ws.length = n3) (hW : WonB w w.heap.size A3 ws) (hm3 : n3 ≤ maxLen)  :
    Calls Try.prog 7 #[.agg #[.slice A n c, .int .i64 now, .slice A1 n1 c1, .int .i64 far, .slice A2 n2 c2, .slice A3 n3 c3]] w fun e w' => e = .returned (.bool true) ∧ Below w.heap.size w w' := by
  have hb0 := below1 w (.cells #[.slice A n c, .int .i64 now, .slice A1 n1 c1, .int .i64 far, .slice A2 n2 c2, .slice A3 n3 c3] 29)
  have hk0 := heap_alloc_new w (.cells #[.slice A n c, .int .i64 now, .slice A1 n1 c1, .int .i64 far, .slice A2 n2 c2, .slice A3 n3 c3] 29)
  have HZ := Lib.hid (fun W (hW' : Below w.heap.size w W) => szPoll_any A A1 A2 A3 n c n1 c1 n2 c2 n3 c3 now far hs ls w.heap.size W hn hn2 (hV.below hW') (hL.below hW') hW'.size hVm hm1 hm2 hm3)
  by_cases h : szP hs n1 ls n3 ≤ 1048576
  · rw [remI_yes h] at HZ
    have hs0 : (0 : Int) ≤ ((1048576 : Nat) : Int) - ((szP hs n1 ls n3 : Nat) : Int) := by omega
    obtain ⟨q0, hq0⟩ : ∃ q0, q0 = ((1048576 : Nat) : Int) - ((szP hs n1 ls n3 : Nat) : Int) := ⟨_, rfl⟩
    rw [← hq0] at HZ hs0
    have hsm := small_of (hs := hs) (is := is) (ws := ws) hn1 hn3 h
    have hb2 : n2 ≤ 1048576 := by have h9 := h; unfold szP szLs at h9; omega
    have hb1 : n1 ≤ 1048576 := by have := hsm.2.1; omega
    have hb3 : n3 ≤ 1048576 := by have := hsm.2.2.2; omega
    have HR := Lib.hid (show PollB w w.heap.size A n hs A1 n1 is A2 n2 ls A3 n3 ws from ⟨hn, hn1, hn2, hn3, hV, hI, hL, hW⟩)
    have HT := Lib.hid (fun W (hW' : Below w.heap.size w W) => toPoll_any A A1 A2 A3 n c n1 c1 n2 c2 n3 c3 now far hs is ls ws w.heap.size W (HR.out.below hW') hW'.size hsm hb2)
    have HSM := Lib.hid (fun (gs : List ((Bool × Int × Int × Bool) × Option Addr × Nat × List Int)) (hd : gs.map vdat = hs.map vdat) => pollS_dats (is := is) (ls := ls) (ws := ws) hd hsm)
    obtain ⟨vs, hvs⟩ : ∃ vs, vs = hs.map vdat := ⟨_, rfl⟩
    rw [← hvs] at HT HSM
    have hvl : vs.length = n := by rw [hvs, List.length_map]; exact hn
    have HVL := Lib.hid hvl
    have HN1 := Lib.hid hn1
    have HN2 := Lib.hid hn2
    have HN3 := Lib.hid hn3
    clear hvs hvl hsm
    have hspec := fun (W : World) (C C1 C2 C3 : Option Addr) (d d1 d2 d3 lo hi : Nat) (gs : List ((Bool × Int × Int × Bool) × Option Addr × Nat × List Int)) (hd : gs.map vdat = vs) (ho : OwnP W lo hi C d gs C1 d1 is C2 d2 ls C3 d3 ws) (hh : hi ≤ W.heap.size) => by have h9 := specIsFair_any C C1 C2 C3 n d n1 d1 n2 d2 n3 d3 now far gs is ls ws W.heap.size W ((ho.reads (len_dats hd HVL.out) HN1.out HN2.out HN3.out).mono hh) (Nat.le_refl _) (HSM.out gs hd); rw [hd] at h9; exact h9
    have himpl := fun (W : World) (C C1 C2 C3 : Option Addr) (d d1 d2 d3 lo hi : Nat) (gs : List ((Bool × Int × Int × Bool) × Option Addr × Nat × List Int)) (hd : gs.map vdat = vs) (ho : OwnP W lo hi C d gs C1 d1 is C2 d2 ls C3 d3 ws) (hh : hi ≤ W.heap.size) => by have h9 := implIsFair_any C C1 C2 C3 n d n1 d1 n2 d2 n3 d3 now far gs is ls ws W.heap.size W ((ho.reads (len_dats hd HVL.out) HN1.out HN2.out HN3.out).mono hh) (Nat.le_refl _) (HSM.out gs hd); rw [hd] at h9; exact h9
    obtain ⟨ok, hr⟩ : ∃ r, r = isFairA vs now is far ls ws := ⟨_, rfl⟩
    simp only [← hr] at hspec himpl
    have HS := Lib.hid hspec
    have HI := Lib.hid himpl
    clear hspec himpl hr
    have HB0 := Lib.hid hb0
    have bA_0 := Lib.hid hk0
    clear h hn hV hVm hn1 hI hm1 hn2 hL hm2 hn3 hW hm3 hq0 hk0 HR
    go_enter Try.func7, Try.ntmps7
    go_wp2_with fail
    refine (HZ.out _ hb0).mono ?_
    rintro e w1 ⟨rfl, ha1⟩
    have h00 := hb0.size
    clear hb0
    have HB1 := Lib.hid (HB0.out.trans (ha1.mono HB0.out.size))
    have hz1 := ha1.size
    have bA_1 := Lib.hid ((ha1.block (w.heap.size) (lt_blk bA_0.out)).trans bA_0.out)
    clear ha1
    have bA10 := cell_of_row _ _ 0 _ 29 (0, 0) bA_1.out
    have bA11 := cell_of_row _ _ 1 _ 29 (0, 0) bA_1.out
    have bA12 := cell_of_row _ _ 2 _ 29 (0, 0) bA_1.out
    have bA13 := cell_of_row _ _ 3 _ 29 (0, 0) bA_1.out
    have bA14 := cell_of_row _ _ 4 _ 29 (0, 0) bA_1.out
    have bA15 := cell_of_row _ _ 5 _ 29 (0, 0) bA_1.out
    have bA1l := lt_blk bA_1.out
    go_wp2_with fail
    refine (HT.out _ HB1.out).mono ?_
    rintro e w2 ⟨E2, d2, gs2, F2, p2, G2, q2, K2, r2, rfl, hgd2, hop2, ha2⟩
    clear bA10 bA11 bA12 bA13 bA14 bA15 bA1l
    have HB2 := Lib.hid (HB1.out.trans (ha2.mono HB1.out.size))
    have hz2 := ha2.size
    have bA_2 := Lib.hid ((ha2.block (w.heap.size) (lt_blk bA_1.out)).trans bA_1.out)
    clear ha2
    have t2o_2 := Lib.hid hop2
    have HGD2 := Lib.hid hgd2
    clear hop2 hgd2
    go_wp2_with fail
    refine (HS.out _ E2 F2 G2 K2 d2 p2 q2 r2 _ _ gs2 HGD2.out t2o_2.out (by omega)).mono ?_
    rintro e w3 ⟨rfl, ha3⟩
    have HB3 := Lib.hid (HB2.out.trans (ha3.mono HB2.out.size))
    have hz3 := ha3.size
    have bA_3 := Lib.hid ((ha3.block (w.heap.size) (lt_blk bA_2.out)).trans bA_2.out)
    have t2o_3 := Lib.hid (t2o_2.out.since ha3 (by omega))
    clear ha3
    have bA30 := cell_of_row _ _ 0 _ 29 (0, 0) bA_3.out
    have bA31 := cell_of_row _ _ 1 _ 29 (0, 0) bA_3.out
    have bA32 := cell_of_row _ _ 2 _ 29 (0, 0) bA_3.out
    have bA33 := cell_of_row _ _ 3 _ 29 (0, 0) bA_3.out
    have bA34 := cell_of_row _ _ 4 _ 29 (0, 0) bA_3.out
    have bA35 := cell_of_row _ _ 5 _ 29 (0, 0) bA_3.out
    have bA3l := lt_blk bA_3.out
    go_wp2_with fail
    refine (HT.out _ HB3.out).mono ?_
    rintro e w4 ⟨E4, d4, gs4, F4, p4, G4, q4, K4, r4, rfl, hgd4, hop4, ha4⟩
    clear bA30 bA31 bA32 bA33 bA34 bA35 bA3l
    have HB4 := Lib.hid (HB3.out.trans (ha4.mono HB3.out.size))
    have hz4 := ha4.size
    have bA_4 := Lib.hid ((ha4.block (w.heap.size) (lt_blk bA_3.out)).trans bA_3.out)
    clear ha4
    have Xo_4 := Lib.hid hop4
    have HGD4 := Lib.hid hgd4
    clear hop4 hgd4
    have bA40 := cell_of_row _ _ 0 _ 29 (0, 0) bA_4.out
    have bA41 := cell_of_row _ _ 1 _ 29 (0, 0) bA_4.out
    have bA42 := cell_of_row _ _ 2 _ 29 (0, 0) bA_4.out
    have bA43 := cell_of_row _ _ 3 _ 29 (0, 0) bA_4.out
    have bA44 := cell_of_row _ _ 4 _ 29 (0, 0) bA_4.out
    have bA45 := cell_of_row _ _ 5 _ 29 (0, 0) bA_4.out
    have bA4l := lt_blk bA_4.out
    go_wp2_with fail
    obtain ⟨V4, hV4⟩ : ∃ V4, V4 = w4.alloc (.cells #[.slice E4 n d4, .int .i64 now, .slice F4 n1 p4, .int .i64 far, .slice G4 n2 q4, .slice K4 n3 r4] 38) := ⟨_, rfl⟩
    have haV4 := below1 w4 (.cells #[.slice E4 n d4, .int .i64 now, .slice F4 n1 p4, .int .i64 far, .slice G4 n2 q4, .slice K4 n3 r4] 38)
    have hnV4 := heap_alloc_new w4 (.cells #[.slice E4 n d4, .int .i64 now, .slice F4 n1 p4, .int .i64 far, .slice G4 n2 q4, .slice K4 n3 r4] 38)
    rw [← hV4] at haV4 hnV4 ⊢
    have hsV4 : V4.heap.size = w4.heap.size + 1 := by rw [hV4]; simp
    clear bA40 bA41 bA42 bA43 bA44 bA45 bA4l
    clear hV4
    have HBV4 := Lib.hid (HB4.out.trans (haV4.mono HB4.out.size))
    have bA_V4 := Lib.hid ((haV4.block (w.heap.size) (lt_blk bA_4.out)).trans bA_4.out)
    have Xo_V4 := Lib.hid (Xo_4.out.since haV4 (by omega))
    have bX_V4 := Lib.hid hnV4
    clear haV4 hnV4
    refine (HI.out _ E4 F4 G4 K4 d4 p4 q4 r4 _ _ gs4 HGD4.out Xo_V4.out (by omega)).mono ?_
    rintro e w5 ⟨rfl, ha5⟩
    have HB5 := Lib.hid (HBV4.out.trans (ha5.mono HBV4.out.size))
    have hz5 := ha5.size
    have bA_5 := Lib.hid ((ha5.block (w.heap.size) (lt_blk bA_V4.out)).trans bA_V4.out)
    have bX_5 := Lib.hid ((ha5.block (w4.heap.size) (lt_blk bX_V4.out)).trans bX_V4.out)
    have Xo_5 := Lib.hid (Xo_V4.out.since ha5 (by omega))
    clear ha5
    have bA50 := cell_of_row _ _ 0 _ 29 (0, 0) bA_5.out
    have bA51 := cell_of_row _ _ 1 _ 29 (0, 0) bA_5.out
    have bA52 := cell_of_row _ _ 2 _ 29 (0, 0) bA_5.out
    have bA53 := cell_of_row _ _ 3 _ 29 (0, 0) bA_5.out
    have bA54 := cell_of_row _ _ 4 _ 29 (0, 0) bA_5.out
    have bA55 := cell_of_row _ _ 5 _ 29 (0, 0) bA_5.out
    have bA5l := lt_blk bA_5.out
    have bX50 := cell_of_row _ _ 0 _ 38 (0, 0) bX_5.out
    have bX51 := cell_of_row _ _ 1 _ 38 (0, 0) bX_5.out
    have bX52 := cell_of_row _ _ 2 _ 38 (0, 0) bX_5.out
    have bX53 := cell_of_row _ _ 3 _ 38 (0, 0) bX_5.out
    have bX54 := cell_of_row _ _ 4 _ 38 (0, 0) bX_5.out
    have bX55 := cell_of_row _ _ 5 _ 38 (0, 0) bX_5.out
    have bX5l := lt_blk bX_5.out
    go_wp2_with fail
    have s0 : w5.cell? ⟨w.heap.size, 0, none⟩ = some (.slice A n c) := bA50
    have s1 : w5.cell? ⟨w.heap.size, 1, none⟩ = some (.int .i64 now) := bA51
    have s2 : w5.cell? ⟨w.heap.size, 2, none⟩ = some (.slice A1 n1 c1) := bA52
    have s3 : w5.cell? ⟨w.heap.size, 3, none⟩ = some (.int .i64 far) := bA53
    have s4 : w5.cell? ⟨w.heap.size, 4, none⟩ = some (.slice A2 n2 c2) := bA54
    have s5 : w5.cell? ⟨w.heap.size, 5, none⟩ = some (.slice A3 n3 c3) := bA55
    have s6 : w5.cell? ⟨w4.heap.size, 0, none⟩ = some (.slice E4 n d4) := bX50
    have s7 : w5.cell? ⟨w4.heap.size, 1, none⟩ = some (.int .i64 now) := bX51
    have s8 : w5.cell? ⟨w4.heap.size, 2, none⟩ = some (.slice F4 n1 p4) := bX52
    have s9 : w5.cell? ⟨w4.heap.size, 3, none⟩ = some (.int .i64 far) := bX53
    have s10 : w5.cell? ⟨w4.heap.size, 4, none⟩ = some (.slice G4 n2 q4) := bX54
    have s11 : w5.cell? ⟨w4.heap.size, 5, none⟩ = some (.slice K4 n3 r4) := bX55
    have sA : w.heap.size < w5.heap.size := bA5l
    have sX : w4.heap.size < w5.heap.size := bX5l
    clear bA50 bA51 bA52 bA53 bA54 bA55 bA5l bX50 bX51 bX52 bX53 bX54 bX55 bX5l
    have HS0 : w5.drew.cell? ⟨w.heap.size, 0, none⟩ = some (.slice A n c) ∧ w5.drew.cell? ⟨w.heap.size, 1, none⟩ = some (.int .i64 now) ∧ w5.drew.cell? ⟨w.heap.size, 2, none⟩ = some (.slice A1 n1 c1) ∧ w5.drew.cell? ⟨w.heap.size, 3, none⟩ = some (.int .i64 far) ∧ w5.drew.cell? ⟨w.heap.size, 4, none⟩ = some (.slice A2 n2 c2) ∧ w5.drew.cell? ⟨w.heap.size, 5, none⟩ = some (.slice A3 n3 c3) ∧ w5.drew.cell? ⟨w4.heap.size, 0, none⟩ = some (.slice E4 n d4) ∧ w5.drew.cell? ⟨w4.heap.size, 1, none⟩ = some (.int .i64 now) ∧ w5.drew.cell? ⟨w4.heap.size, 2, none⟩ = some (.slice F4 n1 p4) ∧ w5.drew.cell? ⟨w4.heap.size, 3, none⟩ = some (.int .i64 far) ∧ w5.drew.cell? ⟨w4.heap.size, 4, none⟩ = some (.slice G4 n2 q4) ∧ w5.drew.cell? ⟨w4.heap.size, 5, none⟩ = some (.slice K4 n3 r4) := ⟨s0, s1, s2, s3, s4, s5, s6, s7, s8, s9, s10, s11⟩
    have HTQ := Lib.hid (fun W (hW' : Below w5.heap.size w5 W) => HT.out W (HB5.out.trans (hW'.mono HB5.out.size)))
    have HEQ := Lib.hid (fun (W : World) (C C1 C2 C3 : Option Addr) (d d1 d2 d3 lo : Nat) (gs : List ((Bool × Int × Int × Bool) × Option Addr × Nat × List Int)) (hd : gs.map vdat = vs) (hW' : Below w5.heap.size w5 W) (ho : OwnP W lo W.heap.size C d gs C1 d1 is C2 d2 ls C3 d3 ws) => eqPoll_own now far (Xo_5.out.since hW' (by omega)) ho HGD4.out hd HVL.out HN1.out HN2.out HN3.out (by have := hW'.size; omega) (Nat.le_refl _) (HSM.out gs4 HGD4.out).1 (by omega) (by omega) (by omega))
    have hbel := Below.refl w5.heap.size w5
    go_region_held3 (fun w' => w'.cell? ⟨w.heap.size, 0, none⟩ = some (.slice A n c) ∧ w'.cell? ⟨w.heap.size, 1, none⟩ = some (.int .i64 now) ∧ w'.cell? ⟨w.heap.size, 2, none⟩ = some (.slice A1 n1 c1) ∧ w'.cell? ⟨w.heap.size, 3, none⟩ = some (.int .i64 far) ∧ w'.cell? ⟨w.heap.size, 4, none⟩ = some (.slice A2 n2 c2) ∧ w'.cell? ⟨w.heap.size, 5, none⟩ = some (.slice A3 n3 c3) ∧ w'.cell? ⟨w4.heap.size, 0, none⟩ = some (.slice E4 n d4) ∧ w'.cell? ⟨w4.heap.size, 1, none⟩ = some (.int .i64 now) ∧ w'.cell? ⟨w4.heap.size, 2, none⟩ = some (.slice F4 n1 p4) ∧ w'.cell? ⟨w4.heap.size, 3, none⟩ = some (.int .i64 far) ∧ w'.cell? ⟨w4.heap.size, 4, none⟩ = some (.slice G4 n2 q4) ∧ w'.cell? ⟨w4.heap.size, 5, none⟩ = some (.slice K4 n3 r4))
      (first | with_reducible exact HS0 | with_reducible exact ⟨kept2 hQ1 s0 sA, kept2 hQ1 s1 sA, kept2 hQ1 s2 sA, kept2 hQ1 s3 sA, kept2 hQ1 s4 sA, kept2 hQ1 s5 sA, kept2 hQ1 s6 sX, kept2 hQ1 s7 sX, kept2 hQ1 s8 sX, kept2 hQ1 s9 sX, kept2 hQ1 s10 sX, kept2 hQ1 s11 sX⟩ | with_reducible exact ⟨kept2 hQ2 s0 sA, kept2 hQ2 s1 sA, kept2 hQ2 s2 sA, kept2 hQ2 s3 sA, kept2 hQ2 s4 sA, kept2 hQ2 s5 sA, kept2 hQ2 s6 sX, kept2 hQ2 s7 sX, kept2 hQ2 s8 sX, kept2 hQ2 s9 sX, kept2 hQ2 s10 sX, kept2 hQ2 s11 sX⟩ | fail)
      (first
        | (go_at_call 12; (with_reducible refine (HTQ.out _ hbel.drew).mono ?_); rintro e v1 ⟨E5, d5, gs5, F5, p5, G5, q5, K5, r5, rfl, hgd5, hop5, hv1⟩; have hQ1 : Below w5.heap.size w5 v1 := below_d0 hv1)
        | (go_at_call 14; (with_reducible refine (HEQ.out v1 E5 F5 G5 K5 d5 p5 q5 r5 _ gs5 hgd5 hQ1 hop5).mono ?_); rintro e w6 ⟨rfl, hv2⟩; have hQ2 : Below w5.heap.size w5 w6 := hQ1.trans (hv2.mono hQ1.size))
        | fail)
    have ha6 := hQ2
    clear hv1 hv2 hQ1 hQ2 hop5 hgd5 HS0 s0 s1 s2 s3 s4 s5 s6 s7 s8 s9 s10 s11 sA sX HTQ HEQ hbel
    try (rename_i hh7; clear hh7)
    have HB6 := Lib.hid (HB5.out.trans (ha6.mono HB5.out.size))
    have hz6 := ha6.size
    have bA_6 := Lib.hid ((ha6.block (w.heap.size) (lt_blk bA_5.out)).trans bA_5.out)
    have bX_6 := Lib.hid ((ha6.block (w4.heap.size) (lt_blk bX_5.out)).trans bX_5.out)
    have Xo_6 := Lib.hid (Xo_5.out.since ha6 (by omega))
    clear ha6
    go_wp2
    go_ret
    exact ⟨rfl, HB6.out⟩
  · rw [remI_no (show 1048576 < szP hs n1 ls n3 by omega)] at HZ
    clear h hn hV hVm hn1 hI hm1 hn2 hL hm2 hn3 hW hm3 hk0
    go_enter Try.func7, Try.ntmps7
    go_wp2_with fail
    refine (HZ.out _ hb0).mono ?_
    rintro e w1 ⟨rfl, ha1⟩
    have HB := Lib.hid (hb0.trans (ha1.mono hb0.size))
    clear ha1
    go_wp2
    go_ret
    exact ⟨rfl, HB.out⟩
end Go.Proofs.Ytojplmjoipjabaa.Po
