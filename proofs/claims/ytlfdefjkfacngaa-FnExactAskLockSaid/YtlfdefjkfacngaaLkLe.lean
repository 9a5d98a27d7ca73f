/-
  The exact law of AskLock, walked.
-/
import Derived.Test.YtlfdefjkfacngaaLkSz
import Derived.Test.YtlfdefjkfacngaaLkTo
import Derived.Test.YtlfdefjkfacngaaLkEq
import Derived.Test.YtlfdefjkfacngaaLkMk
import Derived.Test.YtlfdefjkfacngaaLkF10
import Derived.Test.YtlfdefjkfacngaaLkLb
import Derived.Test.YtlfdefjkfacngaaNtTo
import Derived.Test.YtlfdefjkfacngaaNtEq
import Derived.Test.YtlfdefjkfacngaaNtMk
import Derived.Deep.RegionHeld3
import Derived.Deep.DeepCutAuto
import Derived.Deep.QuietTactic
import Derived.BigQuiet
namespace Go.Proofs.Ytlfdefjkfacngaa.Lk
open Go.RowKit CM Nt
set_option linter.unusedVariables false
set_option linter.unusedSimpArgs false

set_option maxRecDepth 100000 in
set_option maxHeartbeats 32000000 in
theorem askLock_walk (w : World) (A : Option Addr) (n c : Nat) (ls : List LK) (hn : ls.length = n) (hA : LksAt w A ls) (hmx : n ≤ maxLen) (AF : Option Addr) (nf cf : Nat) (fs : List Int) (hnf : fs.length = nf) (hmf : nf ≤ maxLen) (hFA : IntsB w w.heap.size AF fs) (s : ByteArray) (t : Int) (g : Bool) (hsx : s.size ≤ maxLen) (hwt : (Lit.int .i64 t).wf = true) :
    Calls Try.prog 6 #[.slice A n c, .slice AF nf cf, .agg #[.string s, .int .i64 t, .bool g]] w fun e w' => e = .returned (.bool true) ∧ Below w.heap.size w w' := by
  have hb0 := below1 w (.cells #[.string s, .int .i64 t, .bool g] 52)
  have hk0 := heap_alloc_new w (.cells #[.string s, .int .i64 t, .bool g] 52)
  have HZ := Lib.hid (fun W (hW : Below w.heap.size w W) => szLockS_any A n c ls 1048576 w.heap.size W hn (hA.1.below hW) hW.size hA.2 (Nat.le_refl _))
  have HN := Lib.hid hn
  have HNF := Lib.hid hnf
  unfold maxLen at hmf
  by_cases hnf1 : nf ≤ 1048576
  · have hnfi : (nf : Int) ≤ 1048576 := by omega
    by_cases h : szKs ls ≤ 1048576
    · rw [remI_yes h] at HZ
      have hs0 : (0 : Int) ≤ ((1048576 : Nat) : Int) - ((szKs ls : Nat) : Int) := by omega
      obtain ⟨q0, hq0⟩ : ∃ q0, q0 = ((1048576 : Nat) : Int) - ((szKs ls : Nat) : Int) := ⟨_, rfl⟩
      rw [← hq0] at HZ hs0
      obtain ⟨ql, hql⟩ : ∃ ql : Nat, ql = 1048576 - szKs ls := ⟨_, rfl⟩
      have hqe : (ql : Int) = q0 := by omega
      have hqb : ql ≤ 1048576 := by omega
      have hzz := fun W => szLock_any s t g ql W hsx hqb
      rw [hqe] at hzz
      by_cases h9 : s.size ≤ ql
      · rw [remI_yes h9] at hzz
        have hs9 : (0 : Int) ≤ (ql : Int) - (s.size : Int) := by omega
        rw [hqe] at hzz hs9
        obtain ⟨q9, hq9⟩ : ∃ q9, q9 = q0 - (s.size : Int) := ⟨_, rfl⟩
        rw [← hq9] at hzz hs9
        have HZZ := Lib.hid hzz
        have hs1 : s.size ≤ 1048576 := by omega
        have hm := ksmall_of h
        have hn1 : n ≤ 1048576 := by have := hm.1; omega
        have HT := Lib.hid (fun W (hW : Below w.heap.size w W) => toLockS_any A n c ls w.heap.size W hn (hA.1.below hW) hW.size hn1)
        have HTF := Lib.hid (fun W (hW : Below w.heap.size w W) => toIntS_any AF nf cf fs w.heap.size W hnf (hFA.below hW) hW.size hnf1)
        have HTX := Lib.hid (fun W => toLock_any s t g W)
        have hspec := fun (W : World) (C : Option Addr) (lo hi : Nat) (ho : OwnK W lo hi C n ls) (hh : hi ≤ W.heap.size) (D : Option Addr) (lo2 hi2 : Nat) (ho2 : OwnI W lo2 hi2 D nf fs) (hh2 : hi2 ≤ W.heap.size) => specAskLock_any s t g C n n ls W.heap.size W hn (Nat.le_refl _) (ho.lks.mono hh) (Nat.le_refl _) hm D nf nf fs hnf (ho2.ints.mono hh2) hnf1 hs1
        have himpl := fun (W : World) (C : Option Addr) (lo hi : Nat) (ho : OwnK W lo hi C n ls) (hh : hi ≤ W.heap.size) (D : Option Addr) (lo2 hi2 : Nat) (ho2 : OwnI W lo2 hi2 D nf fs) (hh2 : hi2 ≤ W.heap.size) => implAskLock_any s t g C n n ls W.heap.size W hn (Nat.le_refl _) (ho.lks.mono hh) (Nat.le_refl _) hm D nf nf fs hnf (ho2.ints.mono hh2) hnf1 hs1
        have hsm : (askA ls fs (s, t, g)).2.1.length ≤ 1048576 := by have := askA_len ls fs (s, t, g); omega
        obtain ⟨⟨cd, al, ok⟩, hr⟩ : ∃ r, r = askA ls fs (s, t, g) := ⟨_, rfl⟩
        rw [← hr] at hsm
        simp only [← hr] at hspec himpl
        simp only [NAPost_un] at hspec himpl
        simp only at hsm
        obtain ⟨m, hmm⟩ : ∃ m, m = al.length := ⟨_, rfl⟩
        rw [← hmm] at hsm
        simp only [← hmm] at hspec himpl
        have HAL := Lib.hid hmm.symm
        have HS := Lib.hid hspec
        have HI := Lib.hid himpl
        have HB0 := Lib.hid hb0
        have bA_0 := Lib.hid hk0
        have m1 : (0 : Int) ≤ ((1 + 3 * n : Nat) : Int) := by omega
        have m2 : (0 : Int) ≤ ((1 + m : Nat) : Int) := by omega
        have m3 : (0 : Int) ≤ ((1 + 3 * n + nf : Nat) : Int) := by omega
        obtain ⟨mx, hmxx⟩ : ∃ mx, mx = 1 + 3 * n := ⟨_, rfl⟩
        obtain ⟨mg, hmgg⟩ : ∃ mg, mg = 1 + m := ⟨_, rfl⟩
        have hmx1 : 1 ≤ mx := by omega
        have hmx2 : mx + nf ≤ 1000000000 := by omega
        rw [← hmxx] at m1 m3
        rw [← hmgg] at m2
        obtain ⟨my, hmyy⟩ : ∃ my, my = mx + nf := ⟨_, rfl⟩
        rw [← hmyy] at m3
        have HMX := Lib.hid hmxx.symm
        have HMG := Lib.hid hmgg.symm
        have HMY := Lib.hid hmyy.symm
        have HM2 := Lib.hid hmx2
        clear hspec himpl hr h h9 hA hFA hn hnf hq0 hql hqe hqb hq9 hzz hm hmm hmxx hmgg hmyy hmx2 hk0 hwt
        go_enter Try.func6, Try.ntmps6
        go_wp2_with fail
        refine (HZ.out _ HB0.out).mono ?_
        rintro e w1 ⟨rfl, ha1⟩
        have h00 := HB0.out.size
        have h01 : w.heap.size + 1 ≤ (w.alloc (.cells #[.string s, .int .i64 t, .bool g] 52)).heap.size := by simp
        clear hb0
        have HB1 := Lib.hid (HB0.out.trans (ha1.mono HB0.out.size))
        have hz1 := ha1.size
        have bA_1 := Lib.hid ((ha1.block w.heap.size (lt_blk bA_0.out)).trans bA_0.out)
        clear ha1
        have y0 : w1.cell? ⟨w.heap.size, 0, none⟩ = some (.string s) := cell_blk (i := 0) bA_1.out rfl
        have y1 : w1.cell? ⟨w.heap.size, 1, none⟩ = some (.int .i64 t) := cell_blk (i := 1) bA_1.out rfl
        have y2 : w1.cell? ⟨w.heap.size, 2, none⟩ = some (.bool g) := cell_blk (i := 2) bA_1.out rfl
        have yl := lt_blk bA_1.out
        go_wp2_with fail
        refine (HZZ.out _).mono ?_
        rintro e w2 ⟨rfl, ha2⟩
        clear y0 y1 y2 yl
        have HB2 := Lib.hid (HB1.out.trans (ha2.mono HB1.out.size))
        have hz2 := ha2.size
        have bA_2 := Lib.hid ((ha2.block w.heap.size (lt_blk bA_1.out)).trans bA_1.out)
        clear ha2
        have y0 : w2.cell? ⟨w.heap.size, 0, none⟩ = some (.string s) := cell_blk (i := 0) bA_2.out rfl
        have y1 : w2.cell? ⟨w.heap.size, 1, none⟩ = some (.int .i64 t) := cell_blk (i := 1) bA_2.out rfl
        have y2 : w2.cell? ⟨w.heap.size, 2, none⟩ = some (.bool g) := cell_blk (i := 2) bA_2.out rfl
        have yl := lt_blk bA_2.out
        have hbel := Below.refl w2.heap.size w2
        have HS0 : w2.drew.cell? ⟨w.heap.size, 0, none⟩ = some (.string s) ∧ w2.drew.cell? ⟨w.heap.size, 1, none⟩ = some (.int .i64 t) ∧ w2.drew.cell? ⟨w.heap.size, 2, none⟩ = some (.bool g) := ⟨y0, y1, y2⟩
        go_wp2_with fail
        go_region_held3 (fun w' => w'.cell? ⟨w.heap.size, 0, none⟩ = some (.string s) ∧ w'.cell? ⟨w.heap.size, 1, none⟩ = some (.int .i64 t) ∧ w'.cell? ⟨w.heap.size, 2, none⟩ = some (.bool g))
          (first | with_reducible exact HS0 | with_reducible exact ⟨kept2 hQa y0 yl, kept2 hQa y1 yl, kept2 hQa y2 yl⟩ | with_reducible exact ⟨kept2 hQb y0 yl, kept2 hQb y1 yl, kept2 hQb y2 yl⟩ | with_reducible exact ⟨kept2 hQc y0 yl, kept2 hQc y1 yl, kept2 hQc y2 yl⟩ | with_reducible exact ⟨kept2 hQd y0 yl, kept2 hQd y1 yl, kept2 hQd y2 yl⟩ | fail)
          (first
            | (go_at_call 34; have hgd := hQb.size; clear hgd; (with_reducible refine (HT.out _ (HB2.out.trans (hQb.mono HB2.out.size))).mono ?_); rintro e v3 ⟨gL, rfl, hgL, hoL0, hv3⟩; (try have hoL := OwnK.grow (hi := 0) hoL hv3); (try have hoF := own_growI hoF hv3); clear hgL; have hoL := hoL0; have hQc : Below w2.heap.size w2 v3 := hQb.trans (hv3.mono hQb.size))
            | (go_at_call 34; have hgd := hQa.size; clear hgd; (with_reducible refine (HT.out _ (HB2.out.trans (hQa.mono HB2.out.size))).mono ?_); rintro e v2 ⟨gL, rfl, hgL, hoL0, hv2⟩; (try have hoL := OwnK.grow (hi := 0) hoL hv2); (try have hoF := own_growI hoF hv2); clear hgL; have hoL := hoL0; have hQb : Below w2.heap.size w2 v2 := hQa.trans (hv2.mono hQa.size))
            | (go_at_call 34; (with_reducible refine (HT.out _ (HB2.out.drew)).mono ?_); rintro e v1 ⟨gL, rfl, hgL, hoL0, hv1⟩; skip; clear hgL; have hoL := hoL0; have hQa : Below w2.heap.size w2 v1 := below_drewL hv1)
            | (go_at_call 37; have hgd := hQb.size; clear hgd; (with_reducible refine (HTF.out _ (HB2.out.trans (hQb.mono HB2.out.size))).mono ?_); rintro e v3 ⟨gF, rfl, hoF0, hv3⟩; (try have hoL := OwnK.grow (hi := 0) hoL hv3); (try have hoF := own_growI hoF hv3); have hoF := hoF0; have hQc : Below w2.heap.size w2 v3 := hQb.trans (hv3.mono hQb.size))
            | (go_at_call 37; have hgd := hQa.size; clear hgd; (with_reducible refine (HTF.out _ (HB2.out.trans (hQa.mono HB2.out.size))).mono ?_); rintro e v2 ⟨gF, rfl, hoF0, hv2⟩; (try have hoL := OwnK.grow (hi := 0) hoL hv2); (try have hoF := own_growI hoF hv2); have hoF := hoF0; have hQb : Below w2.heap.size w2 v2 := hQa.trans (hv2.mono hQa.size))
            | (go_at_call 37; (with_reducible refine (HTF.out _ (HB2.out.drew)).mono ?_); rintro e v1 ⟨gF, rfl, hoF0, hv1⟩; skip; have hoF := hoF0; have hQa : Below w2.heap.size w2 v1 := below_drewL hv1)
            | (go_at_call 38; have hgd := hQb.size; clear hgd; (with_reducible refine (HTX.out _).mono ?_); rintro e v3 ⟨rfl, hv3⟩; (try have hoL := OwnK.grow (hi := 0) hoL hv3); (try have hoF := own_growI hoF hv3); skip; have hQc : Below w2.heap.size w2 v3 := hQb.trans (hv3.mono hQb.size))
            | (go_at_call 38; have hgd := hQa.size; clear hgd; (with_reducible refine (HTX.out _).mono ?_); rintro e v2 ⟨rfl, hv2⟩; (try have hoL := OwnK.grow (hi := 0) hoL hv2); (try have hoF := own_growI hoF hv2); skip; have hQb : Below w2.heap.size w2 v2 := hQa.trans (hv2.mono hQa.size))
            | (go_at_call 38; (with_reducible refine (HTX.out _).mono ?_); rintro e v1 ⟨rfl, hv1⟩; skip; skip; have hQa : Below w2.heap.size w2 v1 := below_drewL hv1)
            | (go_at_call 15; (with_reducible refine (HS.out _ _ _ _ hoL (Nat.le_refl _) _ _ _ hoF (Nat.le_refl _)).mono ?_); rintro e w3 ⟨A3, c3, rfl, ho3, hv4⟩; have hQd : Below w2.heap.size w2 w3 := hQc.trans (hv4.mono hQc.size))
            | fail)
        all_goals (
          have ha3 := hQd
          have hzv3 := hQc.size
          clear hQa hQb hQc hQd hv1 hv2 hv3 hv4 hoL hoF HS0 hbel
          clear y0 y1 y2 yl
          have HB3 := Lib.hid (HB2.out.trans (ha3.mono HB2.out.size))
          have hz3 := ha3.size
          have bA_3 := Lib.hid ((ha3.block w.heap.size (lt_blk bA_2.out)).trans bA_2.out)
          clear ha3
          have Vo_3 := Lib.hid ho3
          clear ho3
          go_wp2_with fail
          refine (HT.out _ HB3.out).mono ?_
          rintro e w4 ⟨g4, rfl, hg4, ho4, ha4⟩
          clear hg4
          have HB4 := Lib.hid (HB3.out.trans (ha4.mono HB3.out.size))
          have hz4 := ha4.size
          have Vo_4 := Lib.hid (Vo_3.out.since ha4 (by omega))
          have bA_4 := Lib.hid ((ha4.block w.heap.size (lt_blk bA_3.out)).trans bA_3.out)
          clear ha4
          have Xo_4 := Lib.hid ho4
          clear ho4
          go_wp2_with fail
          refine (HTF.out _ HB4.out).mono ?_
          rintro e w5 ⟨g5, rfl, ho5, ha5⟩
          have HB5 := Lib.hid (HB4.out.trans (ha5.mono HB4.out.size))
          have hz5 := ha5.size
          have Vo_5 := Lib.hid (Vo_4.out.since ha5 (by omega))
          have Xo_5 := Lib.hid (Xo_4.out.since ha5 (by omega))
          have bA_5 := Lib.hid ((ha5.block w.heap.size (lt_blk bA_4.out)).trans bA_4.out)
          clear ha5
          have XFo_5 := Lib.hid ho5
          clear ho5
          have y0 : w5.cell? ⟨w.heap.size, 0, none⟩ = some (.string s) := cell_blk (i := 0) bA_5.out rfl
          have y1 : w5.cell? ⟨w.heap.size, 1, none⟩ = some (.int .i64 t) := cell_blk (i := 1) bA_5.out rfl
          have y2 : w5.cell? ⟨w.heap.size, 2, none⟩ = some (.bool g) := cell_blk (i := 2) bA_5.out rfl
          have yl := lt_blk bA_5.out
          go_wp2_with fail
          refine (HTX.out _).mono ?_
          rintro e w6 ⟨rfl, ha6⟩
          clear y0 y1 y2 yl
          have HB6 := Lib.hid (HB5.out.trans (ha6.mono HB5.out.size))
          have hz6 := ha6.size
          have Vo_6 := Lib.hid (Vo_5.out.since ha6 (by omega))
          have Xo_6 := Lib.hid (Xo_5.out.since ha6 (by omega))
          have XFo_6 := Lib.hid (XFo_5.out.since ha6 (by omega))
          have bA_6 := Lib.hid ((ha6.block w.heap.size (lt_blk bA_5.out)).trans bA_5.out)
          clear ha6
          go_wp2_with fail
          refine (HI.out _ (some ⟨g4, 0, none⟩) _ _ Xo_6.out (by omega) (some ⟨g5, 0, none⟩) _ _ XFo_6.out (by omega)).mono ?_
          rintro e w7 ⟨A7, c7, rfl, ho7, ha7⟩
          have HB7 := Lib.hid (HB6.out.trans (ha7.mono HB6.out.size))
          have hz7 := ha7.size
          have Vo_7 := Lib.hid (Vo_6.out.since ha7 (by omega))
          have Xo_7 := Lib.hid (Xo_6.out.since ha7 (by omega))
          have XFo_7 := Lib.hid (XFo_6.out.since ha7 (by omega))
          have bA_7 := Lib.hid ((ha7.block w.heap.size (lt_blk bA_6.out)).trans bA_6.out)
          clear ha7
          have Ro_7 := Lib.hid ho7
          clear ho7
          have HE8 := Lib.hid (eqIntS_same A7 A3 m c7 c3 al w7.heap.size w7 HAL.out (Ro_7.out.ints.mono (by omega)) (Vo_7.out.ints.mono (by omega)) (Nat.le_refl _) (by omega))
          go_wp2_with fail
          refine HE8.out.mono ?_
          rintro e w8 ⟨rfl, ha8⟩
          have HB8 := Lib.hid (HB7.out.trans (ha8.mono HB7.out.size))
          have hz8 := ha8.size
          have Vo_8 := Lib.hid (Vo_7.out.since ha8 (by omega))
          have Xo_8 := Lib.hid (Xo_7.out.since ha8 (by omega))
          have XFo_8 := Lib.hid (XFo_7.out.since ha8 (by omega))
          have Ro_8 := Lib.hid (Ro_7.out.since ha8 (by omega))
          have bA_8 := Lib.hid ((ha8.block w.heap.size (lt_blk bA_7.out)).trans bA_7.out)
          clear ha8
          clear HE8
          go_wp2_with fail
          refine (HT.out _ HB8.out).mono ?_
          rintro e w9 ⟨g9, rfl, hg9, ho9, ha9⟩
          clear hg9
          have HB9 := Lib.hid (HB8.out.trans (ha9.mono HB8.out.size))
          have hz9 := ha9.size
          have Vo_9 := Lib.hid (Vo_8.out.since ha9 (by omega))
          have Xo_9 := Lib.hid (Xo_8.out.since ha9 (by omega))
          have XFo_9 := Lib.hid (XFo_8.out.since ha9 (by omega))
          have Ro_9 := Lib.hid (Ro_8.out.since ha9 (by omega))
          have bA_9 := Lib.hid ((ha9.block w.heap.size (lt_blk bA_8.out)).trans bA_8.out)
          clear ha9
          have Yo_9 := Lib.hid ho9
          clear ho9
          have HE10 := Lib.hid (eqLockS_same (some ⟨g4, 0, none⟩) (some ⟨g9, 0, none⟩) n n n ls w9.heap.size w9 HN.out (Xo_9.out.lks.mono (by omega)) (Yo_9.out.lks.mono (by omega)) (Nat.le_refl _) (by omega))
          go_wp2_with fail
          refine HE10.out.mono ?_
          rintro e w10 ⟨rfl, ha10⟩
          have HB10 := Lib.hid (HB9.out.trans (ha10.mono HB9.out.size))
          have hz10 := ha10.size
          have Vo_10 := Lib.hid (Vo_9.out.since ha10 (by omega))
          have Xo_10 := Lib.hid (Xo_9.out.since ha10 (by omega))
          have XFo_10 := Lib.hid (XFo_9.out.since ha10 (by omega))
          have Ro_10 := Lib.hid (Ro_9.out.since ha10 (by omega))
          have Yo_10 := Lib.hid (Yo_9.out.since ha10 (by omega))
          have bA_10 := Lib.hid ((ha10.block w.heap.size (lt_blk bA_9.out)).trans bA_9.out)
          clear ha10
          clear HE10
          go_wp2_with fail
          refine (HTF.out _ HB10.out).mono ?_
          rintro e w11 ⟨g11, rfl, ho11, ha11⟩
          have HB11 := Lib.hid (HB10.out.trans (ha11.mono HB10.out.size))
          have hz11 := ha11.size
          have Vo_11 := Lib.hid (Vo_10.out.since ha11 (by omega))
          have Xo_11 := Lib.hid (Xo_10.out.since ha11 (by omega))
          have XFo_11 := Lib.hid (XFo_10.out.since ha11 (by omega))
          have Ro_11 := Lib.hid (Ro_10.out.since ha11 (by omega))
          have bA_11 := Lib.hid ((ha11.block w.heap.size (lt_blk bA_10.out)).trans bA_10.out)
          clear ha11
          have YFo_11 := Lib.hid ho11
          clear ho11
          have HE12 := Lib.hid (eqIntS_same (some ⟨g5, 0, none⟩) (some ⟨g11, 0, none⟩) nf nf nf fs w11.heap.size w11 HNF.out (XFo_11.out.ints.mono (by omega)) (YFo_11.out.ints.mono (by omega)) (Nat.le_refl _) (by omega))
          go_wp2_with fail
          refine HE12.out.mono ?_
          rintro e w12 ⟨rfl, ha12⟩
          have HB12 := Lib.hid (HB11.out.trans (ha12.mono HB11.out.size))
          have hz12 := ha12.size
          have Vo_12 := Lib.hid (Vo_11.out.since ha12 (by omega))
          have Xo_12 := Lib.hid (Xo_11.out.since ha12 (by omega))
          have XFo_12 := Lib.hid (XFo_11.out.since ha12 (by omega))
          have Ro_12 := Lib.hid (Ro_11.out.since ha12 (by omega))
          have YFo_12 := Lib.hid (YFo_11.out.since ha12 (by omega))
          have bA_12 := Lib.hid ((ha12.block w.heap.size (lt_blk bA_11.out)).trans bA_11.out)
          clear ha12
          clear HE12
          have HM13 := Lib.hid (markLockS_any (some ⟨g4, 0, none⟩) n n 1 _ _ ls w12 HN.out Xo_12.out (by omega) (by omega))
          rw [HMX.out] at HM13
          go_wp2_with fail
          refine HM13.out.mono ?_
          rintro e w13 ⟨rfl, hmi13, hma13⟩
          have hmm13 := hma13.mid (own_rangeL Xo_12.out)
          have hz13 := hmm13.2.2.2.1
          have HB13 := Lib.hid (HB12.out.trans ((hmm13.below (by omega)).mono (by omega)))
          have Vo_13 := Lib.hid (Vo_12.out.mid hmm13 (by omega))
          have XFo_13 := Lib.hid (XFo_12.out.mid hmm13 (by omega))
          have Ro_13 := Lib.hid (Ro_12.out.mid hmm13 (by omega))
          have bA_13 := Lib.hid ((hmm13.2.2.2.2 w.heap.size (lt_blk bA_12.out) (by omega)).trans bA_12.out)
          have Xo_13 := Lib.hid (show OwnK w13 _ _ (some ⟨g4, 0, none⟩) n (mLks 1 n) from hmi13)
          clear hmi13 hmm13 hma13 HM13
          have HM14 := Lib.hid (markIntS_any (some ⟨g5, 0, none⟩) nf nf mx _ _ fs w13 HNF.out XFo_13.out hmx1 HM2.out)
          rw [HMY.out] at HM14
          go_wp2_with fail
          refine HM14.out.mono ?_
          rintro e w14 ⟨rfl, hmi14, hma14⟩
          have hmm14 := hma14.mid (own_rangeL XFo_13.out)
          have hz14 := hmm14.2.2.2.1
          have HB14 := Lib.hid (HB13.out.trans ((hmm14.below (by omega)).mono (by omega)))
          have Vo_14 := Lib.hid (Vo_13.out.mid hmm14 (by omega))
          have Ro_14 := Lib.hid (Ro_13.out.mid hmm14 (by omega))
          have bA_14 := Lib.hid ((hmm14.2.2.2.2 w.heap.size (lt_blk bA_13.out) (by omega)).trans bA_13.out)
          clear hmi14 hmm14 hma14 HM14
          have HE15 := Lib.hid (eqIntS_same A7 A3 m c7 c3 al w14.heap.size w14 HAL.out (Ro_14.out.ints.mono (by omega)) (Vo_14.out.ints.mono (by omega)) (Nat.le_refl _) (by omega))
          go_wp2_with fail
          refine HE15.out.mono ?_
          rintro e w15 ⟨rfl, ha15⟩
          have HB15 := Lib.hid (HB14.out.trans (ha15.mono HB14.out.size))
          have hz15 := ha15.size
          have Vo_15 := Lib.hid (Vo_14.out.since ha15 (by omega))
          have Ro_15 := Lib.hid (Ro_14.out.since ha15 (by omega))
          have bA_15 := Lib.hid ((ha15.block w.heap.size (lt_blk bA_14.out)).trans bA_14.out)
          clear ha15
          clear HE15
          have HM16 := Lib.hid (markIntS_any A7 m c7 1 _ _ al w15 HAL.out Ro_15.out (by omega) (by omega))
          rw [HMG.out] at HM16
          go_wp2_with fail
          refine HM16.out.mono ?_
          rintro e w16 ⟨rfl, hmi16, hma16⟩
          have hmm16 := hma16.mid (own_rangeL Ro_15.out)
          have hz16 := hmm16.2.2.2.1
          have HB16 := Lib.hid (HB15.out.trans ((hmm16.below (by omega)).mono (by omega)))
          have Vo_16 := Lib.hid (Vo_15.out.mid hmm16 (by omega))
          have bA_16 := Lib.hid ((hmm16.2.2.2.2 w.heap.size (lt_blk bA_15.out) (by omega)).trans bA_15.out)
          have Ro_16 := Lib.hid hmi16
          clear hmi16 hmm16 hma16 HM16
          have HH17 := Lib.hid (heldIntS_any A7 m c7 1 w16.heap.size w16 (Ro_16.out.ints.mono (by omega)) (Nat.le_refl _) (Nat.le_refl _) (by omega))
          rw [HMG.out] at HH17
          go_wp2_with fail
          refine HH17.out.mono ?_
          rintro e w17 ⟨rfl, rfl⟩
          clear HH17
          have y0 : w16.cell? ⟨w.heap.size, 0, none⟩ = some (.string s) := cell_blk (i := 0) bA_16.out rfl
          have y1 : w16.cell? ⟨w.heap.size, 1, none⟩ = some (.int .i64 t) := cell_blk (i := 1) bA_16.out rfl
          have y2 : w16.cell? ⟨w.heap.size, 2, none⟩ = some (.bool g) := cell_blk (i := 2) bA_16.out rfl
          have yl := lt_blk bA_16.out
          have hbel := Below.refl w16.heap.size w16
          have HS0 : w16.drew.cell? ⟨w.heap.size, 0, none⟩ = some (.string s) ∧ w16.drew.cell? ⟨w.heap.size, 1, none⟩ = some (.int .i64 t) ∧ w16.drew.cell? ⟨w.heap.size, 2, none⟩ = some (.bool g) := ⟨y0, y1, y2⟩
          go_wp2_with fail
          go_region_held3 (fun w' => w'.cell? ⟨w.heap.size, 0, none⟩ = some (.string s) ∧ w'.cell? ⟨w.heap.size, 1, none⟩ = some (.int .i64 t) ∧ w'.cell? ⟨w.heap.size, 2, none⟩ = some (.bool g))
            (first | with_reducible exact HS0 | with_reducible exact ⟨kept2 hQa y0 yl, kept2 hQa y1 yl, kept2 hQa y2 yl⟩ | with_reducible exact ⟨kept2 hQb y0 yl, kept2 hQb y1 yl, kept2 hQb y2 yl⟩ | with_reducible exact ⟨kept2 hQc y0 yl, kept2 hQc y1 yl, kept2 hQc y2 yl⟩ | with_reducible exact ⟨kept2 hQd y0 yl, kept2 hQd y1 yl, kept2 hQd y2 yl⟩ | fail)
            (first
              | (go_at_call 34; have hgd := hQb.size; clear hgd; (with_reducible refine (HT.out _ (HB16.out.trans (hQb.mono HB16.out.size))).mono ?_); rintro e v3 ⟨gL, rfl, hgL, hoL0, hv3⟩; (try have hoL := OwnK.grow (hi := 0) hoL hv3); (try have hoF := own_growI hoF hv3); clear hgL; have hoL := hoL0; have hQc : Below w16.heap.size w16 v3 := hQb.trans (hv3.mono hQb.size))
              | (go_at_call 34; have hgd := hQa.size; clear hgd; (with_reducible refine (HT.out _ (HB16.out.trans (hQa.mono HB16.out.size))).mono ?_); rintro e v2 ⟨gL, rfl, hgL, hoL0, hv2⟩; (try have hoL := OwnK.grow (hi := 0) hoL hv2); (try have hoF := own_growI hoF hv2); clear hgL; have hoL := hoL0; have hQb : Below w16.heap.size w16 v2 := hQa.trans (hv2.mono hQa.size))
              | (go_at_call 34; (with_reducible refine (HT.out _ (HB16.out.drew)).mono ?_); rintro e v1 ⟨gL, rfl, hgL, hoL0, hv1⟩; skip; clear hgL; have hoL := hoL0; have hQa : Below w16.heap.size w16 v1 := below_drewL hv1)
              | (go_at_call 37; have hgd := hQb.size; clear hgd; (with_reducible refine (HTF.out _ (HB16.out.trans (hQb.mono HB16.out.size))).mono ?_); rintro e v3 ⟨gF, rfl, hoF0, hv3⟩; (try have hoL := OwnK.grow (hi := 0) hoL hv3); (try have hoF := own_growI hoF hv3); have hoF := hoF0; have hQc : Below w16.heap.size w16 v3 := hQb.trans (hv3.mono hQb.size))
              | (go_at_call 37; have hgd := hQa.size; clear hgd; (with_reducible refine (HTF.out _ (HB16.out.trans (hQa.mono HB16.out.size))).mono ?_); rintro e v2 ⟨gF, rfl, hoF0, hv2⟩; (try have hoL := OwnK.grow (hi := 0) hoL hv2); (try have hoF := own_growI hoF hv2); have hoF := hoF0; have hQb : Below w16.heap.size w16 v2 := hQa.trans (hv2.mono hQa.size))
              | (go_at_call 37; (with_reducible refine (HTF.out _ (HB16.out.drew)).mono ?_); rintro e v1 ⟨gF, rfl, hoF0, hv1⟩; skip; have hoF := hoF0; have hQa : Below w16.heap.size w16 v1 := below_drewL hv1)
              | (go_at_call 38; have hgd := hQb.size; clear hgd; (with_reducible refine (HTX.out _).mono ?_); rintro e v3 ⟨rfl, hv3⟩; (try have hoL := OwnK.grow (hi := 0) hoL hv3); (try have hoF := own_growI hoF hv3); skip; have hQc : Below w16.heap.size w16 v3 := hQb.trans (hv3.mono hQb.size))
              | (go_at_call 38; have hgd := hQa.size; clear hgd; (with_reducible refine (HTX.out _).mono ?_); rintro e v2 ⟨rfl, hv2⟩; (try have hoL := OwnK.grow (hi := 0) hoL hv2); (try have hoF := own_growI hoF hv2); skip; have hQb : Below w16.heap.size w16 v2 := hQa.trans (hv2.mono hQa.size))
              | (go_at_call 38; (with_reducible refine (HTX.out _).mono ?_); rintro e v1 ⟨rfl, hv1⟩; skip; skip; have hQa : Below w16.heap.size w16 v1 := below_drewL hv1)
              | (go_at_call 14; (with_reducible refine (HI.out _ _ _ _ hoL (Nat.le_refl _) _ _ _ hoF (Nat.le_refl _)).mono ?_); rintro e w18 ⟨A18, c18, rfl, ho18, hv4⟩; have hQd : Below w16.heap.size w16 w18 := hQc.trans (hv4.mono hQc.size))
              | fail)
          all_goals (
            have ha18 := hQd
            have hzv18 := hQc.size
            clear hQa hQb hQc hQd hv1 hv2 hv3 hv4 hoL hoF HS0 hbel
            clear y0 y1 y2 yl
            have HB18 := Lib.hid (HB16.out.trans (ha18.mono HB16.out.size))
            have hz18 := ha18.size
            have Vo_18 := Lib.hid (Vo_16.out.since ha18 (by omega))
            have Ro_18 := Lib.hid (Ro_16.out.since ha18 (by omega))
            have bA_18 := Lib.hid ((ha18.block w.heap.size (lt_blk bA_16.out)).trans bA_16.out)
            clear ha18
            have Qo_18 := Lib.hid ho18
            clear ho18
            have HE19 := Lib.hid (eqIntS_same A18 A3 m c18 c3 al w18.heap.size w18 HAL.out (Qo_18.out.ints.mono (by omega)) (Vo_18.out.ints.mono (by omega)) (Nat.le_refl _) (by omega))
            go_wp2_with fail
            refine HE19.out.mono ?_
            rintro e w19 ⟨rfl, ha19⟩
            have HB19 := Lib.hid (HB18.out.trans (ha19.mono HB18.out.size))
            have hz19 := ha19.size
            have Vo_19 := Lib.hid (Vo_18.out.since ha19 (by omega))
            have Ro_19 := Lib.hid (Ro_18.out.since ha19 (by omega))
            have Qo_19 := Lib.hid (Qo_18.out.since ha19 (by omega))
            have bA_19 := Lib.hid ((ha19.block w.heap.size (lt_blk bA_18.out)).trans bA_18.out)
            clear ha19
            clear HE19
            have HH20 := Lib.hid (heldIntS_any A7 m c7 1 w19.heap.size w19 (Ro_19.out.ints.mono (by omega)) (Nat.le_refl _) (Nat.le_refl _) (by omega))
            rw [HMG.out] at HH20
            go_wp2_with fail
            refine HH20.out.mono ?_
            rintro e w20 ⟨rfl, rfl⟩
            clear HH20
            go_wp2
            go_ret
            exact ⟨rfl, HB19.out⟩))
      · rw [remI_no (by omega)] at hzz
        have HZZ := Lib.hid hzz
        have h01 := lt_blk hk0
        clear h h9 hn hnf hA hFA hwt hqe hql hqb hzz hq0
        go_enter Try.func6, Try.ntmps6
        go_wp2_with fail
        refine (HZ.out _ hb0).mono ?_
        rintro e w1 ⟨rfl, ha1⟩
        have HB := Lib.hid (hb0.trans (ha1.mono hb0.size))
        have hk1 := (ha1.block w.heap.size h01).trans hk0
        have y0 := cell_blk (i := 0) hk1 rfl
        have y1 := cell_blk (i := 1) hk1 rfl
        have y2 := cell_blk (i := 2) hk1 rfl
        clear ha1
        go_wp2_with fail
        refine (HZZ.out _).mono ?_
        rintro e w2 ⟨rfl, ha2⟩
        have HB2 := Lib.hid (HB.out.trans (ha2.mono HB.out.size))
        clear ha2
        go_wp2
        go_ret
        exact ⟨rfl, HB2.out⟩
    · rw [remI_no (show 1048576 < szKs ls by omega)] at HZ
      clear h hn hnf hA hFA hwt
      go_enter Try.func6, Try.ntmps6
      go_wp2_with fail
      refine (HZ.out _ hb0).mono ?_
      rintro e w1 ⟨rfl, ha1⟩
      have HB := Lib.hid (hb0.trans (ha1.mono hb0.size))
      clear ha1
      go_wp2
      go_ret
      exact ⟨rfl, HB.out⟩
  · have hnfi : (1048576 : Int) < (nf : Int) := by omega
    clear hn hnf hA hFA hwt
    go_enter Try.func6, Try.ntmps6
    go_wp2
    go_ret
    exact ⟨rfl, hb0⟩
end Go.Proofs.Ytlfdefjkfacngaa.Lk
