/-
  The exact law of TakeLock, walked.
-/
import Derived.Test.YtlfdefjkfacngaaLkSz
import Derived.Test.YtlfdefjkfacngaaLkTo
import Derived.Test.YtlfdefjkfacngaaLkEq
import Derived.Test.YtlfdefjkfacngaaLkMk
import Derived.Test.YtlfdefjkfacngaaLkF8
import Derived.Test.YtlfdefjkfacngaaLkLb
import Derived.Deep.RegionHeld3
import Derived.Deep.DeepCutAuto
import Derived.Deep.QuietTactic
import Derived.BigQuiet
namespace Go.Proofs.Ytlfdefjkfacngaa.Lk
open Go.RowKit CM Nt
set_option linter.unusedVariables false
set_option linter.unusedSimpArgs false

set_option maxRecDepth 100000 in
set_option maxHeartbeats 16000000 in
theorem takeLock_walk (w : World) (A : Option Addr) (n c : Nat) (ls : List LK) (hn : ls.length = n) (hA : LksAt w A ls) (hmx : n ≤ maxLen) (s : ByteArray) (t : Int) (g : Bool) (hsx : s.size ≤ maxLen) (hwt : (Lit.int .i64 t).wf = true) :
    Calls Try.prog 7 #[.slice A n c, .agg #[.string s, .int .i64 t, .bool g]] w fun e w' => e = .returned (.bool true) ∧ Below w.heap.size w w' := by
  have hb0 := below1 w (.cells #[.string s, .int .i64 t, .bool g] 52)
  have hk0 := heap_alloc_new w (.cells #[.string s, .int .i64 t, .bool g] 52)
  have HZ := Lib.hid (fun W (hW : Below w.heap.size w W) => szLockS_any A n c ls 1048576 w.heap.size W hn (hA.1.below hW) hW.size hA.2 (Nat.le_refl _))
  have HN := Lib.hid hn
  by_cases h : szKs ls ≤ 1048576
  · rw [remI_yes h] at HZ
    have hs0 : (0 : Int) ≤ ((1048576 : Nat) : Int) - ((szKs ls : Nat) : Int) := by omega
    obtain ⟨q0, hq0⟩ : ∃ q0, q0 = ((1048576 : Nat) : Int) - ((szKs ls : Nat) : Int) := ⟨_, rfl⟩
    rw [← hq0] at HZ hs0
    obtain ⟨ql, hql⟩ : ∃ ql : Nat, ql = 1048576 - szKs ls := ⟨_, rfl⟩
    have hqe : (ql : Int) = q0 := by omega
    have hqb : ql ≤ 1048576 := by omega
    have hzz := fun W => szLock_any s t g ql W hsx hqb
    rw [hqe] at hzz
    by_cases h9 : s.size ≤ ql
    · rw [remI_yes h9] at hzz
      have hs9 : (0 : Int) ≤ (ql : Int) - (s.size : Int) := by omega
      rw [hqe] at hzz hs9
      obtain ⟨q9, hq9⟩ : ∃ q9, q9 = q0 - (s.size : Int) := ⟨_, rfl⟩
      rw [← hq9] at hzz hs9
      have HZZ := Lib.hid hzz
      have hs1 : s.size ≤ 1048576 := by omega
      have hm := ksmall_of h
      have hn1 : n ≤ 1048576 := by have := hm.1; omega
      have HT := Lib.hid (fun W (hW : Below w.heap.size w W) => toLockS_any A n c ls w.heap.size W hn (hA.1.below hW) hW.size hn1)
      have HTX := Lib.hid (fun W => toLock_any s t g W)
      have hspec := fun (W : World) (C : Option Addr) (lo hi : Nat) (ho : OwnK W lo hi C n ls) (hh : hi ≤ W.heap.size) => specTakeLock_any s t g C n n ls W.heap.size W hn (Nat.le_refl _) (ho.lks.mono hh) (Nat.le_refl _) hm hs1
      have himpl := fun (W : World) (C : Option Addr) (lo hi : Nat) (ho : OwnK W lo hi C n ls) (hh : hi ≤ W.heap.size) => implTakeLock_any s t g C n n ls W.heap.size W hn (Nat.le_refl _) (ho.lks.mono hh) (Nat.le_refl _) hm hs1
      have hsm : (takeA ls (s, t, g)).1.length ≤ 1048576 := by have := takeA_len ls (s, t, g); omega
      obtain ⟨⟨al, ok⟩, hr⟩ : ∃ r, r = takeA ls (s, t, g) := ⟨_, rfl⟩
      rw [← hr] at hsm
      simp only [← hr] at hspec himpl
      simp only [KAPost_un] at hspec himpl
      simp only at hsm
      obtain ⟨m, hmm⟩ : ∃ m, m = al.length := ⟨_, rfl⟩
      rw [← hmm] at hsm
      simp only [← hmm] at hspec himpl
      have HAL := Lib.hid hmm.symm
      have HS := Lib.hid hspec
      have HI := Lib.hid himpl
      have HB0 := Lib.hid hb0
      have bA_0 := Lib.hid hk0
      have m1 : (0 : Int) ≤ ((1 + 3 * n : Nat) : Int) := by omega
      have m2 : (0 : Int) ≤ ((1 + 3 * m : Nat) : Int) := by omega
      obtain ⟨mx, hmxx⟩ : ∃ mx, mx = 1 + 3 * n := ⟨_, rfl⟩
      obtain ⟨mg, hmgg⟩ : ∃ mg, mg = 1 + 3 * m := ⟨_, rfl⟩
      rw [← hmxx] at m1
      rw [← hmgg] at m2
      have HMX := Lib.hid hmxx.symm
      have HMG := Lib.hid hmgg.symm
      clear hspec himpl hr h h9 hA hn hq0 hql hqe hqb hq9 hzz hm hmm hmxx hmgg hk0 hwt
      go_enter Try.func7, Try.ntmps7
      go_wp2_with fail
      refine (HZ.out _ HB0.out).mono ?_
      rintro e w1 ⟨rfl, ha1⟩
      have h00 := HB0.out.size
      have h01 : w.heap.size + 1 ≤ (w.alloc (.cells #[.string s, .int .i64 t, .bool g] 52)).heap.size := by simp
      clear hb0
      have HB1 := Lib.hid (HB0.out.trans (ha1.mono HB0.out.size))
      have hz1 := ha1.size
      have bA_1 := Lib.hid ((ha1.block w.heap.size (lt_blk bA_0.out)).trans bA_0.out)
      clear ha1
      have y0 : w1.cell? ⟨w.heap.size, 0, none⟩ = some (.string s) := cell_blk (i := 0) bA_1.out rfl
      have y1 : w1.cell? ⟨w.heap.size, 1, none⟩ = some (.int .i64 t) := cell_blk (i := 1) bA_1.out rfl
      have y2 : w1.cell? ⟨w.heap.size, 2, none⟩ = some (.bool g) := cell_blk (i := 2) bA_1.out rfl
      have yl := lt_blk bA_1.out
      go_wp2_with fail
      refine (HZZ.out _).mono ?_
      rintro e w2 ⟨rfl, ha2⟩
      clear y0 y1 y2 yl
      have HB2 := Lib.hid (HB1.out.trans (ha2.mono HB1.out.size))
      have hz2 := ha2.size
      have bA_2 := Lib.hid ((ha2.block w.heap.size (lt_blk bA_1.out)).trans bA_1.out)
      clear ha2
      have y0 : w2.cell? ⟨w.heap.size, 0, none⟩ = some (.string s) := cell_blk (i := 0) bA_2.out rfl
      have y1 : w2.cell? ⟨w.heap.size, 1, none⟩ = some (.int .i64 t) := cell_blk (i := 1) bA_2.out rfl
      have y2 : w2.cell? ⟨w.heap.size, 2, none⟩ = some (.bool g) := cell_blk (i := 2) bA_2.out rfl
      have yl := lt_blk bA_2.out
      have hbel := Below.refl w2.heap.size w2
      have HS0 : w2.drew.cell? ⟨w.heap.size, 0, none⟩ = some (.string s) ∧ w2.drew.cell? ⟨w.heap.size, 1, none⟩ = some (.int .i64 t) ∧ w2.drew.cell? ⟨w.heap.size, 2, none⟩ = some (.bool g) := ⟨y0, y1, y2⟩
      go_wp2_with fail
      go_region_held3 (fun w' => w'.cell? ⟨w.heap.size, 0, none⟩ = some (.string s) ∧ w'.cell? ⟨w.heap.size, 1, none⟩ = some (.int .i64 t) ∧ w'.cell? ⟨w.heap.size, 2, none⟩ = some (.bool g))
        (first | with_reducible exact HS0 | with_reducible exact ⟨kept2 hQ1 y0 yl, kept2 hQ1 y1 yl, kept2 hQ1 y2 yl⟩ | with_reducible exact ⟨kept2 hQ2 y0 yl, kept2 hQ2 y1 yl, kept2 hQ2 y2 yl⟩ | with_reducible exact ⟨kept2 hQ3 y0 yl, kept2 hQ3 y1 yl, kept2 hQ3 y2 yl⟩ | fail)
        (first
          | (go_at_call 34; (with_reducible refine (HT.out _ (HB2.out.trans (hQ1.mono HB2.out.size))).mono ?_); rintro e v2 ⟨g3, rfl, hg3, ho7, hv2⟩; clear hg3; have hQ2 : Below w2.heap.size w2 v2 := hQ1.trans (hv2.mono hQ1.size); have hoz := OwnK.wider ho7 hQ1.size (Nat.le_refl _))
          | (go_at_call 34; (with_reducible refine (HT.out _ HB2.out.drew).mono ?_); rintro e v1 ⟨g3, rfl, hg3, ho7, hv1⟩; clear hg3; have hQ1 : Below w2.heap.size w2 v1 := below_drewL hv1)
          | (go_at_call 38; (with_reducible refine (HTX.out _).mono ?_); rintro e v2 ⟨rfl, hv2⟩; have hQ2 : Below w2.heap.size w2 v2 := hQ1.trans (hv2.mono hQ1.size); have hoz := OwnK.wider (lo' := w2.heap.size) (OwnK.grow (hi := 0) ho7 hv2) (Nat.le_refl _) (Nat.le_refl _))
          | (go_at_call 38; (with_reducible refine (HTX.out _).mono ?_); rintro e v1 ⟨rfl, hv1⟩; have hQ1 : Below w2.heap.size w2 v1 := below_drewL hv1)
          | (go_at_call 24; (with_reducible refine (HS.out _ _ _ _ hoz (Nat.le_refl _)).mono ?_); rintro e w3 ⟨A3, c3, rfl, ho3, hv3⟩; have hQ3 : Below w2.heap.size w2 w3 := hQ2.trans (hv3.mono hQ2.size))
          | fail)
      all_goals (
        have ha3 := hQ3
        have hzv3 := hQ2.size
        clear hQ1 hQ2 hQ3 hv1 hv2 hv3 hoz ho7 HS0 hbel
        clear y0 y1 y2 yl
        have HB3 := Lib.hid (HB2.out.trans (ha3.mono HB2.out.size))
        have hz3 := ha3.size
        have bA_3 := Lib.hid ((ha3.block w.heap.size (lt_blk bA_2.out)).trans bA_2.out)
        clear ha3
        have Vo_3 := Lib.hid ho3
        clear ho3
        go_wp2_with fail
        refine (HT.out _ HB3.out).mono ?_
        rintro e w4 ⟨g4, rfl, hg4, ho4, ha4⟩
        clear hg4
        have HB4 := Lib.hid (HB3.out.trans (ha4.mono HB3.out.size))
        have hz4 := ha4.size
        have Vo_4 := Lib.hid (Vo_3.out.since ha4 (by omega))
        have bA_4 := Lib.hid ((ha4.block w.heap.size (lt_blk bA_3.out)).trans bA_3.out)
        clear ha4
        have Xo_4 := Lib.hid ho4
        clear ho4
        have y0 : w4.cell? ⟨w.heap.size, 0, none⟩ = some (.string s) := cell_blk (i := 0) bA_4.out rfl
        have y1 : w4.cell? ⟨w.heap.size, 1, none⟩ = some (.int .i64 t) := cell_blk (i := 1) bA_4.out rfl
        have y2 : w4.cell? ⟨w.heap.size, 2, none⟩ = some (.bool g) := cell_blk (i := 2) bA_4.out rfl
        have yl := lt_blk bA_4.out
        go_wp2_with fail
        refine (HTX.out _).mono ?_
        rintro e w5 ⟨rfl, ha5⟩
        clear y0 y1 y2 yl
        have HB5 := Lib.hid (HB4.out.trans (ha5.mono HB4.out.size))
        have hz5 := ha5.size
        have Vo_5 := Lib.hid (Vo_4.out.since ha5 (by omega))
        have Xo_5 := Lib.hid (Xo_4.out.since ha5 (by omega))
        have bA_5 := Lib.hid ((ha5.block w.heap.size (lt_blk bA_4.out)).trans bA_4.out)
        clear ha5
        go_wp2_with fail
        refine (HI.out _ (some ⟨g4, 0, none⟩) _ _ Xo_5.out (by omega)).mono ?_
        rintro e w6 ⟨A6, c6, rfl, ho6, ha6⟩
        have HB6 := Lib.hid (HB5.out.trans (ha6.mono HB5.out.size))
        have hz6 := ha6.size
        have Vo_6 := Lib.hid (Vo_5.out.since ha6 (by omega))
        have Xo_6 := Lib.hid (Xo_5.out.since ha6 (by omega))
        have bA_6 := Lib.hid ((ha6.block w.heap.size (lt_blk bA_5.out)).trans bA_5.out)
        clear ha6
        have Ro_6 := Lib.hid ho6
        clear ho6
        have HE7 := Lib.hid (eqLockS_same A6 A3 m c6 c3 al w6.heap.size w6 HAL.out (Ro_6.out.lks.mono (by omega)) (Vo_6.out.lks.mono (by omega)) (Nat.le_refl _) (by omega))
        go_wp2_with fail
        refine HE7.out.mono ?_
        rintro e w7 ⟨rfl, ha7⟩
        have HB7 := Lib.hid (HB6.out.trans (ha7.mono HB6.out.size))
        have hz7 := ha7.size
        have Vo_7 := Lib.hid (Vo_6.out.since ha7 (by omega))
        have Xo_7 := Lib.hid (Xo_6.out.since ha7 (by omega))
        have Ro_7 := Lib.hid (Ro_6.out.since ha7 (by omega))
        have bA_7 := Lib.hid ((ha7.block w.heap.size (lt_blk bA_6.out)).trans bA_6.out)
        clear ha7
        clear HE7
        go_wp2_with fail
        refine (HT.out _ HB7.out).mono ?_
        rintro e w8 ⟨g8, rfl, hg8, ho8, ha8⟩
        clear hg8
        have HB8 := Lib.hid (HB7.out.trans (ha8.mono HB7.out.size))
        have hz8 := ha8.size
        have Vo_8 := Lib.hid (Vo_7.out.since ha8 (by omega))
        have Xo_8 := Lib.hid (Xo_7.out.since ha8 (by omega))
        have Ro_8 := Lib.hid (Ro_7.out.since ha8 (by omega))
        have bA_8 := Lib.hid ((ha8.block w.heap.size (lt_blk bA_7.out)).trans bA_7.out)
        clear ha8
        have Yo_8 := Lib.hid ho8
        clear ho8
        have HE9 := Lib.hid (eqLockS_same (some ⟨g4, 0, none⟩) (some ⟨g8, 0, none⟩) n n n ls w8.heap.size w8 HN.out (Xo_8.out.lks.mono (by omega)) (Yo_8.out.lks.mono (by omega)) (Nat.le_refl _) (by omega))
        go_wp2_with fail
        refine HE9.out.mono ?_
        rintro e w9 ⟨rfl, ha9⟩
        have HB9 := Lib.hid (HB8.out.trans (ha9.mono HB8.out.size))
        have hz9 := ha9.size
        have Vo_9 := Lib.hid (Vo_8.out.since ha9 (by omega))
        have Xo_9 := Lib.hid (Xo_8.out.since ha9 (by omega))
        have Ro_9 := Lib.hid (Ro_8.out.since ha9 (by omega))
        have Yo_9 := Lib.hid (Yo_8.out.since ha9 (by omega))
        have bA_9 := Lib.hid ((ha9.block w.heap.size (lt_blk bA_8.out)).trans bA_8.out)
        clear ha9
        clear HE9
        have HM10 := Lib.hid (markLockS_any (some ⟨g4, 0, none⟩) n n 1 _ _ ls w9 HN.out Xo_9.out (by omega) (by omega))
        rw [HMX.out] at HM10
        go_wp2_with fail
        refine HM10.out.mono ?_
        rintro e w10 ⟨rfl, hmi10, hma10⟩
        have hmm10 := hma10.mid (own_rangeL Xo_9.out)
        have hz10 := hmm10.2.2.2.1
        have HB10 := Lib.hid (HB9.out.trans ((hmm10.below (by omega)).mono (by omega)))
        have Vo_10 := Lib.hid (Vo_9.out.mid hmm10 (by omega))
        have Ro_10 := Lib.hid (Ro_9.out.mid hmm10 (by omega))
        have bA_10 := Lib.hid ((hmm10.2.2.2.2 w.heap.size (lt_blk bA_9.out) (by omega)).trans bA_9.out)
        have Xo_10 := Lib.hid (show OwnK w10 _ _ (some ⟨g4, 0, none⟩) n (mLks 1 n) from hmi10)
        clear hmi10 hmm10 hma10 HM10
        have HE11 := Lib.hid (eqLockS_same A6 A3 m c6 c3 al w10.heap.size w10 HAL.out (Ro_10.out.lks.mono (by omega)) (Vo_10.out.lks.mono (by omega)) (Nat.le_refl _) (by omega))
        go_wp2_with fail
        refine HE11.out.mono ?_
        rintro e w11 ⟨rfl, ha11⟩
        have HB11 := Lib.hid (HB10.out.trans (ha11.mono HB10.out.size))
        have hz11 := ha11.size
        have Vo_11 := Lib.hid (Vo_10.out.since ha11 (by omega))
        have Ro_11 := Lib.hid (Ro_10.out.since ha11 (by omega))
        have bA_11 := Lib.hid ((ha11.block w.heap.size (lt_blk bA_10.out)).trans bA_10.out)
        clear ha11
        clear HE11
        have HM12 := Lib.hid (markLockS_any A6 m c6 1 _ _ al w11 HAL.out Ro_11.out (by omega) (by omega))
        rw [HMG.out] at HM12
        go_wp2_with fail
        refine HM12.out.mono ?_
        rintro e w12 ⟨rfl, hmi12, hma12⟩
        have hmm12 := hma12.mid (own_rangeL Ro_11.out)
        have hz12 := hmm12.2.2.2.1
        have HB12 := Lib.hid (HB11.out.trans ((hmm12.below (by omega)).mono (by omega)))
        have Vo_12 := Lib.hid (Vo_11.out.mid hmm12 (by omega))
        have bA_12 := Lib.hid ((hmm12.2.2.2.2 w.heap.size (lt_blk bA_11.out) (by omega)).trans bA_11.out)
        have Ro_12 := Lib.hid (show OwnK w12 _ _ A6 c6 (mLks 1 m) from hmi12)
        clear hmi12 hmm12 hma12 HM12
        have HH13 := Lib.hid (heldLockS_any A6 m c6 1 w12.heap.size w12 (Ro_12.out.lks.mono (by omega)) (Nat.le_refl _) (Nat.le_refl _) (by omega))
        rw [HMG.out] at HH13
        go_wp2_with fail
        refine HH13.out.mono ?_
        rintro e w13 ⟨rfl, ha13⟩
        clear HH13
        have HB13 := Lib.hid (HB12.out.trans (ha13.mono HB12.out.size))
        have hz13 := ha13.size
        have Vo_13 := Lib.hid (Vo_12.out.since ha13 (by omega))
        have Ro_13 := Lib.hid (Ro_12.out.since ha13 (by omega))
        have bA_13 := Lib.hid ((ha13.block w.heap.size (lt_blk bA_12.out)).trans bA_12.out)
        clear ha13
        have y0 : w13.cell? ⟨w.heap.size, 0, none⟩ = some (.string s) := cell_blk (i := 0) bA_13.out rfl
        have y1 : w13.cell? ⟨w.heap.size, 1, none⟩ = some (.int .i64 t) := cell_blk (i := 1) bA_13.out rfl
        have y2 : w13.cell? ⟨w.heap.size, 2, none⟩ = some (.bool g) := cell_blk (i := 2) bA_13.out rfl
        have yl := lt_blk bA_13.out
        have hbel := Below.refl w13.heap.size w13
        have HS0 : w13.drew.cell? ⟨w.heap.size, 0, none⟩ = some (.string s) ∧ w13.drew.cell? ⟨w.heap.size, 1, none⟩ = some (.int .i64 t) ∧ w13.drew.cell? ⟨w.heap.size, 2, none⟩ = some (.bool g) := ⟨y0, y1, y2⟩
        go_wp2_with fail
        go_region_held3 (fun w' => w'.cell? ⟨w.heap.size, 0, none⟩ = some (.string s) ∧ w'.cell? ⟨w.heap.size, 1, none⟩ = some (.int .i64 t) ∧ w'.cell? ⟨w.heap.size, 2, none⟩ = some (.bool g))
          (first | with_reducible exact HS0 | with_reducible exact ⟨kept2 hQ1 y0 yl, kept2 hQ1 y1 yl, kept2 hQ1 y2 yl⟩ | with_reducible exact ⟨kept2 hQ2 y0 yl, kept2 hQ2 y1 yl, kept2 hQ2 y2 yl⟩ | with_reducible exact ⟨kept2 hQ3 y0 yl, kept2 hQ3 y1 yl, kept2 hQ3 y2 yl⟩ | fail)
          (first
            | (go_at_call 34; (with_reducible refine (HT.out _ (HB13.out.trans (hQ1.mono HB13.out.size))).mono ?_); rintro e v2 ⟨g14, rfl, hg14, ho7, hv2⟩; clear hg14; have hQ2 : Below w13.heap.size w13 v2 := hQ1.trans (hv2.mono hQ1.size); have hoz := OwnK.wider ho7 hQ1.size (Nat.le_refl _))
            | (go_at_call 34; (with_reducible refine (HT.out _ HB13.out.drew).mono ?_); rintro e v1 ⟨g14, rfl, hg14, ho7, hv1⟩; clear hg14; have hQ1 : Below w13.heap.size w13 v1 := below_drewL hv1)
            | (go_at_call 38; (with_reducible refine (HTX.out _).mono ?_); rintro e v2 ⟨rfl, hv2⟩; have hQ2 : Below w13.heap.size w13 v2 := hQ1.trans (hv2.mono hQ1.size); have hoz := OwnK.wider (lo' := w13.heap.size) (OwnK.grow (hi := 0) ho7 hv2) (Nat.le_refl _) (Nat.le_refl _))
            | (go_at_call 38; (with_reducible refine (HTX.out _).mono ?_); rintro e v1 ⟨rfl, hv1⟩; have hQ1 : Below w13.heap.size w13 v1 := below_drewL hv1)
            | (go_at_call 22; (with_reducible refine (HI.out _ _ _ _ hoz (Nat.le_refl _)).mono ?_); rintro e w14 ⟨A14, c14, rfl, ho14, hv3⟩; have hQ3 : Below w13.heap.size w13 w14 := hQ2.trans (hv3.mono hQ2.size))
            | fail)
        all_goals (
          have ha14 := hQ3
          have hzv14 := hQ2.size
          clear hQ1 hQ2 hQ3 hv1 hv2 hv3 hoz ho7 HS0 hbel
          clear y0 y1 y2 yl
          have HB14 := Lib.hid (HB13.out.trans (ha14.mono HB13.out.size))
          have hz14 := ha14.size
          have Vo_14 := Lib.hid (Vo_13.out.since ha14 (by omega))
          have Ro_14 := Lib.hid (Ro_13.out.since ha14 (by omega))
          have bA_14 := Lib.hid ((ha14.block w.heap.size (lt_blk bA_13.out)).trans bA_13.out)
          clear ha14
          have Qo_14 := Lib.hid ho14
          clear ho14
          have HE15 := Lib.hid (eqLockS_same A14 A3 m c14 c3 al w14.heap.size w14 HAL.out (Qo_14.out.lks.mono (by omega)) (Vo_14.out.lks.mono (by omega)) (Nat.le_refl _) (by omega))
          go_wp2_with fail
          refine HE15.out.mono ?_
          rintro e w15 ⟨rfl, ha15⟩
          have HB15 := Lib.hid (HB14.out.trans (ha15.mono HB14.out.size))
          have hz15 := ha15.size
          have Vo_15 := Lib.hid (Vo_14.out.since ha15 (by omega))
          have Ro_15 := Lib.hid (Ro_14.out.since ha15 (by omega))
          have Qo_15 := Lib.hid (Qo_14.out.since ha15 (by omega))
          have bA_15 := Lib.hid ((ha15.block w.heap.size (lt_blk bA_14.out)).trans bA_14.out)
          clear ha15
          clear HE15
          have HH16 := Lib.hid (heldLockS_any A6 m c6 1 w15.heap.size w15 (Ro_15.out.lks.mono (by omega)) (Nat.le_refl _) (Nat.le_refl _) (by omega))
          rw [HMG.out] at HH16
          go_wp2_with fail
          refine HH16.out.mono ?_
          rintro e w16 ⟨rfl, ha16⟩
          clear HH16
          have HB16 := Lib.hid (HB15.out.trans (ha16.mono HB15.out.size))
          have hz16 := ha16.size
          have Vo_16 := Lib.hid (Vo_15.out.since ha16 (by omega))
          have Ro_16 := Lib.hid (Ro_15.out.since ha16 (by omega))
          have Qo_16 := Lib.hid (Qo_15.out.since ha16 (by omega))
          have bA_16 := Lib.hid ((ha16.block w.heap.size (lt_blk bA_15.out)).trans bA_15.out)
          clear ha16
          go_wp2
          go_ret
          exact ⟨rfl, HB16.out⟩))
    · rw [remI_no (by omega)] at hzz
      have HZZ := Lib.hid hzz
      have h01 := lt_blk hk0
      clear h h9 hn hA hwt hqe hql hqb hzz hq0
      go_enter Try.func7, Try.ntmps7
      go_wp2_with fail
      refine (HZ.out _ hb0).mono ?_
      rintro e w1 ⟨rfl, ha1⟩
      have HB := Lib.hid (hb0.trans (ha1.mono hb0.size))
      have hk1 := (ha1.block w.heap.size h01).trans hk0
      have y0 := cell_blk (i := 0) hk1 rfl
      have y1 := cell_blk (i := 1) hk1 rfl
      have y2 := cell_blk (i := 2) hk1 rfl
      clear ha1
      go_wp2_with fail
      refine (HZZ.out _).mono ?_
      rintro e w2 ⟨rfl, ha2⟩
      have HB2 := Lib.hid (HB.out.trans (ha2.mono HB.out.size))
      clear ha2
      go_wp2
      go_ret
      exact ⟨rfl, HB2.out⟩
  · rw [remI_no (show 1048576 < szKs ls by omega)] at HZ
    clear h hn hA hwt
    go_enter Try.func7, Try.ntmps7
    go_wp2_with fail
    refine (HZ.out _ hb0).mono ?_
    rintro e w1 ⟨rfl, ha1⟩
    have HB := Lib.hid (hb0.trans (ha1.mono hb0.size))
    clear ha1
    go_wp2
    go_ret
    exact ⟨rfl, HB.out⟩
end Go.Proofs.Ytlfdefjkfacngaa.Lk
