/-
  The exact laws of FreeLocks and LocksOf, walked.
-/
import Derived.Test.YtlfdefjkfacngaaLkSz
import Derived.Test.YtlfdefjkfacngaaLkTo
import Derived.Test.YtlfdefjkfacngaaLkEq
import Derived.Test.YtlfdefjkfacngaaLkMk
import Derived.Test.YtlfdefjkfacngaaLkF3
import Derived.Deep.RegionHeld3
import Derived.Deep.DeepCutAuto
import Derived.Deep.QuietTactic
import Derived.BigQuiet
namespace Go.Proofs.Ytlfdefjkfacngaa.Lk
open Go.RowKit CM
set_option linter.unusedVariables false
set_option linter.unusedSimpArgs false
theorem own_rangeL {w : World} {lo hi sz cap : Nat} {t : TypeId} {A : Option Addr} {L : List (List Value)} (h : Own w lo hi t sz A cap L) : ∀ x, A = some x → lo ≤ x.block ∧ x.block < hi := fun x hx => ⟨(h.block x hx).1, (h.block x hx).2.1⟩

set_option maxRecDepth 100000 in
set_option maxHeartbeats 8000000 in
theorem freeLocks_walk (w : World) (A : Option Addr) (n c : Nat) (ls : List LK) (hn : ls.length = n) (hA : LksAt w A ls) (hmx : n ≤ maxLen) (tx : Int) (hwt : (Lit.int .i64 tx).wf = true) :
    Calls Try.prog 8 #[.slice A n c, .int .i64 tx] w fun e w' => e = .returned (.bool true) ∧ Below w.heap.size w w' := by
  have hb0 := Below.refl w.heap.size w
  have HZ := Lib.hid (fun W (hW : Below w.heap.size w W) => szLockS_any A n c ls 1048576 w.heap.size W hn (hA.1.below hW) hW.size hA.2 (Nat.le_refl _))
  have HN := Lib.hid hn
  by_cases h : szKs ls ≤ 1048576
  · rw [remI_yes h] at HZ
    have hs0 : (0 : Int) ≤ ((1048576 : Nat) : Int) - ((szKs ls : Nat) : Int) := by omega
    obtain ⟨q0, hq0⟩ : ∃ q0, q0 = ((1048576 : Nat) : Int) - ((szKs ls : Nat) : Int) := ⟨_, rfl⟩
    rw [← hq0] at HZ hs0
    have hm := ksmall_of h
    have hn1 : n ≤ 1048576 := by have := hm.1; omega
    have HT := Lib.hid (fun W (hW : Below w.heap.size w W) => toLockS_any A n c ls w.heap.size W hn (hA.1.below hW) hW.size hn1)
    have hspec := fun (W : World) (C : Option Addr) (lo hi : Nat) (ho : OwnK W lo hi C n ls) (hh : hi ≤ W.heap.size) => specFreeLocks_any tx C n n ls W.heap.size W hn (Nat.le_refl _) (ho.lks.mono hh) (Nat.le_refl _) hm
    have himpl := fun (W : World) (C : Option Addr) (lo hi : Nat) (ho : OwnK W lo hi C n ls) (hh : hi ≤ W.heap.size) => implFreeLocks_any tx C n n ls W.heap.size W hn (Nat.le_refl _) (ho.lks.mono hh) (Nat.le_refl _) hm
    have hsm : (freeA ls tx).1.length ≤ 1048576 := by have := freeA_len ls tx; omega
    obtain ⟨⟨al, ok⟩, hr⟩ : ∃ r, r = freeA ls tx := ⟨_, rfl⟩
    rw [← hr] at hsm
    simp only [← hr] at hspec himpl
    simp only [KAPost_un] at hspec himpl
    simp only at hsm
    obtain ⟨m, hmm⟩ : ∃ m, m = al.length := ⟨_, rfl⟩
    rw [← hmm] at hsm
    simp only [← hmm] at hspec himpl
    have HAL := Lib.hid hmm.symm
    have HS := Lib.hid hspec
    have HI := Lib.hid himpl
    have HB0 := Lib.hid hb0
    have m1 : (0 : Int) ≤ ((1 + 3 * n : Nat) : Int) := by omega
    have m2 : (0 : Int) ≤ ((1 + 3 * m : Nat) : Int) := by omega
    obtain ⟨mx, hmxx⟩ : ∃ mx, mx = 1 + 3 * n := ⟨_, rfl⟩
    obtain ⟨mg, hmgg⟩ : ∃ mg, mg = 1 + 3 * m := ⟨_, rfl⟩
    rw [← hmxx] at m1
    rw [← hmgg] at m2
    have HMX := Lib.hid hmxx.symm
    have HMG := Lib.hid hmgg.symm
    clear hspec himpl hr h hA hn hq0 hb0 hm hmm hmxx hmgg
    go_enter Try.func8, Try.ntmps8
    go_wp2_with fail
    refine (HZ.out _ HB0.out).mono ?_
    rintro e w1 ⟨rfl, ha1⟩
    have h00 := HB0.out.size
    have HB1 := Lib.hid (HB0.out.trans (ha1.mono HB0.out.size))
    have hz1 := ha1.size
    clear ha1
    go_wp2_with fail
    refine (HT.out _ HB1.out).mono ?_
    rintro e w2 ⟨g2, rfl, hg2, ho2, ha2⟩
    clear hg2
    have HB2 := Lib.hid (HB1.out.trans (ha2.mono HB1.out.size))
    have hz2 := ha2.size
    clear ha2
    have t2o_2 := Lib.hid ho2
    clear ho2
    go_wp2_with fail
    refine (HS.out _ (some ⟨g2, 0, none⟩) _ _ t2o_2.out (by omega)).mono ?_
    rintro e w3 ⟨A3, c3, rfl, ho3, ha3⟩
    have HB3 := Lib.hid (HB2.out.trans (ha3.mono HB2.out.size))
    have hz3 := ha3.size
    have t2o_3 := Lib.hid (t2o_2.out.since ha3 (by omega))
    clear ha3
    have Vo_3 := Lib.hid ho3
    clear ho3
    go_wp2_with fail
    refine (HT.out _ HB3.out).mono ?_
    rintro e w4 ⟨g4, rfl, hg4, ho4, ha4⟩
    clear hg4
    have HB4 := Lib.hid (HB3.out.trans (ha4.mono HB3.out.size))
    have hz4 := ha4.size
    have Vo_4 := Lib.hid (Vo_3.out.since ha4 (by omega))
    clear ha4
    have Xo_4 := Lib.hid ho4
    clear ho4
    go_wp2_with fail
    refine (HI.out _ (some ⟨g4, 0, none⟩) _ _ Xo_4.out (by omega)).mono ?_
    rintro e w5 ⟨A5, c5, rfl, ho5, ha5⟩
    have HB5 := Lib.hid (HB4.out.trans (ha5.mono HB4.out.size))
    have hz5 := ha5.size
    have Vo_5 := Lib.hid (Vo_4.out.since ha5 (by omega))
    have Xo_5 := Lib.hid (Xo_4.out.since ha5 (by omega))
    clear ha5
    have Ro_5 := Lib.hid ho5
    clear ho5
    have HE6 := Lib.hid (eqLockS_same A5 A3 m c5 c3 al w5.heap.size w5 HAL.out (Ro_5.out.lks.mono (by omega)) (Vo_5.out.lks.mono (by omega)) (Nat.le_refl _) (by omega))
    go_wp2_with fail
    refine HE6.out.mono ?_
    rintro e w6 ⟨rfl, ha6⟩
    have HB6 := Lib.hid (HB5.out.trans (ha6.mono HB5.out.size))
    have hz6 := ha6.size
    have Vo_6 := Lib.hid (Vo_5.out.since ha6 (by omega))
    have Xo_6 := Lib.hid (Xo_5.out.since ha6 (by omega))
    have Ro_6 := Lib.hid (Ro_5.out.since ha6 (by omega))
    clear ha6
    clear HE6
    go_wp2_with fail
    refine (HT.out _ HB6.out).mono ?_
    rintro e w7 ⟨g7, rfl, hg7, ho7, ha7⟩
    clear hg7
    have HB7 := Lib.hid (HB6.out.trans (ha7.mono HB6.out.size))
    have hz7 := ha7.size
    have Vo_7 := Lib.hid (Vo_6.out.since ha7 (by omega))
    have Xo_7 := Lib.hid (Xo_6.out.since ha7 (by omega))
    have Ro_7 := Lib.hid (Ro_6.out.since ha7 (by omega))
    clear ha7
    have Yo_7 := Lib.hid ho7
    clear ho7
    have HE8 := Lib.hid (eqLockS_same (some ⟨g4, 0, none⟩) (some ⟨g7, 0, none⟩) n n n ls w7.heap.size w7 HN.out (Xo_7.out.lks.mono (by omega)) (Yo_7.out.lks.mono (by omega)) (Nat.le_refl _) (by omega))
    go_wp2_with fail
    refine HE8.out.mono ?_
    rintro e w8 ⟨rfl, ha8⟩
    have HB8 := Lib.hid (HB7.out.trans (ha8.mono HB7.out.size))
    have hz8 := ha8.size
    have Vo_8 := Lib.hid (Vo_7.out.since ha8 (by omega))
    have Xo_8 := Lib.hid (Xo_7.out.since ha8 (by omega))
    have Ro_8 := Lib.hid (Ro_7.out.since ha8 (by omega))
    have Yo_8 := Lib.hid (Yo_7.out.since ha8 (by omega))
    clear ha8
    clear HE8
    have HM9 := Lib.hid (markLockS_any (some ⟨g4, 0, none⟩) n n 1 _ _ ls w8 HN.out Xo_8.out (by omega) (by omega))
    rw [HMX.out] at HM9
    go_wp2_with fail
    refine HM9.out.mono ?_
    rintro e w9 ⟨rfl, hmi9, hma9⟩
    have hmm9 := hma9.mid (own_rangeL Xo_8.out)
    have hz9 := hmm9.2.2.2.1
    have HB9 := Lib.hid (HB8.out.trans ((hmm9.below (by omega)).mono (by omega)))
    have Vo_9 := Lib.hid (Vo_8.out.mid hmm9 (by omega))
    have Ro_9 := Lib.hid (Ro_8.out.mid hmm9 (by omega))
    have Xo_9 := Lib.hid (show OwnK w9 _ _ (some ⟨g4, 0, none⟩) n (mLks 1 n) from hmi9)
    clear hmi9 hmm9 hma9 HM9
    have HE10 := Lib.hid (eqLockS_same A5 A3 m c5 c3 al w9.heap.size w9 HAL.out (Ro_9.out.lks.mono (by omega)) (Vo_9.out.lks.mono (by omega)) (Nat.le_refl _) (by omega))
    go_wp2_with fail
    refine HE10.out.mono ?_
    rintro e w10 ⟨rfl, ha10⟩
    have HB10 := Lib.hid (HB9.out.trans (ha10.mono HB9.out.size))
    have hz10 := ha10.size
    have Vo_10 := Lib.hid (Vo_9.out.since ha10 (by omega))
    have Ro_10 := Lib.hid (Ro_9.out.since ha10 (by omega))
    clear ha10
    clear HE10
    have HM11 := Lib.hid (markLockS_any A5 m c5 1 _ _ al w10 HAL.out Ro_10.out (by omega) (by omega))
    rw [HMG.out] at HM11
    go_wp2_with fail
    refine HM11.out.mono ?_
    rintro e w11 ⟨rfl, hmi11, hma11⟩
    have hmm11 := hma11.mid (own_rangeL Ro_10.out)
    have hz11 := hmm11.2.2.2.1
    have HB11 := Lib.hid (HB10.out.trans ((hmm11.below (by omega)).mono (by omega)))
    have Vo_11 := Lib.hid (Vo_10.out.mid hmm11 (by omega))
    have Ro_11 := Lib.hid (show OwnK w11 _ _ A5 c5 (mLks 1 m) from hmi11)
    clear hmi11 hmm11 hma11 HM11
    have HH12 := Lib.hid (heldLockS_any A5 m c5 1 w11.heap.size w11 (Ro_11.out.lks.mono (by omega)) (Nat.le_refl _) (Nat.le_refl _) (by omega))
    rw [HMG.out] at HH12
    go_wp2_with fail
    refine HH12.out.mono ?_
    rintro e w12 ⟨rfl, ha12⟩
    clear HH12
    have HB12 := Lib.hid (HB11.out.trans (ha12.mono HB11.out.size))
    have hz12 := ha12.size
    have Vo_12 := Lib.hid (Vo_11.out.since ha12 (by omega))
    have Ro_12 := Lib.hid (Ro_11.out.since ha12 (by omega))
    clear ha12
    go_wp2_with fail
    refine (HT.out _ HB12.out).mono ?_
    rintro e w13 ⟨g13, rfl, hg13, ho13, ha13⟩
    clear hg13
    have HB13 := Lib.hid (HB12.out.trans (ha13.mono HB12.out.size))
    have hz13 := ha13.size
    have Vo_13 := Lib.hid (Vo_12.out.since ha13 (by omega))
    have Ro_13 := Lib.hid (Ro_12.out.since ha13 (by omega))
    clear ha13
    have Zo_13 := Lib.hid ho13
    clear ho13
    go_wp2_with fail
    refine (HI.out _ (some ⟨g13, 0, none⟩) _ _ Zo_13.out (by omega)).mono ?_
    rintro e w14 ⟨A14, c14, rfl, ho14, ha14⟩
    have HB14 := Lib.hid (HB13.out.trans (ha14.mono HB13.out.size))
    have hz14 := ha14.size
    have Vo_14 := Lib.hid (Vo_13.out.since ha14 (by omega))
    have Ro_14 := Lib.hid (Ro_13.out.since ha14 (by omega))
    have Zo_14 := Lib.hid (Zo_13.out.since ha14 (by omega))
    clear ha14
    have Qo_14 := Lib.hid ho14
    clear ho14
    have HE15 := Lib.hid (eqLockS_same A14 A3 m c14 c3 al w14.heap.size w14 HAL.out (Qo_14.out.lks.mono (by omega)) (Vo_14.out.lks.mono (by omega)) (Nat.le_refl _) (by omega))
    go_wp2_with fail
    refine HE15.out.mono ?_
    rintro e w15 ⟨rfl, ha15⟩
    have HB15 := Lib.hid (HB14.out.trans (ha15.mono HB14.out.size))
    have hz15 := ha15.size
    have Vo_15 := Lib.hid (Vo_14.out.since ha15 (by omega))
    have Ro_15 := Lib.hid (Ro_14.out.since ha15 (by omega))
    have Qo_15 := Lib.hid (Qo_14.out.since ha15 (by omega))
    clear ha15
    clear HE15
    have HH16 := Lib.hid (heldLockS_any A5 m c5 1 w15.heap.size w15 (Ro_15.out.lks.mono (by omega)) (Nat.le_refl _) (Nat.le_refl _) (by omega))
    rw [HMG.out] at HH16
    go_wp2_with fail
    refine HH16.out.mono ?_
    rintro e w16 ⟨rfl, ha16⟩
    clear HH16
    have HB16 := Lib.hid (HB15.out.trans (ha16.mono HB15.out.size))
    have hz16 := ha16.size
    have Vo_16 := Lib.hid (Vo_15.out.since ha16 (by omega))
    have Ro_16 := Lib.hid (Ro_15.out.since ha16 (by omega))
    have Qo_16 := Lib.hid (Qo_15.out.since ha16 (by omega))
    clear ha16
    go_wp2
    go_ret
    exact ⟨rfl, HB16.out⟩
  · rw [remI_no (show 1048576 < szKs ls by omega)] at HZ
    clear h hn hA
    go_enter Try.func8, Try.ntmps8
    go_wp2_with fail
    refine (HZ.out _ hb0).mono ?_
    rintro e w1 ⟨rfl, ha1⟩
    have HB := Lib.hid (hb0.trans (ha1.mono hb0.size))
    clear ha1
    go_wp2
    go_ret
    exact ⟨rfl, HB.out⟩

set_option maxRecDepth 100000 in
set_option maxHeartbeats 8000000 in
theorem locksOf_walk (w : World) (A : Option Addr) (n c : Nat) (ls : List LK) (hn : ls.length = n) (hA : LksAt w A ls) (hmx : n ≤ maxLen) (tx : Int) (hwt : (Lit.int .i64 tx).wf = true) :
    Calls Try.prog 9 #[.slice A n c, .int .i64 tx] w fun e w' => e = .returned (.bool true) ∧ Below w.heap.size w w' := by
  have hb0 := Below.refl w.heap.size w
  have HZ := Lib.hid (fun W (hW : Below w.heap.size w W) => szLockS_any A n c ls 1048576 w.heap.size W hn (hA.1.below hW) hW.size hA.2 (Nat.le_refl _))
  have HN := Lib.hid hn
  by_cases h : szKs ls ≤ 1048576
  · rw [remI_yes h] at HZ
    have hs0 : (0 : Int) ≤ ((1048576 : Nat) : Int) - ((szKs ls : Nat) : Int) := by omega
    obtain ⟨q0, hq0⟩ : ∃ q0, q0 = ((1048576 : Nat) : Int) - ((szKs ls : Nat) : Int) := ⟨_, rfl⟩
    rw [← hq0] at HZ hs0
    have hm := ksmall_of h
    have hn1 : n ≤ 1048576 := by have := hm.1; omega
    have HT := Lib.hid (fun W (hW : Below w.heap.size w W) => toLockS_any A n c ls w.heap.size W hn (hA.1.below hW) hW.size hn1)
    have hspec := fun (W : World) (C : Option Addr) (lo hi : Nat) (ho : OwnK W lo hi C n ls) (hh : hi ≤ W.heap.size) => specLocksOf_any tx C n n ls W.heap.size W hn (Nat.le_refl _) (ho.lks.mono hh) (Nat.le_refl _) hm
    have himpl := fun (W : World) (C : Option Addr) (lo hi : Nat) (ho : OwnK W lo hi C n ls) (hh : hi ≤ W.heap.size) => implLocksOf_any tx C n n ls W.heap.size W hn (Nat.le_refl _) (ho.lks.mono hh) (Nat.le_refl _) hm
    have hsm : (ofA ls tx).1.length ≤ 1048576 := by have := ofA_len ls tx; omega
    obtain ⟨⟨al, ok⟩, hr⟩ : ∃ r, r = ofA ls tx := ⟨_, rfl⟩
    rw [← hr] at hsm
    simp only [← hr] at hspec himpl
    simp only [KAPost_un] at hspec himpl
    simp only at hsm
    obtain ⟨m, hmm⟩ : ∃ m, m = al.length := ⟨_, rfl⟩
    rw [← hmm] at hsm
    simp only [← hmm] at hspec himpl
    have HAL := Lib.hid hmm.symm
    have HS := Lib.hid hspec
    have HI := Lib.hid himpl
    have HB0 := Lib.hid hb0
    have m1 : (0 : Int) ≤ ((1 + 3 * n : Nat) : Int) := by omega
    have m2 : (0 : Int) ≤ ((1 + 3 * m : Nat) : Int) := by omega
    obtain ⟨mx, hmxx⟩ : ∃ mx, mx = 1 + 3 * n := ⟨_, rfl⟩
    obtain ⟨mg, hmgg⟩ : ∃ mg, mg = 1 + 3 * m := ⟨_, rfl⟩
    rw [← hmxx] at m1
    rw [← hmgg] at m2
    have HMX := Lib.hid hmxx.symm
    have HMG := Lib.hid hmgg.symm
    clear hspec himpl hr h hA hn hq0 hb0 hm hmm hmxx hmgg
    go_enter Try.func9, Try.ntmps9
    go_wp2_with fail
    refine (HZ.out _ HB0.out).mono ?_
    rintro e w1 ⟨rfl, ha1⟩
    have h00 := HB0.out.size
    have HB1 := Lib.hid (HB0.out.trans (ha1.mono HB0.out.size))
    have hz1 := ha1.size
    clear ha1
    go_wp2_with fail
    refine (HT.out _ HB1.out).mono ?_
    rintro e w2 ⟨g2, rfl, hg2, ho2, ha2⟩
    clear hg2
    have HB2 := Lib.hid (HB1.out.trans (ha2.mono HB1.out.size))
    have hz2 := ha2.size
    clear ha2
    have t2o_2 := Lib.hid ho2
    clear ho2
    go_wp2_with fail
    refine (HS.out _ (some ⟨g2, 0, none⟩) _ _ t2o_2.out (by omega)).mono ?_
    rintro e w3 ⟨A3, c3, rfl, ho3, ha3⟩
    have HB3 := Lib.hid (HB2.out.trans (ha3.mono HB2.out.size))
    have hz3 := ha3.size
    have t2o_3 := Lib.hid (t2o_2.out.since ha3 (by omega))
    clear ha3
    have Vo_3 := Lib.hid ho3
    clear ho3
    go_wp2_with fail
    refine (HT.out _ HB3.out).mono ?_
    rintro e w4 ⟨g4, rfl, hg4, ho4, ha4⟩
    clear hg4
    have HB4 := Lib.hid (HB3.out.trans (ha4.mono HB3.out.size))
    have hz4 := ha4.size
    have Vo_4 := Lib.hid (Vo_3.out.since ha4 (by omega))
    clear ha4
    have Xo_4 := Lib.hid ho4
    clear ho4
    go_wp2_with fail
    refine (HI.out _ (some ⟨g4, 0, none⟩) _ _ Xo_4.out (by omega)).mono ?_
    rintro e w5 ⟨A5, c5, rfl, ho5, ha5⟩
    have HB5 := Lib.hid (HB4.out.trans (ha5.mono HB4.out.size))
    have hz5 := ha5.size
    have Vo_5 := Lib.hid (Vo_4.out.since ha5 (by omega))
    have Xo_5 := Lib.hid (Xo_4.out.since ha5 (by omega))
    clear ha5
    have Ro_5 := Lib.hid ho5
    clear ho5
    have HE6 := Lib.hid (eqLockS_same A5 A3 m c5 c3 al w5.heap.size w5 HAL.out (Ro_5.out.lks.mono (by omega)) (Vo_5.out.lks.mono (by omega)) (Nat.le_refl _) (by omega))
    go_wp2_with fail
    refine HE6.out.mono ?_
    rintro e w6 ⟨rfl, ha6⟩
    have HB6 := Lib.hid (HB5.out.trans (ha6.mono HB5.out.size))
    have hz6 := ha6.size
    have Vo_6 := Lib.hid (Vo_5.out.since ha6 (by omega))
    have Xo_6 := Lib.hid (Xo_5.out.since ha6 (by omega))
    have Ro_6 := Lib.hid (Ro_5.out.since ha6 (by omega))
    clear ha6
    clear HE6
    go_wp2_with fail
    refine (HT.out _ HB6.out).mono ?_
    rintro e w7 ⟨g7, rfl, hg7, ho7, ha7⟩
    clear hg7
    have HB7 := Lib.hid (HB6.out.trans (ha7.mono HB6.out.size))
    have hz7 := ha7.size
    have Vo_7 := Lib.hid (Vo_6.out.since ha7 (by omega))
    have Xo_7 := Lib.hid (Xo_6.out.since ha7 (by omega))
    have Ro_7 := Lib.hid (Ro_6.out.since ha7 (by omega))
    clear ha7
    have Yo_7 := Lib.hid ho7
    clear ho7
    have HE8 := Lib.hid (eqLockS_same (some ⟨g4, 0, none⟩) (some ⟨g7, 0, none⟩) n n n ls w7.heap.size w7 HN.out (Xo_7.out.lks.mono (by omega)) (Yo_7.out.lks.mono (by omega)) (Nat.le_refl _) (by omega))
    go_wp2_with fail
    refine HE8.out.mono ?_
    rintro e w8 ⟨rfl, ha8⟩
    have HB8 := Lib.hid (HB7.out.trans (ha8.mono HB7.out.size))
    have hz8 := ha8.size
    have Vo_8 := Lib.hid (Vo_7.out.since ha8 (by omega))
    have Xo_8 := Lib.hid (Xo_7.out.since ha8 (by omega))
    have Ro_8 := Lib.hid (Ro_7.out.since ha8 (by omega))
    have Yo_8 := Lib.hid (Yo_7.out.since ha8 (by omega))
    clear ha8
    clear HE8
    have HM9 := Lib.hid (markLockS_any (some ⟨g4, 0, none⟩) n n 1 _ _ ls w8 HN.out Xo_8.out (by omega) (by omega))
    rw [HMX.out] at HM9
    go_wp2_with fail
    refine HM9.out.mono ?_
    rintro e w9 ⟨rfl, hmi9, hma9⟩
    have hmm9 := hma9.mid (own_rangeL Xo_8.out)
    have hz9 := hmm9.2.2.2.1
    have HB9 := Lib.hid (HB8.out.trans ((hmm9.below (by omega)).mono (by omega)))
    have Vo_9 := Lib.hid (Vo_8.out.mid hmm9 (by omega))
    have Ro_9 := Lib.hid (Ro_8.out.mid hmm9 (by omega))
    have Xo_9 := Lib.hid (show OwnK w9 _ _ (some ⟨g4, 0, none⟩) n (mLks 1 n) from hmi9)
    clear hmi9 hmm9 hma9 HM9
    have HE10 := Lib.hid (eqLockS_same A5 A3 m c5 c3 al w9.heap.size w9 HAL.out (Ro_9.out.lks.mono (by omega)) (Vo_9.out.lks.mono (by omega)) (Nat.le_refl _) (by omega))
    go_wp2_with fail
    refine HE10.out.mono ?_
    rintro e w10 ⟨rfl, ha10⟩
    have HB10 := Lib.hid (HB9.out.trans (ha10.mono HB9.out.size))
    have hz10 := ha10.size
    have Vo_10 := Lib.hid (Vo_9.out.since ha10 (by omega))
    have Ro_10 := Lib.hid (Ro_9.out.since ha10 (by omega))
    clear ha10
    clear HE10
    have HM11 := Lib.hid (markLockS_any A5 m c5 1 _ _ al w10 HAL.out Ro_10.out (by omega) (by omega))
    rw [HMG.out] at HM11
    go_wp2_with fail
    refine HM11.out.mono ?_
    rintro e w11 ⟨rfl, hmi11, hma11⟩
    have hmm11 := hma11.mid (own_rangeL Ro_10.out)
    have hz11 := hmm11.2.2.2.1
    have HB11 := Lib.hid (HB10.out.trans ((hmm11.below (by omega)).mono (by omega)))
    have Vo_11 := Lib.hid (Vo_10.out.mid hmm11 (by omega))
    have Ro_11 := Lib.hid (show OwnK w11 _ _ A5 c5 (mLks 1 m) from hmi11)
    clear hmi11 hmm11 hma11 HM11
    have HH12 := Lib.hid (heldLockS_any A5 m c5 1 w11.heap.size w11 (Ro_11.out.lks.mono (by omega)) (Nat.le_refl _) (Nat.le_refl _) (by omega))
    rw [HMG.out] at HH12
    go_wp2_with fail
    refine HH12.out.mono ?_
    rintro e w12 ⟨rfl, ha12⟩
    clear HH12
    have HB12 := Lib.hid (HB11.out.trans (ha12.mono HB11.out.size))
    have hz12 := ha12.size
    have Vo_12 := Lib.hid (Vo_11.out.since ha12 (by omega))
    have Ro_12 := Lib.hid (Ro_11.out.since ha12 (by omega))
    clear ha12
    go_wp2_with fail
    refine (HT.out _ HB12.out).mono ?_
    rintro e w13 ⟨g13, rfl, hg13, ho13, ha13⟩
    clear hg13
    have HB13 := Lib.hid (HB12.out.trans (ha13.mono HB12.out.size))
    have hz13 := ha13.size
    have Vo_13 := Lib.hid (Vo_12.out.since ha13 (by omega))
    have Ro_13 := Lib.hid (Ro_12.out.since ha13 (by omega))
    clear ha13
    have Zo_13 := Lib.hid ho13
    clear ho13
    go_wp2_with fail
    refine (HI.out _ (some ⟨g13, 0, none⟩) _ _ Zo_13.out (by omega)).mono ?_
    rintro e w14 ⟨A14, c14, rfl, ho14, ha14⟩
    have HB14 := Lib.hid (HB13.out.trans (ha14.mono HB13.out.size))
    have hz14 := ha14.size
    have Vo_14 := Lib.hid (Vo_13.out.since ha14 (by omega))
    have Ro_14 := Lib.hid (Ro_13.out.since ha14 (by omega))
    have Zo_14 := Lib.hid (Zo_13.out.since ha14 (by omega))
    clear ha14
    have Qo_14 := Lib.hid ho14
    clear ho14
    have HE15 := Lib.hid (eqLockS_same A14 A3 m c14 c3 al w14.heap.size w14 HAL.out (Qo_14.out.lks.mono (by omega)) (Vo_14.out.lks.mono (by omega)) (Nat.le_refl _) (by omega))
    go_wp2_with fail
    refine HE15.out.mono ?_
    rintro e w15 ⟨rfl, ha15⟩
    have HB15 := Lib.hid (HB14.out.trans (ha15.mono HB14.out.size))
    have hz15 := ha15.size
    have Vo_15 := Lib.hid (Vo_14.out.since ha15 (by omega))
    have Ro_15 := Lib.hid (Ro_14.out.since ha15 (by omega))
    have Qo_15 := Lib.hid (Qo_14.out.since ha15 (by omega))
    clear ha15
    clear HE15
    have HH16 := Lib.hid (heldLockS_any A5 m c5 1 w15.heap.size w15 (Ro_15.out.lks.mono (by omega)) (Nat.le_refl _) (Nat.le_refl _) (by omega))
    rw [HMG.out] at HH16
    go_wp2_with fail
    refine HH16.out.mono ?_
    rintro e w16 ⟨rfl, ha16⟩
    clear HH16
    have HB16 := Lib.hid (HB15.out.trans (ha16.mono HB15.out.size))
    have hz16 := ha16.size
    have Vo_16 := Lib.hid (Vo_15.out.since ha16 (by omega))
    have Ro_16 := Lib.hid (Ro_15.out.since ha16 (by omega))
    have Qo_16 := Lib.hid (Qo_15.out.since ha16 (by omega))
    clear ha16
    go_wp2
    go_ret
    exact ⟨rfl, HB16.out⟩
  · rw [remI_no (show 1048576 < szKs ls by omega)] at HZ
    clear h hn hA
    go_enter Try.func9, Try.ntmps9
    go_wp2_with fail
    refine (HZ.out _ hb0).mono ?_
    rintro e w1 ⟨rfl, ha1⟩
    have HB := Lib.hid (hb0.trans (ha1.mono hb0.size))
    clear ha1
    go_wp2
    go_ret
    exact ⟨rfl, HB.out⟩
end Go.Proofs.Ytlfdefjkfacngaa.Lk
