/-
  The exact law of GoodLocks, walked.
-/
import Derived.Test.YtlfdefjkfacngaaLkSz
import Derived.Test.YtlfdefjkfacngaaLkTo
import Derived.Test.YtlfdefjkfacngaaLkEq
import Derived.Test.YtlfdefjkfacngaaLkMk
import Derived.Test.YtlfdefjkfacngaaLkF1
import Derived.Test.YtlfdefjkfacngaaLkF2
import Derived.Deep.RegionHeld3
import Derived.Deep.DeepCutAuto
import Derived.Deep.QuietTactic
import Derived.BigQuiet
namespace Go.Proofs.Ytlfdefjkfacngaa.Lk
open Go.RowKit CM
set_option linter.unusedVariables false
set_option linter.unusedSimpArgs false

set_option maxRecDepth 100000 in
set_option maxHeartbeats 8000000 in
theorem goodLocks_walk (w : World) (A : Option Addr) (n c : Nat) (ls : List LK) (hn : ls.length = n) (hA : LksAt w A ls) (hmx : n ≤ maxLen) :
    Calls Try.prog 5 #[.slice A n c] w fun e w' => e = .returned (.bool true) ∧ Below w.heap.size w w' := by
  have hb0 := Below.refl w.heap.size w
  have HZ := Lib.hid (fun W (hW : Below w.heap.size w W) => szLockS_any A n c ls 1048576 w.heap.size W hn (hA.1.below hW) hW.size hA.2 (Nat.le_refl _))
  have HN := Lib.hid hn
  by_cases h : szKs ls ≤ 1048576
  · rw [remI_yes h] at HZ
    have hs0 : (0 : Int) ≤ ((1048576 : Nat) : Int) - ((szKs ls : Nat) : Int) := by omega
    obtain ⟨q0, hq0⟩ : ∃ q0, q0 = ((1048576 : Nat) : Int) - ((szKs ls : Nat) : Int) := ⟨_, rfl⟩
    rw [← hq0] at HZ hs0
    have hm := ksmall_of h
    have hn1 : n ≤ 1048576 := by have := hm.1; omega
    have HT := Lib.hid (fun W (hW : Below w.heap.size w W) => toLockS_any A n c ls w.heap.size W hn (hA.1.below hW) hW.size hn1)
    have hspec := fun (W : World) (C : Option Addr) (lo hi : Nat) (ho : OwnK W lo hi C n ls) (hh : hi ≤ W.heap.size) => specGoodLocks_any C n n ls W.heap.size W hn (Nat.le_refl _) (ho.lks.mono hh) (Nat.le_refl _) hm
    have himpl := fun (W : World) (C : Option Addr) (lo hi : Nat) (ho : OwnK W lo hi C n ls) (hh : hi ≤ W.heap.size) => implGoodLocks_any C n n ls W.heap.size W hn (Nat.le_refl _) (ho.lks.mono hh) (Nat.le_refl _) hm
    obtain ⟨ok, hr⟩ : ∃ r, r = goodB ls := ⟨_, rfl⟩
    simp only [← hr] at hspec himpl
    have HS := Lib.hid hspec
    have HI := Lib.hid himpl
    have HB0 := Lib.hid hb0
    clear hspec himpl hr h hA hn hq0 hb0 hm
    go_enter Try.func5, Try.ntmps5
    go_wp2_with fail
    refine (HZ.out _ HB0.out).mono ?_
    rintro e w1 ⟨rfl, ha1⟩
    have h00 := HB0.out.size
    have HB1 := Lib.hid (HB0.out.trans (ha1.mono HB0.out.size))
    have hz1 := ha1.size
    clear ha1
    go_wp2_with fail
    refine (HT.out _ HB1.out).mono ?_
    rintro e w2 ⟨g2, rfl, hg2, ho2, ha2⟩
    clear hg2
    have HB2 := Lib.hid (HB1.out.trans (ha2.mono HB1.out.size))
    have hz2 := ha2.size
    clear ha2
    have t2o_2 := Lib.hid ho2
    clear ho2
    go_wp2_with fail
    refine (HS.out _ (some ⟨g2, 0, none⟩) _ _ t2o_2.out (by omega)).mono ?_
    rintro e w3 ⟨rfl, ha3⟩
    have HB3 := Lib.hid (HB2.out.trans (ha3.mono HB2.out.size))
    have hz3 := ha3.size
    have t2o_3 := Lib.hid (t2o_2.out.since ha3 (by omega))
    clear ha3
    go_wp2_with fail
    refine (HT.out _ HB3.out).mono ?_
    rintro e w4 ⟨g4, rfl, hg4, ho4, ha4⟩
    clear hg4
    have HB4 := Lib.hid (HB3.out.trans (ha4.mono HB3.out.size))
    have hz4 := ha4.size
    clear ha4
    have Xo_4 := Lib.hid ho4
    clear ho4
    go_wp2_with fail
    refine (HI.out _ (some ⟨g4, 0, none⟩) _ _ Xo_4.out (by omega)).mono ?_
    rintro e w5 ⟨rfl, ha5⟩
    have HB5 := Lib.hid (HB4.out.trans (ha5.mono HB4.out.size))
    have hz5 := ha5.size
    have Xo_5 := Lib.hid (Xo_4.out.since ha5 (by omega))
    clear ha5
    go_wp2_with fail
    refine (HT.out _ HB5.out).mono ?_
    rintro e w6 ⟨g6, rfl, hg6, ho6, ha6⟩
    clear hg6
    have HB6 := Lib.hid (HB5.out.trans (ha6.mono HB5.out.size))
    have hz6 := ha6.size
    have Xo_6 := Lib.hid (Xo_5.out.since ha6 (by omega))
    clear ha6
    have Yo_6 := Lib.hid ho6
    clear ho6
    have HE7 := Lib.hid (eqLockS_same (some ⟨g4, 0, none⟩) (some ⟨g6, 0, none⟩) n n n ls w6.heap.size w6 HN.out (Xo_6.out.lks.mono (by omega)) (Yo_6.out.lks.mono (by omega)) (Nat.le_refl _) (by omega))
    go_wp2_with fail
    refine HE7.out.mono ?_
    rintro e w7 ⟨rfl, ha7⟩
    have HB7 := Lib.hid (HB6.out.trans (ha7.mono HB6.out.size))
    have hz7 := ha7.size
    have Xo_7 := Lib.hid (Xo_6.out.since ha7 (by omega))
    have Yo_7 := Lib.hid (Yo_6.out.since ha7 (by omega))
    clear ha7
    clear HE7
    go_wp2
    go_ret
    exact ⟨rfl, HB7.out⟩
  · rw [remI_no (show 1048576 < szKs ls by omega)] at HZ
    clear h hn hA
    go_enter Try.func5, Try.ntmps5
    go_wp2_with fail
    refine (HZ.out _ hb0).mono ?_
    rintro e w1 ⟨rfl, ha1⟩
    have HB := Lib.hid (hb0.trans (ha1.mono hb0.size))
    clear ha1
    go_wp2
    go_ret
    exact ⟨rfl, HB.out⟩
end Go.Proofs.Ytlfdefjkfacngaa.Lk
