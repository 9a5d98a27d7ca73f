/-
  The walk of the law FnExactGoodOps.
-/
import Derived.Test.YtgdofgcggblajaaGoodO
namespace Go.Proofs.Ytgdofgcggblajaa
open Go.RowKit CM
set_option linter.unusedVariables false

theorem specGoodOps_any (A : Option Addr) (n c : Nat) (ws : List (Int × ByteArray × ByteArray × Int)) (B : Nat) (w : World) (hn : ws.length = n) (h : OpsB w B A ws) (hB : B ≤ w.heap.size) (hm : OSmall ws) :
    Calls Try.prog 11 #[.slice A n c] w fun e w' => e = .returned (.bool (osB ws)) ∧ Below w.heap.size w w' := by
  have HC := Lib.hid (l5Good_any A n c ws B w hn h hB hm)
  clear hn h hm
  go_enter Try.func11, Try.ntmps11
  go_wp2_with fail
  refine HC.out.mono ?_
  rintro e w' ⟨rfl, hb⟩
  go_wp2
  go_ret
  exact ⟨rfl, hb⟩

set_option maxRecDepth 100000 in
set_option maxHeartbeats 2000000 in
theorem goodOps_walk (w : World) (A : Option Addr) (n c : Nat) (ws : List (Int × ByteArray × ByteArray × Int)) (hn : ws.length = n) (h : OpsAt w A ws) (hl : n ≤ maxLen) :
    Calls Try.prog 3 #[.slice A n c] w fun e w' => e = .returned (.bool true) ∧ Below w.heap.size w w' := by
  obtain ⟨hr, hmx⟩ := h
  have HN := Lib.hid hn
  have HS := Lib.hid (fun W (hW : Below w.heap.size w W) => hr.below hW)
  have HZ := Lib.hid (szOpS_any A n c ws 1048576 w.heap.size w hn hr (Nat.le_refl _) hmx (Nat.le_refl _))
  by_cases hs : szOs ws ≤ 1048576
  · have hsm := osmall_of hs
    have hn1 : n ≤ 1048576 := by rw [← hn]; exact hsm.1
    have HSM := Lib.hid hsm
    have HT := Lib.hid (fun W (hW : Below w.heap.size w W) => toOpS_any A n c ws w.heap.size W hn (hr.below hW) hW.size hn1)
    obtain ⟨v, hv⟩ : ∃ v, v = osB ws := ⟨_, rfl⟩
    have HV := Lib.hid hv
    rw [remI_yes hs] at HZ
    have hz0 : (0 : Int) ≤ (1048576 : Int) - (szOs ws : Int) := by omega
    have HZ' : Hid (Calls Try.prog 10 #[.slice A n c, .int .i64 1048576] w fun e w' => e = .returned (.int .i64 ((1048576 : Int) - (szOs ws : Int))) ∧ Below w.heap.size w w') := HZ
    clear hn hr hsm hv HZ hs hl hmx
    go_enter Try.func3, Try.ntmps3
    go_wp2_with fail
    refine HZ'.out.mono ?_
    rintro e w1 ⟨rfl, hb1⟩
    have HB1 := Lib.hid hb1
    clear hb1
    go_wp2_with fail
    refine (HT.out _ HB1.out).mono ?_
    rintro e w2 ⟨g2, rfl, hg2, ho2, hb2⟩
    have HB2 := Lib.hid (HB1.out.trans (hb2.mono HB1.out.size))
    have HC2 := Lib.hid (specGoodOps_any _ n n ws _ w2 HN.out ho2.ops (Nat.le_refl _) HSM.out)
    rw [← HV.out] at HC2
    clear hg2 ho2 hb2
    go_wp2_with fail
    refine HC2.out.mono ?_
    rintro e w3 ⟨rfl, hb3⟩
    have HB3 := Lib.hid (HB2.out.trans (hb3.mono HB2.out.size))
    clear hb3
    go_wp2_with fail
    refine (HT.out _ HB3.out).mono ?_
    rintro e w4 ⟨g4, rfl, hg4, ho4, hb4⟩
    have HB4 := Lib.hid (HB3.out.trans (hb4.mono HB3.out.size))
    have HO4 := Lib.hid ho4.ops
    have HC4 := Lib.hid (goodOps_any _ n n ws _ w4 HN.out ho4.ops (Nat.le_refl _) HSM.out)
    rw [← HV.out] at HC4
    clear hg4 ho4 hb4
    go_wp2_with fail
    refine HC4.out.mono ?_
    rintro e w5 ⟨rfl, hb5⟩
    have HB5 := Lib.hid (HB4.out.trans (hb5.mono HB4.out.size))
    have HO5 := Lib.hid ((HO4.out.below hb5).mono hb5.size)
    clear hb5
    go_wp2_with fail
    refine (HT.out _ HB5.out).mono ?_
    rintro e w6 ⟨g6, rfl, hg6, ho6, hb6⟩
    have HB6 := Lib.hid (HB5.out.trans (hb6.mono HB5.out.size))
    have HE := Lib.hid (eqOpS_same _ _ n n n ws _ w6 HN.out ((HO5.out.below hb6).mono hb6.size) ho6.ops (Nat.le_refl _) (by rw [← HN.out]; exact HSM.out.1))
    clear hg6 ho6 hb6
    go_wp2_with fail
    refine HE.out.mono ?_
    rintro e w7 ⟨rfl, hb7⟩
    have HB7 := Lib.hid (HB6.out.trans (hb7.mono HB6.out.size))
    clear hb7
    go_wp2
    go_ret
    exact ⟨rfl, HB7.out⟩
  · rw [remI_no (by omega)] at HZ
    have HZ' : Hid (Calls Try.prog 10 #[.slice A n c, .int .i64 1048576] w fun e w' => e = .returned (.int .i64 (-1)) ∧ Below w.heap.size w w') := HZ
    clear hn hr HZ hs hl hmx
    go_enter Try.func3, Try.ntmps3
    go_wp2_with fail
    refine HZ'.out.mono ?_
    rintro e w1 ⟨rfl, hb1⟩
    go_wp2
    go_ret
    exact ⟨rfl, hb1⟩
end Go.Proofs.Ytgdofgcggblajaa
