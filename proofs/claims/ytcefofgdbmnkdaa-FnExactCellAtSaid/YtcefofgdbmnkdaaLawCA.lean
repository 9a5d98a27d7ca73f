/-
  The walk of the law FnExactCellAt.
-/
import Derived.Test.YtcefofgdbmnkdaaSz
import Derived.Test.YtcefofgdbmnkdaaEq
import Derived.Test.YtcefofgdbmnkdaaLook
namespace Go.Proofs.Ytcefofgdbmnkdaa
open Go.RowKit CM
set_option linter.unusedVariables false

set_option maxRecDepth 100000 in
set_option maxHeartbeats 2000000 in
theorem cellAt_walk (w : World) (A : Option Addr) (n c : Nat) (hs : List (ByteArray × Option Addr × Nat × List (Int × ByteArray × Bool))) (hn : hs.length = n) (h : CellsAt w A hs) (hl : n ≤ maxLen) (key : ByteArray) (hk : key.size ≤ maxLen) (tm : Int) (_htm : (Lit.int .i64 tm).wf = true) :
    Calls Try.prog 10 #[.slice A n c, .string key, .int .i64 tm] w fun e w' => e = .returned (.bool true) ∧ Below w.heap.size w w' := by
  unfold maxLen at hk
  by_cases hkl : 1048576 < key.size
  · clear h hl hn
    go_enter Try.func10, Try.ntmps10
    go_wp2
    go_ret
    exact ⟨rfl, Below.refl _ _⟩
  · have hk1 : key.size ≤ 1048576 := by omega
    obtain ⟨hr, hmx⟩ := h
    have HN := Lib.hid hn
    have HZ := Lib.hid (szCellS_any A n c hs 1048576 w.heap.size w hn hr (Nat.le_refl _) hmx (Nat.le_refl _))
    by_cases hsz : szHs hs ≤ 1048576
    · have hsm := hsmall_of hsz
      have HSM := Lib.hid hsm
      have HT := Lib.hid (fun W (hW : Below w.heap.size w W) => toCellS_any A n c hs w.heap.size W hn (hr.below hW) hW.size hsm)
      obtain ⟨z, hz⟩ : ∃ z, z = caV (hs.map dat) key tm := ⟨_, rfl⟩
      obtain ⟨v, hv⟩ : ∃ v, v = caOk (hs.map dat) key tm := ⟨_, rfl⟩
      have HV := Lib.hid (show CaRet (hs.map dat) key tm = .returned (.tuple #[.string z.1, .bool z.2, .bool v]) by unfold CaRet; rw [hz, hv])
      rw [remI_yes hsz] at HZ
      have hz0 : (0 : Int) ≤ (1048576 : Int) - (szHs hs : Int) := by omega
      have HZ' : Hid (Calls Try.prog 47 #[.slice A n c, .int .i64 1048576] w fun e w' => e = .returned (.int .i64 ((1048576 : Int) - (szHs hs : Int))) ∧ Below w.heap.size w w') := HZ
      clear hn hr hsm hv hz HZ hsz hl hmx
      go_enter Try.func10, Try.ntmps10
      go_wp2_with fail
      refine HZ'.out.mono ?_
      rintro e w1 ⟨rfl, hb1⟩
      have HB1 := Lib.hid hb1
      clear hb1
      go_wp2_with fail
      refine (HT.out _ HB1.out).mono ?_
      rintro e w2 ⟨g2, gs2, rfl, hd2, ho2, hb2⟩
      have HB2 := Lib.hid (HB1.out.trans (hb2.mono HB1.out.size))
      have hc2 := specCellAt_any _ n n gs2 key tm _ w2 ((dats_len hd2).trans HN.out) ho2.cells (Nat.le_refl _) (dats_small hd2 HSM.out) hk1
      rw [hd2, HV.out] at hc2
      have HC2 := Lib.hid hc2
      clear hd2 ho2 hb2 hc2
      go_wp2_with fail
      refine HC2.out.mono ?_
      rintro e w3 ⟨rfl, hb3⟩
      have HB3 := Lib.hid (HB2.out.trans (hb3.mono HB2.out.size))
      clear hb3
      go_wp2_with fail
      refine (HT.out _ HB3.out).mono ?_
      rintro e w4 ⟨g4, gs4, rfl, hd4, ho4, hb4⟩
      have HB4 := Lib.hid (HB3.out.trans (hb4.mono HB3.out.size))
      have HO4 := Lib.hid ho4.cells
      have HD4 := Lib.hid hd4
      have hc4 := cellAt_any _ n n gs4 key tm _ w4 ((dats_len hd4).trans HN.out) ho4.cells (Nat.le_refl _) (dats_small hd4 HSM.out) hk1
      rw [hd4, HV.out] at hc4
      have HC4 := Lib.hid hc4
      clear hd4 ho4 hb4 hc4
      go_wp2_with fail
      refine HC4.out.mono ?_
      rintro e w5 ⟨rfl, hb5⟩
      have HB5 := Lib.hid (HB4.out.trans (hb5.mono HB4.out.size))
      have HO5 := Lib.hid ((HO4.out.below hb5).mono hb5.size)
      clear hb5
      go_wp2_with fail
      refine (HT.out _ HB5.out).mono ?_
      rintro e w6 ⟨g6, gs6, rfl, hd6, ho6, hb6⟩
      have HB6 := Lib.hid (HB5.out.trans (hb6.mono HB5.out.size))
      have HE := Lib.hid (eqCellS_same _ _ n n n gs4 gs6 _ w6 ((dats_len HD4.out).trans HN.out) (hd6.trans HD4.out.symm) ((HO5.out.below hb6).mono hb6.size) ho6.cells (Nat.le_refl _) (dats_small HD4.out HSM.out))
      clear hd6 ho6 hb6
      go_wp2_with fail
      refine HE.out.mono ?_
      rintro e w7 ⟨rfl, hb7⟩
      have HB7 := Lib.hid (HB6.out.trans (hb7.mono HB6.out.size))
      clear hb7
      go_wp2
      go_ret
      exact ⟨rfl, HB7.out⟩
    · rw [remI_no (by omega)] at HZ
      have HZ' : Hid (Calls Try.prog 47 #[.slice A n c, .int .i64 1048576] w fun e w' => e = .returned (.int .i64 (-1)) ∧ Below w.heap.size w w') := HZ
      clear hn hr HZ hsz hl hmx
      go_enter Try.func10, Try.ntmps10
      go_wp2_with fail
      refine HZ'.out.mono ?_
      rintro e w1 ⟨rfl, hb1⟩
      go_wp2
      go_ret
      exact ⟨rfl, hb1⟩

end Go.Proofs.Ytcefofgdbmnkdaa
