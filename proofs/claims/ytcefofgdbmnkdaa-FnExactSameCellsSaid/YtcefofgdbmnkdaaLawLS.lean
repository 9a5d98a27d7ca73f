/-
  The walks of the laws FnExactLastTime and FnExactSameCells.
-/
import Derived.Test.YtcefofgdbmnkdaaSz
import Derived.Test.YtcefofgdbmnkdaaEq
import Derived.Test.YtcefofgdbmnkdaaLast
import Derived.Test.YtcefofgdbmnkdaaSame
namespace Go.Proofs.Ytcefofgdbmnkdaa
open Go.RowKit CM
set_option linter.unusedVariables false

set_option maxRecDepth 100000 in
set_option maxHeartbeats 2000000 in
theorem lastTime_walk (w : World) (A : Option Addr) (n c : Nat) (hs : List (ByteArray × Option Addr × Nat × List (Int × ByteArray × Bool))) (hn : hs.length = n) (h : CellsAt w A hs) (hl : n ≤ maxLen) (key : ByteArray) (hk : key.size ≤ maxLen) :
    Calls Try.prog 13 #[.slice A n c, .string key] w fun e w' => e = .returned (.bool true) ∧ Below w.heap.size w w' := by
  unfold maxLen at hk
  by_cases hkl : 1048576 < key.size
  · clear h hl hn
    go_enter Try.func13, Try.ntmps13
    go_wp2
    go_ret
    exact ⟨rfl, Below.refl _ _⟩
  · have hk1 : key.size ≤ 1048576 := by omega
    obtain ⟨hr, hmx⟩ := h
    have HN := Lib.hid hn
    have HZ := Lib.hid (szCellS_any A n c hs 1048576 w.heap.size w hn hr (Nat.le_refl _) hmx (Nat.le_refl _))
    by_cases hsz : szHs hs ≤ 1048576
    · have hsm := hsmall_of hsz
      have HSM := Lib.hid hsm
      have HT := Lib.hid (fun W (hW : Below w.heap.size w W) => toCellS_any A n c hs w.heap.size W hn (hr.below hW) hW.size hsm)
      obtain ⟨z, hz⟩ : ∃ z, z = ltN (hs.map dat) key := ⟨_, rfl⟩
      obtain ⟨v, hv⟩ : ∃ v, v = ltOk (hs.map dat) key := ⟨_, rfl⟩
      have HV := Lib.hid (show z = _ ∧ v = _ from ⟨hz, hv⟩)
      rw [remI_yes hsz] at HZ
      have hz0 : (0 : Int) ≤ (1048576 : Int) - (szHs hs : Int) := by omega
      have HZ' : Hid (Calls Try.prog 47 #[.slice A n c, .int .i64 1048576] w fun e w' => e = .returned (.int .i64 ((1048576 : Int) - (szHs hs : Int))) ∧ Below w.heap.size w w') := HZ
      clear hn hr hsm hv hz HZ hsz hl hmx
      go_enter Try.func13, Try.ntmps13
      go_wp2_with fail
      refine HZ'.out.mono ?_
      rintro e w1 ⟨rfl, hb1⟩
      have HB1 := Lib.hid hb1
      clear hb1
      go_wp2_with fail
      refine (HT.out _ HB1.out).mono ?_
      rintro e w2 ⟨g2, gs2, rfl, hd2, ho2, hb2⟩
      have HB2 := Lib.hid (HB1.out.trans (hb2.mono HB1.out.size))
      have hc2 := specLastTime_any _ n n gs2 key _ w2 ((dats_len hd2).trans HN.out) ho2.cells (Nat.le_refl _) (dats_small hd2 HSM.out) hk1
      rw [hd2, ← HV.out.1, ← HV.out.2] at hc2
      have HC2 := Lib.hid hc2
      clear hd2 ho2 hb2 hc2
      go_wp2_with fail
      refine HC2.out.mono ?_
      rintro e w3 ⟨rfl, hb3⟩
      have HB3 := Lib.hid (HB2.out.trans (hb3.mono HB2.out.size))
      clear hb3
      go_wp2_with fail
      refine (HT.out _ HB3.out).mono ?_
      rintro e w4 ⟨g4, gs4, rfl, hd4, ho4, hb4⟩
      have HB4 := Lib.hid (HB3.out.trans (hb4.mono HB3.out.size))
      have HO4 := Lib.hid ho4.cells
      have HD4 := Lib.hid hd4
      have hc4 := lastTime_any _ n n gs4 key _ w4 ((dats_len hd4).trans HN.out) ho4.cells (Nat.le_refl _) (dats_small hd4 HSM.out) hk1
      rw [hd4, ← HV.out.1, ← HV.out.2] at hc4
      have HC4 := Lib.hid hc4
      clear hd4 ho4 hb4 hc4
      go_wp2_with fail
      refine HC4.out.mono ?_
      rintro e w5 ⟨rfl, hb5⟩
      have HB5 := Lib.hid (HB4.out.trans (hb5.mono HB4.out.size))
      have HO5 := Lib.hid ((HO4.out.below hb5).mono hb5.size)
      clear hb5
      go_wp2_with fail
      refine (HT.out _ HB5.out).mono ?_
      rintro e w6 ⟨g6, gs6, rfl, hd6, ho6, hb6⟩
      have HB6 := Lib.hid (HB5.out.trans (hb6.mono HB5.out.size))
      have HE := Lib.hid (eqCellS_same _ _ n n n gs4 gs6 _ w6 ((dats_len HD4.out).trans HN.out) (hd6.trans HD4.out.symm) ((HO5.out.below hb6).mono hb6.size) ho6.cells (Nat.le_refl _) (dats_small HD4.out HSM.out))
      clear hd6 ho6 hb6
      go_wp2_with fail
      refine HE.out.mono ?_
      rintro e w7 ⟨rfl, hb7⟩
      have HB7 := Lib.hid (HB6.out.trans (hb7.mono HB6.out.size))
      clear hb7
      go_wp2
      go_ret
      exact ⟨rfl, HB7.out⟩
    · rw [remI_no (by omega)] at HZ
      have HZ' : Hid (Calls Try.prog 47 #[.slice A n c, .int .i64 1048576] w fun e w' => e = .returned (.int .i64 (-1)) ∧ Below w.heap.size w w') := HZ
      clear hn hr HZ hsz hl hmx
      go_enter Try.func13, Try.ntmps13
      go_wp2_with fail
      refine HZ'.out.mono ?_
      rintro e w1 ⟨rfl, hb1⟩
      go_wp2
      go_ret
      exact ⟨rfl, hb1⟩

set_option maxRecDepth 100000 in
set_option maxHeartbeats 4000000 in
theorem sameCells_walk (w : World) (A : Option Addr) (n c : Nat) (hs : List (ByteArray × Option Addr × Nat × List (Int × ByteArray × Bool))) (hn : hs.length = n) (h : CellsAt w A hs) (hl : n ≤ maxLen) (A' : Option Addr) (n' c' : Nat) (hs' : List (ByteArray × Option Addr × Nat × List (Int × ByteArray × Bool))) (hn' : hs'.length = n') (h' : CellsAt w A' hs') (hl' : n' ≤ maxLen) :
    Calls Try.prog 14 #[.slice A n c, .slice A' n' c'] w fun e w' => e = .returned (.bool true) ∧ Below w.heap.size w w' := by
  obtain ⟨hr, hmx⟩ := h
  obtain ⟨hr', hmx'⟩ := h'
  have HN := Lib.hid hn
  have HN' := Lib.hid hn'
  have HZ := Lib.hid (szCellS_any A n c hs 1048576 w.heap.size w hn hr (Nat.le_refl _) hmx (Nat.le_refl _))
  by_cases hsz : szHs hs ≤ 1048576
  · rw [remI_yes hsz] at HZ
    have hz0 : (0 : Int) ≤ (1048576 : Int) - (szHs hs : Int) := by omega
    have HZ' : Hid (Calls Try.prog 47 #[.slice A n c, .int .i64 1048576] w fun e w' => e = .returned (.int .i64 ((1048576 : Int) - (szHs hs : Int))) ∧ Below w.heap.size w w') := HZ
    have HY := Lib.hid (fun W (hW : Below w.heap.size w W) => szCellS_any A' n' c' hs' (1048576 - szHs hs) w.heap.size W hn' (hr'.below hW) hW.size hmx' (by omega))
    have e1 : ((1048576 - szHs hs : Nat) : Int) = (1048576 : Int) - (szHs hs : Int) := by omega
    rw [e1] at HY
    clear e1 HZ
    by_cases hsz' : szHs hs' ≤ 1048576 - szHs hs
    · have hsm := hsmall_of hsz
      have hsm' := hsmall_of (show szHs hs' ≤ 1048576 by omega)
      have HSM := Lib.hid hsm
      have HSM' := Lib.hid hsm'
      have HT := Lib.hid (fun W (hW : Below w.heap.size w W) => toCellS_any A n c hs w.heap.size W hn (hr.below hW) hW.size hsm)
      have HT' := Lib.hid (fun W (hW : Below w.heap.size w W) => toCellS_any A' n' c' hs' w.heap.size W hn' (hr'.below hW) hW.size hsm')
      obtain ⟨v, hv⟩ : ∃ v, v = decide (hs.map dat = hs'.map dat) := ⟨_, rfl⟩
      have HV := Lib.hid hv
      rw [remI_yes hsz'] at HY
      have hz1 : (0 : Int) ≤ ((1048576 - szHs hs : Nat) : Int) - (szHs hs' : Int) := by omega
      clear hn hr hsm hv hsz hsz' hl hmx hn' hr' hsm' hl' hmx'
      go_enter Try.func14, Try.ntmps14
      go_wp2_with fail
      refine HZ'.out.mono ?_
      rintro e w1 ⟨rfl, hb1⟩
      have HB1 := Lib.hid hb1
      clear hb1
      go_wp2_with fail
      refine (HY.out _ HB1.out).mono ?_
      rintro e w2 ⟨rfl, hb2⟩
      have HB2 := Lib.hid (HB1.out.trans (hb2.mono HB1.out.size))
      clear hb2
      go_wp2_with fail
      refine (HT.out _ HB2.out).mono ?_
      rintro e w3 ⟨g3, gs3, rfl, hd3, ho3, hb3⟩
      have HB3 := Lib.hid (HB2.out.trans (hb3.mono HB2.out.size))
      have HO3 := Lib.hid ho3.cells
      have HD3 := Lib.hid hd3
      clear ho3 hd3 hb3
      go_wp2_with fail
      refine (HT'.out _ HB3.out).mono ?_
      rintro e w4 ⟨g4, gs4, rfl, hd4, ho4, hb4⟩
      have HB4 := Lib.hid (HB3.out.trans (hb4.mono HB3.out.size))
      have hc4 := specSameCells_any _ _ n n' n n' gs3 gs4 _ w4 ((dats_len HD3.out).trans HN.out) ((dats_len hd4).trans HN'.out) ((HO3.out.below hb4).mono hb4.size) ho4.cells (Nat.le_refl _) (dats_small HD3.out HSM.out) (dats_small hd4 HSM'.out)
      rw [hd4, HD3.out, ← HV.out] at hc4
      have HC4 := Lib.hid hc4
      clear hd4 ho4 hb4 hc4
      go_wp2_with fail
      refine HC4.out.mono ?_
      rintro e w5 ⟨rfl, hb5⟩
      have HB5 := Lib.hid (HB4.out.trans (hb5.mono HB4.out.size))
      clear hb5
      go_wp2_with fail
      refine (HT.out _ HB5.out).mono ?_
      rintro e w6 ⟨g6, gs6, rfl, hd6, ho6, hb6⟩
      have HB6 := Lib.hid (HB5.out.trans (hb6.mono HB5.out.size))
      have HO6 := Lib.hid ho6.cells
      have HD6 := Lib.hid hd6
      clear ho6 hd6 hb6
      go_wp2_with fail
      refine (HT'.out _ HB6.out).mono ?_
      rintro e w7 ⟨g7, gs7, rfl, hd7, ho7, hb7⟩
      have HB7 := Lib.hid (HB6.out.trans (hb7.mono HB6.out.size))
      have HO67 := Lib.hid ((HO6.out.below hb7).mono hb7.size)
      have HO7 := Lib.hid ho7.cells
      have HD7 := Lib.hid hd7
      have hc7 := sameCells_any _ _ n n' n n' gs6 gs7 _ w7 ((dats_len HD6.out).trans HN.out) ((dats_len hd7).trans HN'.out) HO67.out HO7.out (Nat.le_refl _) (dats_small HD6.out HSM.out) (dats_small hd7 HSM'.out)
      rw [hd7, HD6.out, ← HV.out] at hc7
      have HC7 := Lib.hid hc7
      clear hd7 ho7 hb7 hc7
      go_wp2_with fail
      refine HC7.out.mono ?_
      rintro e w8 ⟨rfl, hb8⟩
      have HB8 := Lib.hid (HB7.out.trans (hb8.mono HB7.out.size))
      have HO68 := Lib.hid ((HO67.out.below hb8).mono hb8.size)
      have HO78 := Lib.hid ((HO7.out.below hb8).mono hb8.size)
      clear hb8
      go_wp2_with fail
      refine (HT.out _ HB8.out).mono ?_
      rintro e w9 ⟨g9, gs9, rfl, hd9, ho9, hb9⟩
      have HB9 := Lib.hid (HB8.out.trans (hb9.mono HB8.out.size))
      have HE := Lib.hid (eqCellS_same _ _ n n n gs6 gs9 _ w9 ((dats_len HD6.out).trans HN.out) (hd9.trans HD6.out.symm) ((HO68.out.below hb9).mono hb9.size) ho9.cells (Nat.le_refl _) (dats_small HD6.out HSM.out))
      have HO79 := Lib.hid ((HO78.out.below hb9).mono hb9.size)
      clear hd9 ho9 hb9
      go_wp2_with fail
      refine HE.out.mono ?_
      rintro e w10 ⟨rfl, hb10⟩
      have HB10 := Lib.hid (HB9.out.trans (hb10.mono HB9.out.size))
      have HO710 := Lib.hid ((HO79.out.below hb10).mono hb10.size)
      clear hb10
      go_wp2_with fail
      refine (HT'.out _ HB10.out).mono ?_
      rintro e w11 ⟨g11, gs11, rfl, hd11, ho11, hb11⟩
      have HB11 := Lib.hid (HB10.out.trans (hb11.mono HB10.out.size))
      have HE' := Lib.hid (eqCellS_same _ _ n' n' n' gs7 gs11 _ w11 ((dats_len HD7.out).trans HN'.out) (hd11.trans HD7.out.symm) ((HO710.out.below hb11).mono hb11.size) ho11.cells (Nat.le_refl _) (dats_small HD7.out HSM'.out))
      clear hd11 ho11 hb11
      go_wp2_with fail
      refine HE'.out.mono ?_
      rintro e w12 ⟨rfl, hb12⟩
      have HB12 := Lib.hid (HB11.out.trans (hb12.mono HB11.out.size))
      clear hb12
      go_wp2
      go_ret
      exact ⟨rfl, HB12.out⟩
    · rw [remI_no (by omega)] at HY
      clear hn hr hn' hr' hsz hsz' hl hl' hmx hmx'
      go_enter Try.func14, Try.ntmps14
      go_wp2_with fail
      refine HZ'.out.mono ?_
      rintro e w1 ⟨rfl, hb1⟩
      have HB1 := Lib.hid hb1
      clear hb1
      go_wp2_with fail
      refine (HY.out _ HB1.out).mono ?_
      rintro e w2 ⟨rfl, hb2⟩
      have HB2 := Lib.hid (HB1.out.trans (hb2.mono HB1.out.size))
      clear hb2
      go_wp2
      go_ret
      exact ⟨rfl, HB2.out⟩
  · rw [remI_no (by omega)] at HZ
    have HZ' : Hid (Calls Try.prog 47 #[.slice A n c, .int .i64 1048576] w fun e w' => e = .returned (.int .i64 (-1)) ∧ Below w.heap.size w w') := HZ
    clear hn hr HZ hsz hl hmx hn' hr' hl' hmx'
    go_enter Try.func14, Try.ntmps14
    go_wp2_with fail
    refine HZ'.out.mono ?_
    rintro e w1 ⟨rfl, hb1⟩
    go_wp2
    go_ret
    exact ⟨rfl, hb1⟩
end Go.Proofs.Ytcefofgdbmnkdaa
