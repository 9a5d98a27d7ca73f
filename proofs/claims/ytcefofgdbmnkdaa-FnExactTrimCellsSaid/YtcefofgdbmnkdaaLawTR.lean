/-
  The walk of the law FnExactTrimCells.
-/
import Derived.Test.YtcefofgdbmnkdaaSz
import Derived.Test.YtcefofgdbmnkdaaEq
import Derived.Test.YtcefofgdbmnkdaaTrimI
namespace Go.Proofs.Ytcefofgdbmnkdaa
open Go.RowKit CM
set_option linter.unusedVariables false

theorem OwnC.caps {w : World} {lo hi : Nat} {A : Option Addr} {cap : Nat} {hs : List (ByteArray × Option Addr × Nat × List (Int × ByteArray × Bool))} (h : OwnC w lo hi A cap hs) : ∀ x ∈ hs, x.2.2.2.length ≤ x.2.2.1 := by
  intro x hx
  rcases h.2.1 x hx with ⟨h1, _, h2⟩ | ⟨g, cur, _, _, _, _, h1, _⟩
  · rw [List.map_eq_nil_iff] at h1
    rw [h1]
    exact Nat.zero_le _
  · simpa using h1
theorem trV_small {hs gs : List (ByteArray × Option Addr × Nat × List (Int × ByteArray × Bool))} {f : Int} (h : HSmall hs) (hg : gs.map dat = trV (hs.map dat) f) : HSmall gs ∧ afterH 1 gs ≤ 1000000000 := by
  unfold trV at hg
  split at hg
  · rename_i hok
    unfold saOk at hok
    rw [Bool.and_eq_true] at hok
    have hc := csB_true hok.1
    have hlen : gs.length ≤ hs.length := by
      have e := congrArg List.length hg
      rw [List.length_map] at e
      have := trimC_len f (hs.map dat)
      rw [List.length_map] at this
      omega
    have key : ∀ x ∈ gs, ∃ y ∈ hs, x.1 = y.1 ∧ x.2.2.2 = trimV f y.2.2.2 ∧ upB tLt y.2.2.2 = true ∧ y.2.2.2.length ≤ 16 := by
      intro x hx
      have h1 : dat x ∈ trimC f (hs.map dat) := by rw [← hg]; exact List.mem_map.2 ⟨x, hx, rfl⟩
      obtain ⟨d, hd, he, _⟩ := trimC_mem f _ _ h1
      obtain ⟨y, hy, rfl⟩ := List.mem_map.1 hd
      obtain ⟨k, hk, rfl⟩ := List.mem_iff_getElem.1 hy
      have h2 := vsB_true (hc.2.2 k hk).2
      simp only [dat, Prod.mk.injEq] at he
      exact ⟨_, hy, he.1, he.2, h2.2.1, h2.2.2.2⟩
    refine ⟨⟨Nat.le_trans hlen h.1, fun x hx => ?_⟩, ?_⟩
    · obtain ⟨y, hy, e1, e2, e3, e4⟩ := key x hx
      have h3 := h.2 y hy
      rw [e1, e2]
      exact ⟨h3.1, Nat.le_trans (trimV_len f _ e3) h3.2.1, fun v hv => h3.2.2 v (trimV_mem f _ e3 v hv)⟩
    · have h5 := afterH_few 1 16 gs (fun x hx => by
        obtain ⟨y, hy, e1, e2, e3, e4⟩ := key x hx
        rw [e2]
        exact Nat.le_trans (trimV_len f _ e3) e4)
      have h6 : gs.length ≤ 24 := Nat.le_trans hlen hc.2.1
      omega
  · rw [List.map_eq_nil_iff] at hg
    subst hg
    exact ⟨⟨by simp, by simp⟩, by simp [afterH]⟩

set_option maxRecDepth 100000 in
set_option maxHeartbeats 4000000 in
theorem trimCells_walk (w : World) (A : Option Addr) (n c : Nat) (hs : List (ByteArray × Option Addr × Nat × List (Int × ByteArray × Bool))) (hn : hs.length = n) (h : CellsAt w A hs) (hl : n ≤ maxLen) (tm : Int) (_htm : (Lit.int .i64 tm).wf = true) :
    Calls Try.prog 12 #[.slice A n c, .int .i64 tm] w fun e w' => e = .returned (.bool true) ∧ Below w.heap.size w w' := by
  obtain ⟨hr, hmx⟩ := h
  have HN := Lib.hid hn
  have HZ := Lib.hid (szCellS_any A n c hs 1048576 w.heap.size w hn hr (Nat.le_refl _) hmx (Nat.le_refl _))
  by_cases hsz : szHs hs ≤ 1048576
  · have hsm := hsmall_of hsz
    have HSM := Lib.hid hsm
    have HT := Lib.hid (fun W (hW : Below w.heap.size w W) => toCellS_any A n c hs w.heap.size W hn (hr.below hW) hW.size hsm)
    have HTS := Lib.hid (fun (gs : List (ByteArray × Option Addr × Nat × List (Int × ByteArray × Bool))) (h : gs.map dat = trV (hs.map dat) tm) => trV_small hsm h)
    obtain ⟨ws, hws⟩ : ∃ ws, ws = trV (hs.map dat) tm := ⟨_, rfl⟩
    obtain ⟨v, hv⟩ : ∃ v, v = saOk (hs.map dat) tm := ⟨_, rfl⟩
    obtain ⟨nn, hnne⟩ : ∃ nn, nn = ws.length := ⟨_, rfl⟩
    have HSP := Lib.hid (show ∀ W e W', TrimCPost (hs.map dat) tm W e W' → ∃ A c gs, e = .returned (.tuple #[.slice A nn c, .bool v]) ∧ gs.length = nn ∧ gs.map dat = ws ∧ OwnC W' W.heap.size W'.heap.size A c gs ∧ Below W.heap.size W W' from fun W e W' h => by
      obtain ⟨A, c, gs, h1, h2, h3, h4⟩ := h
      rw [← hws] at h2
      have hl : gs.length = nn := by rw [hnne, ← h2, List.length_map]
      exact ⟨A, c, gs, by rw [hv, ← hl]; exact h1, hl, h2, h3, h4⟩)
    rw [← hws] at HTS
    have HSZ := Lib.hid hsz
    rw [remI_yes hsz] at HZ
    have hz0 : (0 : Int) ≤ (1048576 : Int) - (szHs hs : Int) := by omega
    have HZ' : Hid (Calls Try.prog 47 #[.slice A n c, .int .i64 1048576] w fun e w' => e = .returned (.int .i64 ((1048576 : Int) - (szHs hs : Int))) ∧ Below w.heap.size w w') := HZ
    clear hn hr hsm hv hws HZ hsz hl hmx hnne
    go_enter Try.func12, Try.ntmps12
    go_wp2_with fail
    refine HZ'.out.mono ?_
    rintro e w1 ⟨rfl, hb1⟩
    have HB1 := Lib.hid hb1
    clear hb1
    go_wp2_with fail
    refine (HT.out _ HB1.out).mono ?_
    rintro e w2 ⟨g2, gs2, rfl, hd2, ho2, hb2⟩
    have HB2 := Lib.hid (HB1.out.trans (hb2.mono HB1.out.size))
    have hc2 := specTrimCells_any _ n n gs2 tm _ w2 ((dats_len hd2).trans HN.out) ho2.cells (Nat.le_refl _) (dats_small hd2 HSM.out)
    rw [hd2] at hc2
    have HC2 := Lib.hid hc2
    clear hd2 ho2 hb2 hc2
    go_wp2_with fail
    refine HC2.out.mono ?_
    intro e w3 hp3
    obtain ⟨A3, c3, gs3, rfl, hl3, hd3, ho3, hb3⟩ := HSP.out _ _ _ hp3
    have HL3 := Lib.hid hl3
    have HD3 := Lib.hid hd3
    have HB3 := Lib.hid (HB2.out.trans (hb3.mono HB2.out.size))
    have HO3 := Lib.hid ho3.cells
    clear hp3 ho3 hb3 hl3 hd3
    go_wp2_with fail
    refine (HT.out _ HB3.out).mono ?_
    rintro e w4 ⟨g4, gs4, rfl, hd4, ho4, hb4⟩
    have HB4 := Lib.hid (HB3.out.trans (hb4.mono HB3.out.size))
    have HO4 := Lib.hid ho4
    have HD4 := Lib.hid hd4
    have HS34 := Lib.hid hb4.size
    have HW4 := Lib.hid (HO3.out.below hb4)
    have hc4 := trimCells_any _ n n gs4 tm _ w4 ((dats_len hd4).trans HN.out) ho4.cells ho4.caps (Nat.le_refl _) (dats_small hd4 HSM.out)
    rw [hd4] at hc4
    have HC4 := Lib.hid hc4
    clear hd4 ho4 hb4 hc4
    go_wp2_with fail
    refine HC4.out.mono ?_
    intro e w5 hp5
    obtain ⟨A5, c5, gs5, rfl, hl5, hd5, ho5, hb5⟩ := HSP.out _ _ _ hp5
    have HL5 := Lib.hid hl5
    have HD5 := Lib.hid hd5
    have hnn := (HTS.out gs5 hd5).1.1
    rw [hl5] at hnn
    have HB5 := Lib.hid (HB4.out.trans (hb5.mono HB4.out.size))
    have HO5 := Lib.hid ho5
    have HX5 := Lib.hid (HO4.out.below hb5)
    have HW5 := Lib.hid (HW4.out.below (hb5.mono HS34.out))
    have HS45 := Lib.hid hb5.size
    clear hp5 ho5 hb5 hl5 hd5
    have HE5 := Lib.hid (eqCellS_same A5 A3 nn c5 c3 gs5 gs3 _ w5 HL5.out (HD3.out.trans HD5.out.symm) HO5.out.cells (HW5.out.mono (Nat.le_trans HS34.out HS45.out)) (Nat.le_refl _) (HTS.out gs5 HD5.out).1)
    go_wp2_with fail
    refine HE5.out.mono ?_
    rintro e w6 ⟨rfl, hb6⟩
    have HB6 := Lib.hid (HB5.out.trans (hb6.mono HB5.out.size))
    have HS56 := Lib.hid hb6.size
    have HO6 := Lib.hid (HO5.out.below hb6)
    have HX6 := Lib.hid (HX5.out.below (hb6.mono HS45.out))
    have HW6 := Lib.hid (HW5.out.below (hb6.mono (Nat.le_trans HS34.out HS45.out)))
    clear hb6
    cases v <;> (
    go_wp2_with fail
    refine (HT.out _ HB6.out).mono ?_
    rintro e w7 ⟨g7, gs7, rfl, hd7, ho7, hb7⟩
    have HB7 := Lib.hid (HB6.out.trans (hb7.mono HB6.out.size))
    have HS67 := Lib.hid hb7.size
    have HO7 := Lib.hid (HO6.out.below (hb7.mono HS56.out))
    have HX7 := Lib.hid (HX6.out.below (hb7.mono (Nat.le_trans HS45.out HS56.out)))
    have HW7 := Lib.hid (HW6.out.below (hb7.mono (Nat.le_trans HS34.out (Nat.le_trans HS45.out HS56.out))))
    have HE7 := Lib.hid (eqCellS_same _ _ n n n gs4 gs7 _ w7 ((dats_len HD4.out).trans HN.out) (hd7.trans HD4.out.symm) (HX7.out.cells.mono (Nat.le_trans HS45.out (Nat.le_trans HS56.out HS67.out))) ho7.cells (Nat.le_refl _) (dats_small HD4.out HSM.out))
    clear hd7 ho7 hb7
    go_wp2_with fail
    refine HE7.out.mono ?_
    rintro e w8 ⟨rfl, hb8⟩
    have HB8 := Lib.hid (HB7.out.trans (hb8.mono HB7.out.size))
    have HS78 := Lib.hid hb8.size
    have hs48 : w4.heap.size ≤ w7.heap.size := Nat.le_trans HS45.out (Nat.le_trans HS56.out HS67.out)
    have HO8 := Lib.hid (HO7.out.below (hb8.mono (Nat.le_trans HS56.out HS67.out)))
    have HX8 := Lib.hid (HX7.out.below (hb8.mono hs48))
    have HW8 := Lib.hid (HW7.out.below (hb8.mono (Nat.le_trans HS34.out hs48)))
    obtain ⟨q, hq⟩ : ∃ q, q = afterH 1 gs4 := ⟨_, rfl⟩
    have hq1 : 1 ≤ q := by rw [hq]; exact afterH_up _ _
    have hq2 : q ≤ 1000000000 := by
      have h1 := afterH_sz 1 gs4
      have h2 := szHs_eq HD4.out
      have h3 := HSZ.out
      omega
    have hc8 := markCellS_any _ n n 1 _ _ gs4 w8 ((dats_len HD4.out).trans HN.out) HX8.out (Nat.le_trans hs48 HS78.out) (Nat.le_refl _) (by rw [← hq]; exact hq2)
    rw [← hq] at hc8
    have HC8 := Lib.hid hc8
    have HQ := Lib.hid hq
    clear hb8 hc8 hq hs48
    go_wp2_with fail
    refine HC8.out.mono ?_
    rintro e w9 ⟨rfl, ho9, hm9⟩
    have HB9 := Lib.hid (HB8.out.trans ((hm9.below (Nat.le_trans HS34.out (Nat.le_trans HS45.out (Nat.le_trans HS56.out (Nat.le_trans HS67.out HS78.out))))).mono HB3.out.size))
    have hm9s := hm9.2.2.2.1
    have hs49 : w4.heap.size ≤ w9.heap.size := Nat.le_trans HS45.out (Nat.le_trans HS56.out (Nat.le_trans HS67.out (Nat.le_trans HS78.out hm9s)))
    have hs59 : w5.heap.size ≤ w9.heap.size := Nat.le_trans HS56.out (Nat.le_trans HS67.out (Nat.le_trans HS78.out hm9s))
    have HO9 := Lib.hid (HO8.out.mid hm9 (Or.inl (Nat.le_refl _)))
    have HW9 := Lib.hid (HW8.out.below (hm9.below (Nat.le_trans HS34.out (Nat.le_trans HS45.out (Nat.le_trans HS56.out (Nat.le_trans HS67.out HS78.out))))))
    have HS9 := Lib.hid (show w3.heap.size ≤ w9.heap.size ∧ w4.heap.size ≤ w9.heap.size ∧ w5.heap.size ≤ w9.heap.size from ⟨Nat.le_trans HS34.out hs49, hs49, hs59⟩)
    clear ho9 hm9 hm9s hs49 hs59
    have HE9 := Lib.hid (eqCellS_same A5 A3 nn c5 c3 gs5 gs3 _ w9 HL5.out (HD3.out.trans HD5.out.symm) (HO9.out.cells.mono HS9.out.2.2) (HW9.out.mono HS9.out.1) (Nat.le_refl _) (HTS.out gs5 HD5.out).1)
    go_wp2_with fail
    refine HE9.out.mono ?_
    rintro e w10 ⟨rfl, hb10⟩
    have HB10 := Lib.hid (HB9.out.trans (hb10.mono HB9.out.size))
    have HO10 := Lib.hid (HO9.out.below (hb10.mono HS9.out.2.2))
    have HW10 := Lib.hid (HW9.out.below (hb10.mono HS9.out.1))
    have HS10 := Lib.hid (show w3.heap.size ≤ w10.heap.size ∧ w4.heap.size ≤ w10.heap.size ∧ w5.heap.size ≤ w10.heap.size from ⟨Nat.le_trans HS9.out.1 hb10.size, Nat.le_trans HS9.out.2.1 hb10.size, Nat.le_trans HS9.out.2.2 hb10.size⟩)
    clear hb10
    obtain ⟨m, hm⟩ : ∃ m, m = afterH 1 gs5 := ⟨_, rfl⟩
    have hm1 : 1 ≤ m := by rw [hm]; exact afterH_up _ _
    have hm2 : m ≤ 1000000000 := by rw [hm]; exact (HTS.out gs5 HD5.out).2
    have hc10 := markCellS_any A5 nn c5 1 _ _ gs5 w10 HL5.out HO10.out HS10.out.2.2 (Nat.le_refl _) (by rw [← hm]; exact hm2)
    rw [← hm] at hc10
    have HC10 := Lib.hid hc10
    have HMM := Lib.hid hm
    clear hc10 hm
    go_wp2_with fail
    refine HC10.out.mono ?_
    rintro e w11 ⟨rfl, ho11, hmid⟩
    have HB11 := Lib.hid (HB10.out.trans ((hmid.below HS10.out.2.1).mono HB4.out.size))
    have HO11 := Lib.hid ho11
    have HW11 := Lib.hid (HW10.out.below ((hmid.below HS10.out.2.1).mono HS34.out))
    have HS11 := Lib.hid (show w3.heap.size ≤ w11.heap.size ∧ w5.heap.size ≤ w11.heap.size from ⟨Nat.le_trans HS10.out.1 hmid.2.2.2.1, Nat.le_trans HS10.out.2.2 hmid.2.2.2.1⟩)
    clear ho11 hmid
    have hc11 := heldCellS_any A5 nn c5 1 _ gs5 w11 HL5.out HO11.out.cells HS11.out.2 (Nat.le_refl _) (by rw [← HMM.out]; exact hm2)
    rw [← HMM.out] at hc11
    have HC11 := Lib.hid hc11
    clear hc11
    go_wp2_with fail
    refine HC11.out.mono ?_
    rintro e w12 ⟨rfl, hb12⟩
    have HB12 := Lib.hid (HB11.out.trans (hb12.mono HB11.out.size))
    have HO12 := Lib.hid (HO11.out.below (hb12.mono HS11.out.2))
    have HW12 := Lib.hid (HW11.out.below (hb12.mono HS11.out.1))
    have HS12 := Lib.hid (show w3.heap.size ≤ w12.heap.size ∧ w5.heap.size ≤ w12.heap.size from ⟨Nat.le_trans HS11.out.1 hb12.size, Nat.le_trans HS11.out.2 hb12.size⟩)
    clear hb12
    go_wp2_with fail
    refine (HT.out _ HB12.out).mono ?_
    rintro e w13 ⟨g13, gs13, rfl, hd13, ho13, hb13⟩
    have HB13 := Lib.hid (HB12.out.trans (hb13.mono HB12.out.size))
    have HO13 := Lib.hid (HO12.out.below (hb13.mono HS12.out.2))
    have HW13 := Lib.hid (HW12.out.below (hb13.mono HS12.out.1))
    have HS13 := Lib.hid (show w3.heap.size ≤ w13.heap.size ∧ w5.heap.size ≤ w13.heap.size from ⟨Nat.le_trans HS12.out.1 hb13.size, Nat.le_trans HS12.out.2 hb13.size⟩)
    have hc13 := trimCells_any _ n n gs13 tm _ w13 ((dats_len hd13).trans HN.out) ho13.cells ho13.caps (Nat.le_refl _) (dats_small hd13 HSM.out)
    rw [hd13] at hc13
    have HC13 := Lib.hid hc13
    clear hd13 ho13 hb13 hc13
    go_wp2_with fail
    refine HC13.out.mono ?_
    intro e w14 hp14
    obtain ⟨A14, c14, gs14, rfl, hl14, hd14, ho14, hb14⟩ := HSP.out _ _ _ hp14
    have HB14 := Lib.hid (HB13.out.trans (hb14.mono HB13.out.size))
    have HO14 := Lib.hid (HO13.out.below (hb14.mono HS13.out.2))
    have HW14 := Lib.hid (HW13.out.below (hb14.mono HS13.out.1))
    have HS14 := Lib.hid (show w3.heap.size ≤ w14.heap.size ∧ w5.heap.size ≤ w14.heap.size from ⟨Nat.le_trans HS13.out.1 hb14.size, Nat.le_trans HS13.out.2 hb14.size⟩)
    have HE14 := Lib.hid (eqCellS_same A14 A3 nn c14 c3 gs14 gs3 _ w14 hl14 (HD3.out.trans hd14.symm) ho14.cells (HW14.out.mono HS14.out.1) (Nat.le_refl _) (HTS.out gs14 hd14).1)
    clear hp14 ho14 hb14 hl14 hd14
    go_wp2_with fail
    refine HE14.out.mono ?_
    rintro e w15 ⟨rfl, hb15⟩
    have HB15 := Lib.hid (HB14.out.trans (hb15.mono HB14.out.size))
    have HO15 := Lib.hid (HO14.out.below (hb15.mono HS14.out.2))
    have HS15 := Lib.hid (Nat.le_trans HS14.out.2 hb15.size)
    clear hb15
    have hc15 := heldCellS_any A5 nn c5 1 _ gs5 w15 HL5.out HO15.out.cells HS15.out (Nat.le_refl _) (by rw [← HMM.out]; exact hm2)
    rw [← HMM.out] at hc15
    have HC15 := Lib.hid hc15
    clear hc15
    go_wp2_with fail
    refine HC15.out.mono ?_
    rintro e w16 ⟨rfl, hb16⟩
    have HB16 := Lib.hid (HB15.out.trans (hb16.mono HB15.out.size))
    clear hb16
    go_wp2
    go_ret
    exact ⟨rfl, HB16.out⟩)
  · rw [remI_no (by omega)] at HZ
    have HZ' : Hid (Calls Try.prog 47 #[.slice A n c, .int .i64 1048576] w fun e w' => e = .returned (.int .i64 (-1)) ∧ Below w.heap.size w w') := HZ
    clear hn hr HZ hsz hl hmx
    go_enter Try.func12, Try.ntmps12
    go_wp2_with fail
    refine HZ'.out.mono ?_
    rintro e w1 ⟨rfl, hb1⟩
    go_wp2
    go_ret
    exact ⟨rfl, hb1⟩
end Go.Proofs.Ytcefofgdbmnkdaa
