/-
  HoldersOf, of the model and of the program.
-/
import Derived.Test.YtoanigbjdfgjcaaWtF5
import Derived.Test.YtoanigbjdfgjcaaWtF6
import Derived.Test.YtoanigbjdfgjcaaNtMem
import Derived.Deep.RegionHeld3
import Derived.Deep.DeepCutAuto
import Derived.Deep.QuietTactic
import Derived.BigQuiet
namespace Go.Proofs.Ytoanigbjdfgjcaa.Wt
open Go.RowKit Nt
set_option linter.unusedVariables false
set_option linter.unusedSimpArgs false

/-- Numbers as an answer, and a bool: in a block of the call's own. -/
def HoPost (a : List Int × Bool) (w : World) (e : Ending) (w' : World) : Prop :=
  ∃ A c, e = .returned (.tuple #[.slice A a.1.length c, .bool a.2]) ∧ OwnI w' w.heap.size w'.heap.size A c a.1 ∧ Below w.heap.size w w'
theorem HoPost_un (ai : List Int) (ok : Bool) (w : World) : HoPost (ai, ok) w = fun e w' => ∃ A c, e = .returned (.tuple #[.slice A ai.length c, .bool ok]) ∧ OwnI w' w.heap.size w'.heap.size A c ai ∧ Below w.heap.size w w' := rfl
theorem i_row {w : World} {lo hi c n : Nat} {A : Option Addr} {ls : List Int} (h : OwnI w lo hi A c ls) (hn : ls.length = n) : w.ownsRow lo 3 1 (.slice A n c) n ((ls.map intCs).flatten) := by
  have h7 := Own.toRow h (intCs_len ls) (by decide)
  rw [List.length_map, hn] at h7
  exact h7
theorem i_snoc {w' : World} {lo n : Nat} {ls : List Int} {x : Int} {v' : Value} (hn : ls.length = n) (hown : w'.ownsRow lo 3 1 v' (n + 1) ((ls.map intCs).flatten ++ [.int .i64 x])) : ∃ A5 c5, v' = .slice A5 (n + 1) c5 ∧ OwnI w' lo w'.heap.size A5 c5 (ls ++ [x]) := by
  have e : (ls.map intCs).flatten ++ [Value.int .i64 x] = ((ls ++ [x]).map intCs).flatten := by simp [intCs]
  rw [e] at hown
  obtain ⟨A5, c5, hv, hl, ho⟩ := Own.ofRow hown (intCs_len _) (by decide) (hi := w'.heap.size) (fun k hk => (hown.lt k hk).2)
  rw [List.length_map, List.length_append, hn] at hv
  exact ⟨A5, c5, hv, ho⟩
theorem holders_yes {tm : Int} {cs : List Int} {ls : List (Int × Int × Int)} {k : Nat} (h : holdW (k : Int) (highW tm (offW cs (k : Int))) ls = true) : holdersN tm cs ls (k + 1) = holdersN tm cs ls k ++ [(k : Int)] := by
  unfold holdersN
  rw [List.range_succ, List.filter_append]
  simp [h]
theorem holders_no {tm : Int} {cs : List Int} {ls : List (Int × Int × Int)} {k : Nat} (h : holdW (k : Int) (highW tm (offW cs (k : Int))) ls = false) : holdersN tm cs ls (k + 1) = holdersN tm cs ls k := by
  unfold holdersN
  rw [List.range_succ, List.filter_append]
  simp [h]
theorem holders_zero {tm : Int} {cs : List Int} {ls : List (Int × Int × Int)} : holdersN tm cs ls 0 = [] := rfl
theorem holders_len {tm : Int} {cs : List Int} {ls : List (Int × Int × Int)} (k : Nat) : (holdersN tm cs ls k).length ≤ k := by
  unfold holdersN
  rw [List.length_map]
  exact Nat.le_trans (List.length_filter_le _ _) (by simp)
theorem ho_end {tm : Int} {cs : List Int} {ls : List (Int × Int × Int)} {w w' : World} {A : Option Addr} {c m : Nat} {L : List Int} (hw : wchB tm cs ls = true) (hL : L = holdersN tm cs ls cs.length) (hm : L.length = m) (ho : OwnI w' (w.heap.size + 1) w'.heap.size A c L) (hb : Below w.heap.size w w') : HoPost (holdersW tm cs ls) w (.returned (.tuple #[.slice A m c, .bool true])) w' := by
  unfold holdersW
  rw [hw, ← hL, ← hm]
  exact ⟨A, c, rfl, ho.wider (Nat.le_succ _) (Nat.le_refl _), hb⟩

set_option maxRecDepth 100000 in
set_option maxHeartbeats 8000000 in
theorem specHoldersOf_any (tm : Int) (A A' : Option Addr) (n c n' c' : Nat) (is : List Int) (ls : List (Int × Int × Int)) (B : Nat) (w : World) (hn : is.length = n) (hn' : ls.length = n') (h : CksB w B A is) (h' : LesB w B A' ls) (hB : B ≤ w.heap.size) (hl' : n' ≤ 1048576) :
    Calls Try.prog 42 #[.agg #[.int .i64 tm, .slice A n c, .slice A' n' c']] w (HoPost (holdersW tm is ls) w) := by
  obtain ⟨i0, hi, hzA, hzB, hzC⟩ := info_parts infoInt
  have HB0 := Lib.hid (below1 w (.cells #[.int .i64 tm, .slice A n c, .slice A' n' c'] 31))
  have bK_0 := Lib.hid (heap_alloc_new w (.cells #[.int .i64 tm, .slice A n c, .slice A' n' c'] 31))
  have HG := Lib.hid (fun W (hW : Below w.heap.size w W) => l10Good_any tm A A' n c n' c' is ls B W hn hn' (h.below (hW.mono hB)) (h'.below (hW.mono hB)) (Nat.le_trans hB hW.size))
  cases g1 : wchB tm is ls with
  | false =>
    rw [g1] at HG
    rw [show holdersW tm is ls = ([], false) by simp [holdersW, g1]]
    have HEV := Lib.hid (alloc_snd w (.cells #[.int .i64 tm, .slice A n c, .slice A' n' c'] 31) (.cells #[] 3))
    have HEB := Lib.hid (below2 w (.cells #[.int .i64 tm, .slice A n c, .slice A' n' c'] 31) (.cells #[] 3))
    have bK_1 := Lib.hid (((below1 (w.alloc (.cells #[.int .i64 tm, .slice A n c, .slice A' n' c'] 31)) (.cells #[] 3)).block w.heap.size (by simp)).trans bK_0.out)
    have hnz : n < 1000000000 ∨ 0 ≤ n := by omega
    clear h h' hn hn' g1
    go_enter Try.func42, Try.ntmps42
    go_wp2
    go_loopw [4, 5] (fun v i wr => v = .slice (some ⟨w.heap.size + 1, 0, none⟩) 0 0 ∧ i = .int .i64 0 ∧ Hid (Below w.heap.size w wr) ∧ Hid (wr.heap[w.heap.size + 1]? = some (.cells #[] 3 (0, 0))) ∧ Hid (wr.heap[w.heap.size]? = some (.cells #[.int .i64 tm, .slice A n c, .slice A' n' c'] 31 (0, 0)))) (fun _ i _ => 0)
    case atStart => exact ⟨rfl, rfl, HEB.out, HEV.out, bK_1.out⟩
    case round =>
      obtain ⟨rfl, rfl, HB, HV, HK⟩ := hrel
      have k0 := cell_blk (i := 0) HK.out rfl
      have k1 := cell_blk (i := 1) HK.out rfl
      have k2 := cell_blk (i := 2) HK.out rfl
      have hlw := lt_blk HK.out
      have HFIN := Lib.hid (fun W (hW : Below wr.heap.size wr W) => show OwnI W w.heap.size W.heap.size (some ⟨w.heap.size + 1, 0, none⟩) 0 [] from .inr ⟨w.heap.size + 1, #[], rfl, by omega, Nat.lt_of_lt_of_le (lt_blk HV.out) hW.size, (hW.block _ (lt_blk HV.out)).trans HV.out, by simp, by simp, by simp, by simp⟩)
      by_cases hn0 : n = 0
      · subst hn0
        go_wp2_with fail
        refine (HG.out _ HB.out).mono ?_
        rintro e w2 ⟨rfl, hb2⟩
        have HX := Lib.hid (HFIN.out w2 hb2)
        have HBX := Lib.hid (HB.out.trans (hb2.mono HB.out.size))
        clear hb2 k0 k1 k2
        go_wp2
        exact bodyPost_ret (v := .tuple #[.slice (some ⟨w.heap.size + 1, 0, none⟩) 0 0, .bool false]) (by simp [results, Try.results42, go_sem]) rfl ⟨_, _, rfl, HX.out, HBX.out⟩
      · have hnp : (0 : Int) < (n : Int) := by omega
        go_wp2_with fail
        refine (HG.out _ HB.out).mono ?_
        rintro e w2 ⟨rfl, hb2⟩
        have HBX := Lib.hid (HB.out.trans (hb2.mono HB.out.size))
        have hk2 := (hb2.block w.heap.size hlw).trans HK.out
        have k0 := cell_blk (i := 0) hk2 rfl
        have k1 := cell_blk (i := 1) hk2 rfl
        have k2 := cell_blk (i := 2) hk2 rfl
        have HB2 := Lib.hid hb2
        clear hk2 hb2
        go_wp2_with fail
        refine (HG.out _ HBX.out).mono ?_
        rintro e w3 ⟨rfl, hb3⟩
        have HX := Lib.hid (HFIN.out w3 (HB2.out.trans (hb3.mono HB2.out.size)))
        have HBY := Lib.hid (HBX.out.trans (hb3.mono HBX.out.size))
        clear hb3 k0 k1 k2
        go_wp2
        exact bodyPost_ret (v := .tuple #[.slice (some ⟨w.heap.size + 1, 0, none⟩) 0 0, .bool false]) (by simp [results, Try.results42, go_sem]) rfl ⟨_, _, rfl, HX.out, HBY.out⟩
  | true =>
    rw [g1] at HG
    have gc5 := (wchB_true g1).2.1.2
    rw [hn] at gc5
    have HH := Lib.hid (fun (k : Nat) (hk : k < n) W (hW : Below w.heap.size w W) => l10Holds_any tm A A' n c n' c' is ls (k : Int) B W hn hn' (h.below (hW.mono hB)) (h'.below (hW.mono hB)) (Nat.le_trans hB hW.size) (by unfold hasW; rw [g1, hn, inB_mk (by omega)]; rfl))
    have HEND := Lib.hid (fun (W : World) (A1 : Option Addr) (c1 m : Nat) (L : List Int) (hL : L = holdersN tm is ls n) (hm : L.length = m) (ho : OwnI W (w.heap.size + 1) W.heap.size A1 c1 L) (hb : Below w.heap.size w W) => ho_end (w := w) (w' := W) (A := A1) (c := c1) (m := m) g1 (by rw [hn]; exact hL) hm ho hb)
    have HEV := Lib.hid (alloc_snd w (.cells #[.int .i64 tm, .slice A n c, .slice A' n' c'] 31) (.cells #[] 3))
    have HEB := Lib.hid (below2 w (.cells #[.int .i64 tm, .slice A n c, .slice A' n' c'] 31) (.cells #[] 3))
    have bK_1 := Lib.hid (((below1 (w.alloc (.cells #[.int .i64 tm, .slice A n c, .slice A' n' c'] 31)) (.cells #[] 3)).block w.heap.size (by simp)).trans bK_0.out)
    have HEO := Lib.hid (show OwnI ((w.alloc (.cells #[.int .i64 tm, .slice A n c, .slice A' n' c'] 31)).alloc (.cells #[] 3)) (w.heap.size + 1) ((w.alloc (.cells #[.int .i64 tm, .slice A n c, .slice A' n' c'] 31)).alloc (.cells #[] 3)).heap.size (some ⟨w.heap.size + 1, 0, none⟩) 0 [] from .inr ⟨w.heap.size + 1, #[], rfl, Nat.le_refl _, by simp, HEV.out, by simp, by simp, by simp, by simp⟩)
    clear h h' hn hn' g1
    go_enter Try.func42, Try.ntmps42
    go_wp2
    go_loopw [4, 5] (fun v i wr => ∃ (k m : Nat) (A1 : Option Addr) (c1 : Nat) (L : List Int), k ≤ n ∧ i = .int .i64 k ∧ v = .slice A1 m c1 ∧ Hid (L = holdersN tm is ls k) ∧ Hid (L.length = m) ∧ m ≤ k ∧ Hid (OwnI wr (w.heap.size + 1) wr.heap.size A1 c1 L) ∧ Hid (Below w.heap.size w wr) ∧ Hid (wr.heap[w.heap.size]? = some (.cells #[.int .i64 tm, .slice A n c, .slice A' n' c'] 31 (0, 0)))) (fun _ i _ => n - (intOf i).toNat)
    case atStart => exact ⟨0, 0, some ⟨w.heap.size + 1, 0, none⟩, 0, [], by omega, rfl, rfl, Lib.hid holders_zero.symm, Lib.hid rfl, by omega, HEO, HEB.out, bK_1.out⟩
    case round =>
      obtain ⟨k, m, A1, c1, L, hk, rfl, rfl, HLK, HLM, hmk, HO, HB, HK⟩ := hrel
      have k0 := cell_blk (i := 0) HK.out rfl
      have k1 := cell_blk (i := 1) HK.out rfl
      have k2 := cell_blk (i := 2) HK.out rfl
      have hlw := lt_blk HK.out
      have hnc : (n : Int) ≤ 5 := by omega
      by_cases hlt : k < n
      · have hkn : (k : Int) < (n : Int) := by omega
        have hk0 : (0 : Int) ≤ (k : Int) := by omega
        have HHk := Lib.hid (HH.out k hlt)
        obtain ⟨hv, hhv⟩ : ∃ hv, hv = holdW (k : Int) (highW tm (offW is (k : Int))) ls := ⟨_, rfl⟩
        have HV := Lib.hid hhv.symm
        rw [← hhv] at HHk
        clear hhv
        cases hv with
        | false =>
          have HL1 := Lib.hid (show L = holdersN tm is ls (k + 1) by rw [holders_no HV.out]; exact HLK.out)
          go_wp2_with fail
          refine (HG.out _ HB.out).mono ?_
          rintro e w2 ⟨rfl, hb2⟩
          have HB2 := Lib.hid (HB.out.trans (hb2.mono HB.out.size))
          have HK2 := Lib.hid ((hb2.block w.heap.size (lt_blk HK.out)).trans HK.out)
          have HO2 := Lib.hid (OwnI.wider (HO.out.since hb2 (Nat.le_refl _)) (Nat.le_refl _) hb2.size)
          have hlw2 := lt_blk HK2.out
          have k20 := cell_blk (i := 0) HK2.out rfl
          have k21 := cell_blk (i := 1) HK2.out rfl
          have k22 := cell_blk (i := 2) HK2.out rfl
          clear hb2
          go_wp2_with fail
          refine (HHk.out _ HB2.out).mono ?_
          rintro e w3 ⟨rfl, hb3⟩
          have HB3 := Lib.hid (HB2.out.trans (hb3.mono HB2.out.size))
          have HK3 := Lib.hid ((hb3.block w.heap.size (lt_blk HK2.out)).trans HK2.out)
          have HO3 := Lib.hid (OwnI.wider (HO2.out.since hb3 (Nat.le_refl _)) (Nat.le_refl _) hb3.size)
          have hlw3 := lt_blk HK3.out
          have k30 := cell_blk (i := 0) HK3.out rfl
          have k31 := cell_blk (i := 1) HK3.out rfl
          have k32 := cell_blk (i := 2) HK3.out rfl
          clear hb3
          go_wp2
          go_roundw
          case rel => exact ⟨k + 1, m, A1, c1, L, by omega, by go_num, rfl, HL1, HLM, by omega, HO3, HB3.out, HK3.out⟩
          case measure => simp [intOf]; omega
        | true =>
          have HL1 := Lib.hid (show L ++ [(k : Int)] = holdersN tm is ls (k + 1) by rw [holders_yes HV.out, ← HLK.out])
          have HM1 := Lib.hid (show (L ++ [(k : Int)]).length = m + 1 by rw [List.length_append, HLM.out]; rfl)
          go_wp2_with fail
          refine (HG.out _ HB.out).mono ?_
          rintro e w2 ⟨rfl, hb2⟩
          have HB2 := Lib.hid (HB.out.trans (hb2.mono HB.out.size))
          have HK2 := Lib.hid ((hb2.block w.heap.size (lt_blk HK.out)).trans HK.out)
          have HO2 := Lib.hid (OwnI.wider (HO.out.since hb2 (Nat.le_refl _)) (Nat.le_refl _) hb2.size)
          have hlw2 := lt_blk HK2.out
          have k20 := cell_blk (i := 0) HK2.out rfl
          have k21 := cell_blk (i := 1) HK2.out rfl
          have k22 := cell_blk (i := 2) HK2.out rfl
          clear hb2
          go_wp2_with fail
          refine (HHk.out _ HB2.out).mono ?_
          rintro e w3 ⟨rfl, hb3⟩
          have HB3 := Lib.hid (HB2.out.trans (hb3.mono HB2.out.size))
          have HK3 := Lib.hid ((hb3.block w.heap.size (lt_blk HK2.out)).trans HK2.out)
          have HO3 := Lib.hid (OwnI.wider (HO2.out.since hb3 (Nat.le_refl _)) (Nat.le_refl _) hb3.size)
          have hlw3 := lt_blk HK3.out
          have k30 := cell_blk (i := 0) HK3.out rfl
          have k31 := cell_blk (i := 1) HK3.out rfl
          have k32 := cell_blk (i := 2) HK3.out rfl
          clear hb3
          have HX0 := Lib.hid (below1 w3 (.cells #[.int .i64 (k : Int)] 3))
          have HNEW := Lib.hid (heap_alloc_new w3 (.cells #[.int .i64 (k : Int)] 3))
          have HOX := Lib.hid (HO3.out.since HX0.out (Nat.le_refl _))
          have HROW := Lib.hid (i_row HOX.out HLM.out)
          have hb0 := HB3.out.size
          have hlx : w.heap.size + 1 ≤ (w3.alloc (.cells #[.int .i64 (k : Int)] 3)).heap.size := by simp; omega
          go_wp2_with (at_builtin; refine wpList_app rfl (.tmp 21) (.tmp 23) 49 rfl (w.heap.size + 1) 3 i0 _ 1 8 Try.underlying49 hi hzA hzB hzC rfl (by decide) (.slice A1 m c1) m ((L.map intCs).flatten) rfl HROW.out (some ⟨w3.heap.size, 0, none⟩) 1 1 [.int .i64 (k : Int)] rfl rfl (fun _ => ⟨_, rfl, World.news_of_block (cs := #[.int .i64 (k : Int)]) (t := 3) (fr := (0, 0)) HNEW.out⟩) (by simp [Value.oneCell']) (by unfold maxLen; omega) (by omega) hlx ?_; intro v5 w5 hown hgr _; obtain ⟨A5, c5, rfl, ho5⟩ := i_snoc HLM.out hown; have HGR := Lib.hid hgr; have HO5 := Lib.hid ho5; clear hown hgr ho5)
          have HB5 := Lib.hid ((HB3.out.trans (HX0.out.mono HB3.out.size)).grown HGR.out (by simp; omega) (fun q hq => Nat.le_of_not_lt fun h9 => ne_own (n := m) HOX.out (idx := q) (.inl (by omega)) hq.symm))
          have HK5 := Lib.hid ((HGR.out.block w.heap.size (by simp; omega) (ne_own HOX.out (.inl (by omega)))).trans ((HX0.out.block w.heap.size (lt_blk HK3.out)).trans HK3.out))
          go_roundw
          case rel => exact ⟨k + 1, m + 1, A5, c5, L ++ [(k : Int)], by omega, by go_num, rfl, HL1, HM1, by omega, HO5, HB5.out, HK5.out⟩
          case measure => simp [intOf]; omega
      · have hkn : k = n := by omega
        subst hkn
        go_wp2_with fail
        refine (HG.out _ HB.out).mono ?_
        rintro e w2 ⟨rfl, hb2⟩
        have HB2 := Lib.hid (HB.out.trans (hb2.mono HB.out.size))
        have HK2 := Lib.hid ((hb2.block w.heap.size (lt_blk HK.out)).trans HK.out)
        have HO2 := Lib.hid (OwnI.wider (HO.out.since hb2 (Nat.le_refl _)) (Nat.le_refl _) hb2.size)
        have hlw2 := lt_blk HK2.out
        have k20 := cell_blk (i := 0) HK2.out rfl
        have k21 := cell_blk (i := 1) HK2.out rfl
        have k22 := cell_blk (i := 2) HK2.out rfl
        clear hb2
        go_wp2
        exact bodyPost_ret (v := .tuple #[.slice A1 m c1, .bool true]) (by simp [results, Try.results42, go_sem]) rfl (HEND.out w2 A1 c1 m L HLK.out HLM.out HO2.out HB2.out)

set_option maxRecDepth 100000 in
set_option maxHeartbeats 8000000 in
theorem implHoldersOf_any (tm : Int) (A A' : Option Addr) (n c n' c' : Nat) (is : List Int) (ls : List (Int × Int × Int)) (B : Nat) (w : World) (hn : is.length = n) (hn' : ls.length = n') (h : CksB w B A is) (h' : LesB w B A' ls) (hB : B ≤ w.heap.size) (hl' : n' ≤ 1048576) :
    Calls Try.prog 43 #[.agg #[.int .i64 tm, .slice A n c, .slice A' n' c']] w (HoPost (holdersW tm is ls) w) := by
  obtain ⟨i0, hi, hzA, hzB, hzC⟩ := info_parts infoInt
  have HB0 := Lib.hid (below1 w (.cells #[.int .i64 tm, .slice A n c, .slice A' n' c'] 31))
  have bK_0 := Lib.hid (heap_alloc_new w (.cells #[.int .i64 tm, .slice A n c, .slice A' n' c'] 31))
  have HG := Lib.hid (fun W (hW : Below w.heap.size w W) => implGoodWatch_any tm A A' n c n' c' is ls B W hn hn' (h.below (hW.mono hB)) (h'.below (hW.mono hB)) (Nat.le_trans hB hW.size))
  cases g1 : wchB tm is ls with
  | false =>
    rw [g1] at HG
    rw [show holdersW tm is ls = ([], false) by simp [holdersW, g1]]
    clear h h' hn hn' g1
    go_enter Try.func43, Try.ntmps43
    go_wp2_with fail
    refine (HG.out _ HB0.out).mono ?_
    rintro e w1 ⟨rfl, ha1⟩
    have HB1 := Lib.hid (HB0.out.trans (ha1.mono HB0.out.size))
    have bK_1 := Lib.hid ((ha1.block (w.heap.size) (lt_blk bK_0.out)).trans bK_0.out)
    have hz1 := ha1.size
    simp only [World.size_alloc] at hz1
    clear ha1
    go_wp2
    exact bodyPost_ret (v := .tuple #[.slice none 0 0, .bool false]) (by simp [results, Try.results43, go_sem]) rfl ⟨none, 0, rfl, .inl ⟨rfl, rfl, rfl⟩, HB1.out⟩
  | true =>
    rw [g1] at HG
    have gc5 := (wchB_true g1).2.1.2
    rw [hn] at gc5
    have hhh := (fun (k : Nat) (hk : k < n) W (hW : Below w.heap.size w W) => implHoldsLease_any tm A A' n c n' c' is ls (k : Int) B W hn hn' (h.below (hW.mono hB)) (h'.below (hW.mono hB)) (Nat.le_trans hB hW.size) hl')
    have hhw : ∀ k : Nat, k < n → holdsW tm is ls (k : Int) = (holdW (k : Int) (highW tm (offW is (k : Int))) ls, true) := fun k hk => by
      have h9 : hasW tm is ls (k : Int) = true := by { unfold hasW; rw [g1, hn, inB_mk (by omega)]; rfl }
      simp [holdsW, h9]
    have HHW := Lib.hid hhw
    have HH := Lib.hid hhh
    clear hhh hhw
    have HEND := Lib.hid (fun (W : World) (A1 : Option Addr) (c1 m : Nat) (L : List Int) (hL : L = holdersN tm is ls n) (hm : L.length = m) (ho : OwnI W (w.heap.size + 1) W.heap.size A1 c1 L) (hb : Below w.heap.size w W) => ho_end (w := w) (w' := W) (A := A1) (c := c1) (m := m) g1 (by rw [hn]; exact hL) hm ho hb)
    clear h h' hn hn' g1
    go_enter Try.func43, Try.ntmps43
    go_wp2_with fail
    refine (HG.out _ HB0.out).mono ?_
    rintro e w1 ⟨rfl, ha1⟩
    have HB1 := Lib.hid (HB0.out.trans (ha1.mono HB0.out.size))
    have bK_1 := Lib.hid ((ha1.block (w.heap.size) (lt_blk bK_0.out)).trans bK_0.out)
    have hz1 := ha1.size
    simp only [World.size_alloc] at hz1
    clear ha1
    have bK1c0 := cell_blk (i := 0) bK_1.out rfl
    have bK1f0 := free_blk bK_1.out 0
    have bK1c1 := cell_blk (i := 1) bK_1.out rfl
    have bK1f1 := free_blk bK_1.out 1
    have bK1c2 := cell_blk (i := 2) bK_1.out rfl
    have bK1f2 := free_blk bK_1.out 2
    have bK1l := lt_blk bK_1.out
    go_wp2
    clear bK1c0 bK1f0 bK1c1 bK1f1 bK1c2 bK1f2 bK1l
    go_loopw [4, 14] (fun v i wr => ∃ (k m : Nat) (A1 : Option Addr) (c1 : Nat) (L : List Int), k ≤ n ∧ i = .int .i64 k ∧ v = .slice A1 m c1 ∧ Hid (L = holdersN tm is ls k) ∧ Hid (L.length = m) ∧ m ≤ k ∧ Hid (OwnI wr (w.heap.size + 1) wr.heap.size A1 c1 L) ∧ Hid (Below w.heap.size w wr) ∧ Hid (wr.heap[w.heap.size]? = some (.cells #[.int .i64 tm, .slice A n c, .slice A' n' c'] 31 (0, 0)))) (fun _ i _ => n - (intOf i).toNat)
    case atStart => exact ⟨0, 0, none, 0, [], by omega, rfl, rfl, Lib.hid holders_zero.symm, Lib.hid rfl, by omega, Lib.hid (.inl ⟨rfl, rfl, rfl⟩), HB1.out, bK_1.out⟩
    case round =>
      obtain ⟨k, m, A1, c1, L, hk, rfl, rfl, HLK, HLM, hmk, HO, HB, HK⟩ := hrel
      have k0 := cell_blk (i := 0) HK.out rfl
      have k1 := cell_blk (i := 1) HK.out rfl
      have k2 := cell_blk (i := 2) HK.out rfl
      have hlw := lt_blk HK.out
      have hnc : (n : Int) ≤ 5 := by omega
      by_cases hlt : k < n
      · have hkn : (k : Int) < (n : Int) := by omega
        have hk0 : (0 : Int) ≤ (k : Int) := by omega
        have HHk := Lib.hid (HH.out k hlt)
        rw [HHW.out k hlt] at HHk
        obtain ⟨hv, hhv⟩ : ∃ hv, hv = holdW (k : Int) (highW tm (offW is (k : Int))) ls := ⟨_, rfl⟩
        have HV := Lib.hid hhv.symm
        rw [← hhv] at HHk
        clear hhv
        cases hv with
        | false =>
          have HL1 := Lib.hid (show L = holdersN tm is ls (k + 1) by rw [holders_no HV.out]; exact HLK.out)
          go_wp2_with fail
          refine (HHk.out _ HB.out).mono ?_
          rintro e w3 ⟨rfl, hb3⟩
          have HB3 := Lib.hid (HB.out.trans (hb3.mono HB.out.size))
          have HK3 := Lib.hid ((hb3.block w.heap.size (lt_blk HK.out)).trans HK.out)
          have HO3 := Lib.hid (OwnI.wider (HO.out.since hb3 (Nat.le_refl _)) (Nat.le_refl _) hb3.size)
          have hlw3 := lt_blk HK3.out
          have k30 := cell_blk (i := 0) HK3.out rfl
          have k31 := cell_blk (i := 1) HK3.out rfl
          have k32 := cell_blk (i := 2) HK3.out rfl
          clear hb3
          go_wp2
          go_roundw
          case rel => exact ⟨k + 1, m, A1, c1, L, by omega, by go_num, rfl, HL1, HLM, by omega, HO3, HB3.out, HK3.out⟩
          case measure => simp [intOf]; omega
        | true =>
          have HL1 := Lib.hid (show L ++ [(k : Int)] = holdersN tm is ls (k + 1) by rw [holders_yes HV.out, ← HLK.out])
          have HM1 := Lib.hid (show (L ++ [(k : Int)]).length = m + 1 by rw [List.length_append, HLM.out]; rfl)
          go_wp2_with fail
          refine (HHk.out _ HB.out).mono ?_
          rintro e w3 ⟨rfl, hb3⟩
          have HB3 := Lib.hid (HB.out.trans (hb3.mono HB.out.size))
          have HK3 := Lib.hid ((hb3.block w.heap.size (lt_blk HK.out)).trans HK.out)
          have HO3 := Lib.hid (OwnI.wider (HO.out.since hb3 (Nat.le_refl _)) (Nat.le_refl _) hb3.size)
          have hlw3 := lt_blk HK3.out
          have k30 := cell_blk (i := 0) HK3.out rfl
          have k31 := cell_blk (i := 1) HK3.out rfl
          have k32 := cell_blk (i := 2) HK3.out rfl
          clear hb3
          have HX0 := Lib.hid (below1 w3 (.cells #[.int .i64 (k : Int)] 3))
          have HNEW := Lib.hid (heap_alloc_new w3 (.cells #[.int .i64 (k : Int)] 3))
          have HOX := Lib.hid (HO3.out.since HX0.out (Nat.le_refl _))
          have HROW := Lib.hid (i_row HOX.out HLM.out)
          have hb0 := HB3.out.size
          have hlx : w.heap.size + 1 ≤ (w3.alloc (.cells #[.int .i64 (k : Int)] 3)).heap.size := by simp; omega
          go_wp2_with (at_builtin; refine wpList_app rfl (.tmp 24) (.tmp 26) 49 rfl (w.heap.size + 1) 3 i0 _ 1 8 Try.underlying49 hi hzA hzB hzC rfl (by decide) (.slice A1 m c1) m ((L.map intCs).flatten) rfl HROW.out (some ⟨w3.heap.size, 0, none⟩) 1 1 [.int .i64 (k : Int)] rfl rfl (fun _ => ⟨_, rfl, World.news_of_block (cs := #[.int .i64 (k : Int)]) (t := 3) (fr := (0, 0)) HNEW.out⟩) (by simp [Value.oneCell']) (by unfold maxLen; omega) (by omega) hlx ?_; intro v5 w5 hown hgr _; obtain ⟨A5, c5, rfl, ho5⟩ := i_snoc HLM.out hown; have HGR := Lib.hid hgr; have HO5 := Lib.hid ho5; clear hown hgr ho5)
          have HB5 := Lib.hid ((HB3.out.trans (HX0.out.mono HB3.out.size)).grown HGR.out (by simp; omega) (fun q hq => Nat.le_of_not_lt fun h9 => ne_own (n := m) HOX.out (idx := q) (.inl (by omega)) hq.symm))
          have HK5 := Lib.hid ((HGR.out.block w.heap.size (by simp; omega) (ne_own HOX.out (.inl (by omega)))).trans ((HX0.out.block w.heap.size (lt_blk HK3.out)).trans HK3.out))
          go_roundw
          case rel => exact ⟨k + 1, m + 1, A5, c5, L ++ [(k : Int)], by omega, by go_num, rfl, HL1, HM1, by omega, HO5, HB5.out, HK5.out⟩
          case measure => simp [intOf]; omega
      · have hkn : k = n := by omega
        subst hkn
        go_wp2
        exact bodyPost_ret (v := .tuple #[.slice A1 m c1, .bool true]) (by simp [results, Try.results43, go_sem]) rfl (HEND.out wr A1 c1 m L HLK.out HLM.out HO.out HB.out)
end Go.Proofs.Ytoanigbjdfgjcaa.Wt
