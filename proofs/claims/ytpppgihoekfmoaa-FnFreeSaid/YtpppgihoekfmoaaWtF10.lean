/-
  PlayWatch, of the model and of the program.
-/
import Derived.Test.YtpppgihoekfmoaaWtF9
import Derived.Deep.RegionHeld3
import Derived.Deep.DeepCutAuto
import Derived.Deep.QuietTactic
namespace Go.Proofs.Ytpppgihoekfmoaa.Wt
open Go.RowKit
set_option linter.unusedVariables false
set_option linter.unusedSimpArgs false

theorem kept6W {W w' : World} {g b o1 : Nat} {v0 v1 v2 v3 v4 v5 : Value} (hb : Below W.heap.size W w') (y : W.cell? ⟨g, 0, none⟩ = some v0 ∧ W.cell? ⟨g, 1, none⟩ = some v1 ∧ W.cell? ⟨g, 2, none⟩ = some v2 ∧ W.cell? ⟨b, o1, none⟩ = some v3 ∧ W.cell? ⟨b, o1 + 1, none⟩ = some v4 ∧ W.cell? ⟨b, o1 + 2, none⟩ = some v5) (hlg : g < W.heap.size) (hlb : b < W.heap.size) : w'.cell? ⟨g, 0, none⟩ = some v0 ∧ w'.cell? ⟨g, 1, none⟩ = some v1 ∧ w'.cell? ⟨g, 2, none⟩ = some v2 ∧ w'.cell? ⟨b, o1, none⟩ = some v3 ∧ w'.cell? ⟨b, o1 + 1, none⟩ = some v4 ∧ w'.cell? ⟨b, o1 + 2, none⟩ = some v5 :=
  ⟨kept2 hb y.1 hlg, kept2 hb y.2.1 hlg, kept2 hb y.2.2.1 hlg, kept2 hb y.2.2.2.1 hlb, kept2 hb y.2.2.2.2.1 hlb, kept2 hb y.2.2.2.2.2 hlb⟩
theorem put6W {w : World} {s g b o1 : Nat} {p q r v0 v1 v2 v3 v4 v5 : Value} (hne : g ≠ s) (hneb : b ≠ s) (y : w.cell? ⟨g, 0, none⟩ = some v0 ∧ w.cell? ⟨g, 1, none⟩ = some v1 ∧ w.cell? ⟨g, 2, none⟩ = some v2 ∧ w.cell? ⟨b, o1, none⟩ = some v3 ∧ w.cell? ⟨b, o1 + 1, none⟩ = some v4 ∧ w.cell? ⟨b, o1 + 2, none⟩ = some v5) : (((w.setCell ⟨s, 0, none⟩ p).setCell ⟨s, 1, none⟩ q).setCell ⟨s, 2, none⟩ r).cell? ⟨g, 0, none⟩ = some v0 ∧ (((w.setCell ⟨s, 0, none⟩ p).setCell ⟨s, 1, none⟩ q).setCell ⟨s, 2, none⟩ r).cell? ⟨g, 1, none⟩ = some v1 ∧ (((w.setCell ⟨s, 0, none⟩ p).setCell ⟨s, 1, none⟩ q).setCell ⟨s, 2, none⟩ r).cell? ⟨g, 2, none⟩ = some v2 ∧ (((w.setCell ⟨s, 0, none⟩ p).setCell ⟨s, 1, none⟩ q).setCell ⟨s, 2, none⟩ r).cell? ⟨b, o1, none⟩ = some v3 ∧ (((w.setCell ⟨s, 0, none⟩ p).setCell ⟨s, 1, none⟩ q).setCell ⟨s, 2, none⟩ r).cell? ⟨b, o1 + 1, none⟩ = some v4 ∧ (((w.setCell ⟨s, 0, none⟩ p).setCell ⟨s, 1, none⟩ q).setCell ⟨s, 2, none⟩ r).cell? ⟨b, o1 + 2, none⟩ = some v5 :=
  ⟨(put3_cell hne).trans y.1, (put3_cell hne).trans y.2.1, (put3_cell hne).trans y.2.2.1, (put3_cell hneb).trans y.2.2.2.1, (put3_cell hneb).trans y.2.2.2.2.1, (put3_cell hneb).trans y.2.2.2.2.2⟩
/-- What a round of PlayWatch keeps: the watch so far lies in block q, its rows are the call's own. -/
def PlayI (w : World) (q : Nat) (s : Int × List Int × List (Int × Int × Int)) (W : World) (A1 A2 : Option Addr) (c1 c2 n1 n2 : Nat) : Prop :=
  s.2.1.length = n1 ∧ s.2.2.length = n2 ∧ OwnCk W (w.heap.size + 1 + 1) W.heap.size A1 c1 s.2.1 ∧ OwnLe W (w.heap.size + 1 + 1) W.heap.size A2 c2 s.2.2 ∧ Below w.heap.size w W ∧ W.heap[w.heap.size + 1]? = some (.cells #[.int .i64 0, .slice none 0 0, .slice none 0 0] 30 (0, 0)) ∧ w.heap.size + 1 < q ∧ W.heap[q]? = some (.cells #[.int .i64 s.1, .slice A1 n1 c1, .slice A2 n2 c2] 30 (0, 0))
theorem PlayI.keep {w W W' : World} {q : Nat} {s : Int × List Int × List (Int × Int × Int)} {A1 A2 : Option Addr} {c1 c2 n1 n2 : Nat} (h : PlayI w q s W A1 A2 c1 c2 n1 n2) (hb : Below W.heap.size W W') : PlayI w q s W' A1 A2 c1 c2 n1 n2 := by
  obtain ⟨h1, h2, h3, h4, h5, h6, h7, h8⟩ := h
  exact ⟨h1, h2, (h3.since hb (Nat.le_refl _)).wider (Nat.le_refl _) hb.size, (h4.since hb (Nat.le_refl _)).wider (Nat.le_refl _) hb.size, h5.trans (hb.mono h5.size), (hb.block _ (lt_blk h6)).trans h6, h7, (hb.block _ (lt_blk h8)).trans h8⟩
theorem PlayI.set {w W : World} {q : Nat} {s s' : Int × List Int × List (Int × Int × Int)} {A1 A2 A3 A4 : Option Addr} {c1 c2 c3 c4 n1 n2 n3 n4 lo : Nat} (h : PlayI w q s W A1 A2 c1 c2 n1 n2) (hlo : w.heap.size + 1 + 1 ≤ lo) (hi : OwnCk W lo W.heap.size A3 c3 s'.2.1) (hl : OwnLe W lo W.heap.size A4 c4 s'.2.2) (e1 : s'.2.1.length = n3) (e2 : s'.2.2.length = n4) :
    PlayI w q s' (((W.setCell ⟨q, 0, none⟩ (.int .i64 s'.1)).setCell ⟨q, 1, none⟩ (.slice A3 n3 c3)).setCell ⟨q, 2, none⟩ (.slice A4 n4 c4)) A3 A4 c3 c4 n3 n4 := by
  obtain ⟨h1, h2, h3, h4, h5, h6, h7, h8⟩ := h
  have b1 := set_blkW (i := 0) (v := .int .i64 s'.1) h8
  have b2 := set_blkW (i := 1) (v := .slice A3 n3 c3) b1
  have b3 := set_blkW (i := 2) (v := .slice A4 n4 c4) b2
  refine ⟨e1, e2, ?_, ?_, ?_, ?_, h7, b3⟩
  · have g1 := Own.otherT (p := ⟨q, 0, none⟩) hi h8 (by decide) (.int .i64 s'.1)
    have g2 := Own.otherT (p := ⟨q, 1, none⟩) g1 b1 (by decide) (.slice A3 n3 c3)
    have g3 := Own.otherT (p := ⟨q, 2, none⟩) g2 b2 (by decide) (.slice A4 n4 c4)
    exact Own.wider g3 hlo (by simp [World.setCell])
  · have g1 := Own.otherT (p := ⟨q, 0, none⟩) hl h8 (by decide) (.int .i64 s'.1)
    have g2 := Own.otherT (p := ⟨q, 1, none⟩) g1 b1 (by decide) (.slice A3 n3 c3)
    have g3 := Own.otherT (p := ⟨q, 2, none⟩) g2 b2 (by decide) (.slice A4 n4 c4)
    exact Own.wider g3 hlo (by simp [World.setCell])
  · exact bel_put3 h5 (by omega)
  · exact (Below.heap_setCell _ _ _ _ (by simp only []; omega)).trans ((Below.heap_setCell _ _ _ _ (by simp only []; omega)).trans ((Below.heap_setCell _ _ _ _ (by simp only []; omega)).trans h6))
theorem next_yes {s : Int × List Int × List (Int × Int × Int)} {a : (Int × Int × Int)} {an : Int} {ai : List Int} {al : List (Int × Int × Int)} (h : doW s.1 s.2.1 s.2.2 a = (an, ai, al, true)) : nextW s a = (an, ai, al) := by simp [nextW, h]
theorem next_no {s : Int × List Int × List (Int × Int × Int)} {a : (Int × Int × Int)} {an : Int} {ai : List Int} {al : List (Int × Int × Int)} (h : doW s.1 s.2.1 s.2.2 a = (an, ai, al, false)) : nextW s a = s := by simp [nextW, h]
theorem play_step {s0 : Int × List Int × List (Int × Int × Int)} {acts : List (Int × Int × Int)} {k : Nat} (hk : k < acts.length) : (acts.take (k + 1)).foldl nextW s0 = nextW ((acts.take k).foldl nextW s0) acts[k] := by
  rw [List.take_succ_eq_append_getElem hk, List.foldl_append]
  rfl
theorem play_end {tm : Int} {is : List Int} {ls acts : List (Int × Int × Int)} {w W : World} {q : Nat} {s : Int × List Int × List (Int × Int × Int)} {A1 A2 : Option Addr} {c1 c2 n1 n2 : Nat} (hw : wchB tm is ls = true) (hl : acts.length ≤ 100) (hs : s = acts.foldl nextW (tm, is, ls)) (h : PlayI w q s W A1 A2 c1 c2 n1 n2) (v0 v1 v2 : Value) :
    WAPost (playW tm is ls acts) w (.returned (.tuple #[.agg #[.int .i64 s.1, .slice A1 n1 c1, .slice A2 n2 c2], .bool true])) (((W.setCell ⟨w.heap.size + 1, 0, none⟩ v0).setCell ⟨w.heap.size + 1, 1, none⟩ v1).setCell ⟨w.heap.size + 1, 2, none⟩ v2) := by
  have e : playW tm is ls acts = (s.1, s.2.1, s.2.2, true) := by simp [playW, hw, hl, hs]
  rw [e]
  obtain ⟨h1, h2, h3, h4, h5, h6, h7, h8⟩ := h
  exact yesW_post h1 h2 ((OwnCk.put3 h3 (by omega)).wider (by omega) (by simp [World.setCell])) ((OwnLe.put3 h4 (by omega)).wider (by omega) (by simp [World.setCell])) (bel_put3 h5 (by omega))

set_option maxRecDepth 100000 in
set_option maxHeartbeats 8000000 in
theorem specPlayWatch_any (tm : Int) (A A' : Option Addr) (n c n' c' : Nat) (is : List Int) (ls : List (Int × Int × Int))  (AA : Option Addr) (na ca : Nat) (acts : List (Int × Int × Int)) (B : Nat) (w : World) (hn : is.length = n) (hn' : ls.length = n') (h : CksB w B A is) (h' : LesB w B A' ls) (hB : B ≤ w.heap.size) (hna : acts.length = na) (hA : LesB w B AA acts) (hnm : na ≤ maxLen) :
    Calls Try.prog 12 #[.agg #[.int .i64 tm, .slice A n c, .slice A' n' c'], .slice AA na ca] w (WAPost (playW tm is ls acts) w) := by
  have HB0 := Lib.hid (below2 w (.cells #[.int .i64 tm, .slice A n c, .slice A' n' c'] 30) (.cells #[.int .i64 0, .slice none 0 0, .slice none 0 0] 30))
  have bK_0 := Lib.hid (((below1 (w.alloc (.cells #[.int .i64 tm, .slice A n c, .slice A' n' c'] 30)) (.cells #[.int .i64 0, .slice none 0 0, .slice none 0 0] 30)).block w.heap.size (by simp)).trans (heap_alloc_new w (.cells #[.int .i64 tm, .slice A n c, .slice A' n' c'] 30)))
  have bR_0 := Lib.hid (alloc_snd w (.cells #[.int .i64 tm, .slice A n c, .slice A' n' c'] 30) (.cells #[.int .i64 0, .slice none 0 0, .slice none 0 0] 30))
  unfold maxLen at hnm
  have HG := Lib.hid (fun W (hW : Below w.heap.size w W) => l10Good_any tm A A' n c n' c' is ls B W hn hn' (h.below (hW.mono hB)) (h'.below (hW.mono hB)) (Nat.le_trans hB hW.size))
  cases g1 : wchB tm is ls with
  | false =>
    rw [show playW tm is ls acts = noW by simp [playW, g1]]
    rw [g1] at HG
    clear g1
    clear h h' hA hn hn' hna
    go_enter Try.func12, Try.ntmps12
    go_wp2_with fail
    refine (HG.out _ HB0.out).mono ?_
    rintro e w1 ⟨rfl, ha1⟩
    have HB1 := Lib.hid (HB0.out.trans (ha1.mono HB0.out.size))
    have bK_1 := Lib.hid ((ha1.block (w.heap.size) (lt_blk bK_0.out)).trans bK_0.out)
    have bR_1 := Lib.hid ((ha1.block (w.heap.size + 1) (lt_blk bR_0.out)).trans bR_0.out)
    have hz1 := ha1.size
    simp only [World.size_alloc] at hz1
    clear ha1
    have bK1c0 := cell_blk (i := 0) bK_1.out rfl
    have bK1f0 := free_blk bK_1.out 0
    have bK1c1 := cell_blk (i := 1) bK_1.out rfl
    have bK1f1 := free_blk bK_1.out 1
    have bK1c2 := cell_blk (i := 2) bK_1.out rfl
    have bK1f2 := free_blk bK_1.out 2
    have bK1l := lt_blk bK_1.out
    have bR1c0 := cell_blk (i := 0) bR_1.out rfl
    have bR1f0 := free_blk bR_1.out 0
    have bR1c1 := cell_blk (i := 1) bR_1.out rfl
    have bR1f1 := free_blk bR_1.out 1
    have bR1c2 := cell_blk (i := 2) bR_1.out rfl
    have bR1f2 := free_blk bR_1.out 2
    have bR1l := lt_blk bR_1.out
    go_wp2
    exact bodyPost_ret (v := .tuple #[.agg #[.int .i64 0, .slice none 0 0, .slice none 0 0], .bool false]) (by simp [results, Try.results12, go_sem, bR1c0, bR1f0, bR1c1, bR1f1, bR1c2, bR1f2]) rfl (noW_post (bel_put3 HB1.out (by omega)))
  | true =>
    by_cases h100 : na ≤ 100
    · rw [g1] at HG
      have gl := (wchB_true g1).2.2.1
      rw [hn'] at gl
      have gc5 := (wchB_true g1).2.1.2
      rw [hn] at gc5
      have h100i : (na : Int) ≤ 100 := by omega
      have HAA := Lib.hid hA
      have HNA := Lib.hid hna
      have HBB := Lib.hid hB
      have HN := Lib.hid hn
      have HN' := Lib.hid hn'
      have HEND := Lib.hid (fun (W : World) (q : Nat) (s : Int × List Int × List (Int × Int × Int)) (A1 A2 : Option Addr) (c1 c2 n1 n2 : Nat) (hs : s = acts.foldl nextW (tm, is, ls)) (hp : PlayI w q s W A1 A2 c1 c2 n1 n2) => play_end (w := w) (W := W) g1 (by omega) hs hp)
      have hcn := (fun W (hW : Below w.heap.size w W) => l10Own_any tm A A' n c n' c' is ls B W hn hn' (h.below (hW.mono hB)) (h'.below (hW.mono hB)) (Nat.le_trans hB hW.size) (by omega) (by omega))
      unfold WtV at hcn
      simp only [hn, hn'] at hcn
      have HCN := Lib.hid hcn
      clear hcn
      clear h h' hA hn hn' hna hnm g1 h100
      go_enter Try.func12, Try.ntmps12
      go_wp2_with fail
      refine (HG.out _ HB0.out).mono ?_
      rintro e w1 ⟨rfl, ha1⟩
      have HB1 := Lib.hid (HB0.out.trans (ha1.mono HB0.out.size))
      have bK_1 := Lib.hid ((ha1.block (w.heap.size) (lt_blk bK_0.out)).trans bK_0.out)
      have bR_1 := Lib.hid ((ha1.block (w.heap.size + 1) (lt_blk bR_0.out)).trans bR_0.out)
      have hz1 := ha1.size
      simp only [World.size_alloc] at hz1
      clear ha1
      have bK1c0 := cell_blk (i := 0) bK_1.out rfl
      have bK1f0 := free_blk bK_1.out 0
      have bK1c1 := cell_blk (i := 1) bK_1.out rfl
      have bK1f1 := free_blk bK_1.out 1
      have bK1c2 := cell_blk (i := 2) bK_1.out rfl
      have bK1f2 := free_blk bK_1.out 2
      have bK1l := lt_blk bK_1.out
      go_wp2_with fail
      refine (HCN.out _ HB1.out).mono ?_
      rintro e w2 ⟨A1, c1, A2, c2, rfl, hoi, hol, ha2⟩
      clear bK1c0 bK1f0 bK1c1 bK1f1 bK1c2 bK1f2 bK1l
      have HB2 := Lib.hid (HB1.out.trans (ha2.mono HB1.out.size))
      have bK_2 := Lib.hid ((ha2.block (w.heap.size) (lt_blk bK_1.out)).trans bK_1.out)
      have bR_2 := Lib.hid ((ha2.block (w.heap.size + 1) (lt_blk bR_1.out)).trans bR_1.out)
      have hz2 := ha2.size
      clear ha2
      try simp only [World.size_alloc] at hoi
      have oI_2 := Lib.hid hoi
      clear hoi
      try simp only [World.size_alloc] at hol
      have oL_2 := Lib.hid hol
      clear hol
      have bK2c0 := cell_blk (i := 0) bK_2.out rfl
      have bK2f0 := free_blk bK_2.out 0
      have bK2c1 := cell_blk (i := 1) bK_2.out rfl
      have bK2f1 := free_blk bK_2.out 1
      have bK2c2 := cell_blk (i := 2) bK_2.out rfl
      have bK2f2 := free_blk bK_2.out 2
      have bK2l := lt_blk bK_2.out
      have bR2c0 := cell_blk (i := 0) bR_2.out rfl
      have bR2f0 := free_blk bR_2.out 0
      have bR2c1 := cell_blk (i := 1) bR_2.out rfl
      have bR2f1 := free_blk bR_2.out 1
      have bR2c2 := cell_blk (i := 2) bR_2.out rfl
      have bR2f2 := free_blk bR_2.out 2
      have bR2l := lt_blk bR_2.out
      go_upto_region 4 with fail
      obtain ⟨V2, hV2⟩ : ∃ V2, V2 = w2.alloc (.cells #[.int .i64 tm, .slice A1 n c1, .slice A2 n' c2] 30) := ⟨_, rfl⟩
      have haV2 := below1 w2 (.cells #[.int .i64 tm, .slice A1 n c1, .slice A2 n' c2] 30)
      have hnV2 := heap_alloc_new w2 (.cells #[.int .i64 tm, .slice A1 n c1, .slice A2 n' c2] 30)
      rw [← hV2] at haV2 hnV2 ⊢
      have hsVa2 : V2.heap.size ≤ w2.heap.size + 1 := by rw [hV2]; simp
      have hsVb2 : w2.heap.size + 1 ≤ V2.heap.size := by rw [hV2]; simp
      clear bK2c0 bK2f0 bK2c1 bK2f1 bK2c2 bK2f2 bK2l bR2c0 bR2f0 bR2c1 bR2f1 bR2c2 bR2f2 bR2l
      have HBV2 := Lib.hid (HB2.out.trans (haV2.mono HB2.out.size))
      have bK_V2 := Lib.hid ((haV2.block (w.heap.size) (lt_blk bK_2.out)).trans bK_2.out)
      have bR_V2 := Lib.hid ((haV2.block (w.heap.size + 1) (lt_blk bR_2.out)).trans bR_2.out)
      have oI_V2 := Lib.hid (oI_2.out.since haV2 (by omega))
      have oL_V2 := Lib.hid (oL_2.out.since haV2 (by omega))
      have hzV2 := haV2.size
      have bQ_V2 := Lib.hid hnV2
      clear hV2 haV2 hnV2
      have HP0 := Lib.hid (show PlayI w w2.heap.size (tm, is, ls) V2 A1 A2 c1 c2 n n' from ⟨HN.out, HN'.out, oI_V2.out.wider (by omega) (by omega), oL_V2.out.wider (by omega) (by omega), HBV2.out, bR_V2.out, by omega, bQ_V2.out⟩)
      have bQV2c0 := cell_blk (i := 0) bQ_V2.out rfl
      have bQV2f0 := free_blk bQ_V2.out 0
      have bQV2c1 := cell_blk (i := 1) bQ_V2.out rfl
      have bQV2f1 := free_blk bQ_V2.out 1
      have bQV2c2 := cell_blk (i := 2) bQ_V2.out rfl
      have bQV2f2 := free_blk bQ_V2.out 2
      have bQV2l := lt_blk bQ_V2.out
      have bRV2c0 := cell_blk (i := 0) bR_V2.out rfl
      have bRV2f0 := free_blk bR_V2.out 0
      have bRV2c1 := cell_blk (i := 1) bR_V2.out rfl
      have bRV2f1 := free_blk bR_V2.out 1
      have bRV2c2 := cell_blk (i := 2) bR_V2.out rfl
      have bRV2f2 := free_blk bR_V2.out 2
      have bRV2l := lt_blk bR_V2.out
      go_wp2
      clear bQV2c0 bQV2f0 bQV2c1 bQV2f1 bQV2c2 bQV2f2 bQV2l bRV2c0 bRV2f0 bRV2c1 bRV2f1 bRV2c2 bRV2f2 bRV2l
      go_loopw [7] (fun i wr => ∃ (k : Nat) (s : Int × List Int × List (Int × Int × Int)) (A1 A2 : Option Addr) (c1 c2 n1 n2 : Nat), k ≤ na ∧ i = .int .i64 k ∧ Hid (s = (acts.take k).foldl nextW (tm, is, ls)) ∧ Hid (PlayI w w2.heap.size s wr A1 A2 c1 c2 n1 n2)) (fun i _ => na - (intOf i).toNat)
      case atStart => exact ⟨0, (tm, is, ls), A1, A2, c1, c2, n, n', by omega, rfl, Lib.hid rfl, HP0⟩
      case round =>
        clear HP0 HB0 bK_0 bR_0 HB1 bK_1 bR_1 HB2 bK_2 bR_2 oI_2 oL_2 HBV2 bK_V2 bR_V2 oI_V2 oL_V2 bQ_V2
        obtain ⟨k, ⟨st, si, sl⟩, A3, A4, c3, c4, n3, n4, hk, rfl, HSK, HP⟩ := hrel
        have hbw := HP.out.2.2.2.2.1
        have hq := HP.out.2.2.2.2.2.2.2
        have hr := HP.out.2.2.2.2.2.2.1
        have hrb := HP.out.2.2.2.2.2.1
        have e3 := HP.out.1
        have e4 := HP.out.2.1
        simp only at hq e3 e4
        have q0 := cell_blk (i := 0) hq rfl
        have q1 := cell_blk (i := 1) hq rfl
        have q2 := cell_blk (i := 2) hq rfl
        have f0 := free_blk hq 0
        have f1 := free_blk hq 1
        have f2 := free_blk hq 2
        have hlq := lt_blk hq
        by_cases hlt : k < na
        · obtain ⟨b, off, rfl, hbB, hc⟩ := HAA.out.get (by have := HNA.out; omega)
          obtain ⟨hc0, hc1, hc2⟩ := hc k (by have := HNA.out; omega)
          have hbw2 : b < w.heap.size := Nat.lt_of_lt_of_le hbB HBB.out
          have c0 := (hbw.cell (p := ⟨b, off + k * 3, none⟩) hbw2).trans hc0
          have c1x := (hbw.cell (p := ⟨b, off + k * 3 + 1, none⟩) hbw2).trans hc1
          have c2x := (hbw.cell (p := ⟨b, off + k * 3 + 2, none⟩) hbw2).trans hc2
          have HST := Lib.hid (play_step (s0 := (tm, is, ls)) (show k < acts.length by have := HNA.out; omega))
          obtain ⟨y, hy⟩ : ∃ y, y = acts[k]'(by have := HNA.out; omega) := ⟨_, rfl⟩
          rw [← hy] at c0 c1x c2x HST
          obtain ⟨s0, s1, s2⟩ := y
          simp only at c0 c1x c2x
          have hk0 : (0 : Int) ≤ (k : Int) := by omega
          have hkn : (k : Int) < (na : Int) := by omega
          have hbr : b < wr.heap.size := Nat.lt_of_lt_of_le hbw2 hbw.size
          have hf := fun (W : World) (hW : Below wr.heap.size wr W) => specDo_any st A3 A4 n3 c3 n4 c4 si sl s0 s1 s2 W.heap.size W e3 e4 (((HP.out.keep hW).2.2.1).cks) (((HP.out.keep hW).2.2.2.1).les) (Nat.le_refl _)
          obtain ⟨⟨an, ai, al, ok⟩, hr9⟩ : ∃ r, r = doW st si sl (s0, s1, s2) := ⟨_, rfl⟩
          simp only [← hr9] at hf
          simp only [WAPost_un] at hf
          have HF := Lib.hid hf
          have HNY := Lib.hid (fun (ho : ok = true) => show (an, ai, al) = (acts.take (k + 1)).foldl nextW (tm, is, ls) from by rw [HST.out, ← HSK.out]; subst ho; exact (next_yes (s := (st, si, sl)) hr9.symm).symm)
          have HYtpppgihoekfmoaa := Lib.hid (fun (ho : ok = false) => show (st, si, sl) = (acts.take (k + 1)).foldl nextW (tm, is, ls) from by rw [HST.out, ← HSK.out]; subst ho; exact (next_no (s := (st, si, sl)) hr9.symm).symm)
          have hsz0 : w.heap.size + 1 + 1 ≤ wr.heap.size := by omega
          clear hf hr9 hc hc0 hc1 hc2 hy
          have HK3 : wr.cell? ⟨w2.heap.size, 0, none⟩ = some (.int .i64 st) ∧ wr.cell? ⟨w2.heap.size, 1, none⟩ = some (.slice A3 n3 c3) ∧ wr.cell? ⟨w2.heap.size, 2, none⟩ = some (.slice A4 n4 c4) ∧ wr.cell? ⟨b, off + k * 3, none⟩ = some (.int .i64 s0) ∧ wr.cell? ⟨b, off + k * 3 + 1, none⟩ = some (.int .i64 s1) ∧ wr.cell? ⟨b, off + k * 3 + 2, none⟩ = some (.int .i64 s2) := ⟨q0, q1, q2, c0, c1x, c2x⟩
          have HS0 : wr.drew.cell? ⟨w2.heap.size, 0, none⟩ = some (.int .i64 st) ∧ wr.drew.cell? ⟨w2.heap.size, 1, none⟩ = some (.slice A3 n3 c3) ∧ wr.drew.cell? ⟨w2.heap.size, 2, none⟩ = some (.slice A4 n4 c4) ∧ wr.drew.cell? ⟨b, off + k * 3, none⟩ = some (.int .i64 s0) ∧ wr.drew.cell? ⟨b, off + k * 3 + 1, none⟩ = some (.int .i64 s1) ∧ wr.drew.cell? ⟨b, off + k * 3 + 2, none⟩ = some (.int .i64 s2) := HK3
          have HQ := Lib.hid hq
          have hne : w2.heap.size ≠ wr.heap.size := by omega
          have hneb : b ≠ wr.heap.size := by omega
          have bS := heap_alloc_new wr (.cells #[.int .i64 0, .slice none 0 0, .slice none 0 0] 30)
          have HY := Lib.hid (cells3_of bS)
          have lS : wr.heap.size < (wr.alloc (.cells #[.int .i64 0, .slice none 0 0, .slice none 0 0] 30)).heap.size := by simp
          clear q0 q1 q2 c0 c1x c2x f0 f1 f2 bS hbw
          go_upto_region 7 with fail
          go_region_held3 (fun w' => w'.cell? ⟨w2.heap.size, 0, none⟩ = some (.int .i64 st) ∧ w'.cell? ⟨w2.heap.size, 1, none⟩ = some (.slice A3 n3 c3) ∧ w'.cell? ⟨w2.heap.size, 2, none⟩ = some (.slice A4 n4 c4) ∧ w'.cell? ⟨b, off + k * 3, none⟩ = some (.int .i64 s0) ∧ w'.cell? ⟨b, off + k * 3 + 1, none⟩ = some (.int .i64 s1) ∧ w'.cell? ⟨b, off + k * 3 + 2, none⟩ = some (.int .i64 s2))
            (first | with_reducible exact HS0 | with_reducible exact kept6W (bA wr _) HK3 hlq hbr | with_reducible exact kept6W hb4 HK3 hlq hbr | with_reducible exact kept6W (bC hb4 _) HK3 hlq hbr | with_reducible exact put6W hne hneb (kept6W hb4 HK3 hlq hbr))
            (first
              | ((go_at_call 29); (with_reducible refine (HF.out wr.drew (Below.refl _ _).drew).mono ?_); rintro e w4 ⟨A5, c5, A6, c6, rfl, ho5, ho6, hb4'⟩; have hb4 : Below wr.heap.size wr w4 := below_d0W hb4'; have hlo4 : w.heap.size + 1 + 1 ≤ wr.heap.size := hsz0; have hpn : True := trivial)
              | ((go_at_call 29); (refine (HF.out (wr.alloc (.cells #[.int .i64 0, .slice none 0 0, .slice none 0 0] 30)).drew (bA wr _)).mono ?_); rintro e w4 ⟨A5, c5, A6, c6, rfl, ho5, ho6, hb4'⟩; have hb5 : Below (wr.alloc (.cells #[.int .i64 0, .slice none 0 0, .slice none 0 0] 30)).heap.size (wr.alloc (.cells #[.int .i64 0, .slice none 0 0, .slice none 0 0] 30)) w4 := below_d0W hb4'; have hb4 : Below wr.heap.size wr w4 := (below1 wr (.cells #[.int .i64 0, .slice none 0 0, .slice none 0 0] 30)).trans (hb5.mono (below1 wr (.cells #[.int .i64 0, .slice none 0 0, .slice none 0 0] 30)).size); obtain ⟨y0, y1, y2, z0, z1, z2⟩ := HY.out.kept hb5 lS; have hlo4 : wr.heap.size + 1 ≤ w4.heap.size := by have := hb5.size; simpa using this)
              | fail)
          all_goals
            (have HB4 := Lib.hid hb4
             have HO5 := Lib.hid ho5
             have HO6 := Lib.hid ho6
             have hq4 := (hb4.block w2.heap.size hlq).trans HQ.out
             have g0 := cell_blk (i := 0) hq4 rfl
             have g1 := cell_blk (i := 1) hq4 rfl
             have g2 := cell_blk (i := 2) hq4 rfl
             have p0 := free_blk hq4 0
             have p1 := free_blk hq4 1
             have p2 := free_blk hq4 2
             have hlq4 := lt_blk hq4
             have hz4 := hb4.size
             clear hb4' ho5 ho6 hq4 HS0 HK3
             cases ok with
             | false =>
               go_wp2
               go_roundw
               case rel =>
                 refine ⟨k + 1, (st, si, sl), A3, A4, c3, c4, n3, n4, by omega, by go_num, Lib.hid (HYtpppgihoekfmoaa.out (by trivial)), ?_⟩
                 first
                   | exact Lib.hid ((HP.out.keep HB4.out).keep (below1 w4 (.cells #[.int .i64 an, .slice A5 ai.length c5, .slice A6 al.length c6] 30)))
                   | exact Lib.hid (HP.out.keep (bel_put3 HB4.out (Nat.le_refl _)))
               case measure => simp [intOf]; omega
             | true =>
               go_wp2
               go_roundw
               case rel =>
                 refine ⟨k + 1, (an, ai, al), A5, A6, c5, c6, ai.length, al.length, by omega, by go_num, Lib.hid (HNY.out (by trivial)), ?_⟩
                 first
                   | exact Lib.hid (((HP.out.keep HB4.out).set (s' := (an, ai, al)) (lo := wr.heap.size) (by omega) HO5.out HO6.out rfl rfl).keep (below1 _ (.cells #[.int .i64 an, .slice A5 ai.length c5, .slice A6 al.length c6] 30)))
                   | exact Lib.hid ((HP.out.keep (bel_put3 HB4.out (Nat.le_refl _))).set (s' := (an, ai, al)) (lo := wr.heap.size + 1) (by omega) ((OwnCk.put3 (HO5.out.wider (lo' := wr.heap.size + 1) (by simp) (Nat.le_refl _)) (by omega)).wider (by omega) (by simp [World.setCell])) ((OwnLe.put3 (HO6.out.wider (lo' := wr.heap.size + 1) (by simp) (Nat.le_refl _)) (by omega)).wider (by omega) (by simp [World.setCell])) rfl rfl)
               case measure => simp [intOf]; omega)
        · have HSE := Lib.hid (show (st, si, sl) = acts.foldl nextW (tm, is, ls) from by have := HSK.out; rw [List.take_of_length_le (by have := HNA.out; omega)] at this; exact this)
          have r0 := cell_blk (i := 0) hrb rfl
          have r1 := cell_blk (i := 1) hrb rfl
          have r2 := cell_blk (i := 2) hrb rfl
          have rf0 := free_blk hrb 0
          have rf1 := free_blk hrb 1
          have rf2 := free_blk hrb 2
          clear hbw hq hrb
          go_wp2
          exact bodyPost_ret (v := .tuple #[.agg #[.int .i64 st, .slice A3 n3 c3, .slice A4 n4 c4], .bool true]) (by simp [results, Try.results12, go_sem, r0, r1, r2, rf0, rf1, rf2]) rfl (HEND.out wr _ (st, si, sl) A3 A4 c3 c4 n3 n4 HSE.out HP.out _ _ _)
    · rw [show playW tm is ls acts = noW by simp only [playW]; rw [decide_eq_false (by omega)]; simp]
      rw [g1] at HG
      have h100i : (100 : Int) < (na : Int) := by omega
      clear g1 h100
      clear h h' hA hn hn' hna
      go_enter Try.func12, Try.ntmps12
      go_wp2_with fail
      refine (HG.out _ HB0.out).mono ?_
      rintro e w1 ⟨rfl, ha1⟩
      have HB1 := Lib.hid (HB0.out.trans (ha1.mono HB0.out.size))
      have bK_1 := Lib.hid ((ha1.block (w.heap.size) (lt_blk bK_0.out)).trans bK_0.out)
      have bR_1 := Lib.hid ((ha1.block (w.heap.size + 1) (lt_blk bR_0.out)).trans bR_0.out)
      have hz1 := ha1.size
      simp only [World.size_alloc] at hz1
      clear ha1
      have bK1c0 := cell_blk (i := 0) bK_1.out rfl
      have bK1f0 := free_blk bK_1.out 0
      have bK1c1 := cell_blk (i := 1) bK_1.out rfl
      have bK1f1 := free_blk bK_1.out 1
      have bK1c2 := cell_blk (i := 2) bK_1.out rfl
      have bK1f2 := free_blk bK_1.out 2
      have bK1l := lt_blk bK_1.out
      have bR1c0 := cell_blk (i := 0) bR_1.out rfl
      have bR1f0 := free_blk bR_1.out 0
      have bR1c1 := cell_blk (i := 1) bR_1.out rfl
      have bR1f1 := free_blk bR_1.out 1
      have bR1c2 := cell_blk (i := 2) bR_1.out rfl
      have bR1f2 := free_blk bR_1.out 2
      have bR1l := lt_blk bR_1.out
      go_wp2
      exact bodyPost_ret (v := .tuple #[.agg #[.int .i64 0, .slice none 0 0, .slice none 0 0], .bool false]) (by simp [results, Try.results12, go_sem, bR1c0, bR1f0, bR1c1, bR1f1, bR1c2, bR1f2]) rfl (noW_post (bel_put3 HB1.out (by omega)))

set_option maxRecDepth 100000 in
set_option maxHeartbeats 8000000 in
theorem implPlayWatch_any (tm : Int) (A A' : Option Addr) (n c n' c' : Nat) (is : List Int) (ls : List (Int × Int × Int))  (AA : Option Addr) (na ca : Nat) (acts : List (Int × Int × Int)) (B : Nat) (w : World) (hn : is.length = n) (hn' : ls.length = n') (h : CksB w B A is) (h' : LesB w B A' ls) (hB : B ≤ w.heap.size) (hna : acts.length = na) (hA : LesB w B AA acts) (hnm : na ≤ maxLen) :
    Calls Try.prog 11 #[.agg #[.int .i64 tm, .slice A n c, .slice A' n' c'], .slice AA na ca] w (WAPost (playW tm is ls acts) w) := by
  have HB0 := Lib.hid (below2 w (.cells #[.int .i64 tm, .slice A n c, .slice A' n' c'] 30) (.cells #[.int .i64 0, .slice none 0 0, .slice none 0 0] 30))
  have bK_0 := Lib.hid (((below1 (w.alloc (.cells #[.int .i64 tm, .slice A n c, .slice A' n' c'] 30)) (.cells #[.int .i64 0, .slice none 0 0, .slice none 0 0] 30)).block w.heap.size (by simp)).trans (heap_alloc_new w (.cells #[.int .i64 tm, .slice A n c, .slice A' n' c'] 30)))
  have bR_0 := Lib.hid (alloc_snd w (.cells #[.int .i64 tm, .slice A n c, .slice A' n' c'] 30) (.cells #[.int .i64 0, .slice none 0 0, .slice none 0 0] 30))
  unfold maxLen at hnm
  have HG := Lib.hid (fun W (hW : Below w.heap.size w W) => implGoodWatch_any tm A A' n c n' c' is ls B W hn hn' (h.below (hW.mono hB)) (h'.below (hW.mono hB)) (Nat.le_trans hB hW.size))
  cases g1 : wchB tm is ls with
  | false =>
    rw [show playW tm is ls acts = noW by simp [playW, g1]]
    rw [g1] at HG
    clear g1
    clear h h' hA hn hn' hna
    go_enter Try.func11, Try.ntmps11
    go_wp2_with fail
    refine (HG.out _ HB0.out).mono ?_
    rintro e w1 ⟨rfl, ha1⟩
    have HB1 := Lib.hid (HB0.out.trans (ha1.mono HB0.out.size))
    have bK_1 := Lib.hid ((ha1.block (w.heap.size) (lt_blk bK_0.out)).trans bK_0.out)
    have bR_1 := Lib.hid ((ha1.block (w.heap.size + 1) (lt_blk bR_0.out)).trans bR_0.out)
    have hz1 := ha1.size
    simp only [World.size_alloc] at hz1
    clear ha1
    have bK1c0 := cell_blk (i := 0) bK_1.out rfl
    have bK1f0 := free_blk bK_1.out 0
    have bK1c1 := cell_blk (i := 1) bK_1.out rfl
    have bK1f1 := free_blk bK_1.out 1
    have bK1c2 := cell_blk (i := 2) bK_1.out rfl
    have bK1f2 := free_blk bK_1.out 2
    have bK1l := lt_blk bK_1.out
    have bR1c0 := cell_blk (i := 0) bR_1.out rfl
    have bR1f0 := free_blk bR_1.out 0
    have bR1c1 := cell_blk (i := 1) bR_1.out rfl
    have bR1f1 := free_blk bR_1.out 1
    have bR1c2 := cell_blk (i := 2) bR_1.out rfl
    have bR1f2 := free_blk bR_1.out 2
    have bR1l := lt_blk bR_1.out
    go_wp2
    exact bodyPost_ret (v := .tuple #[.agg #[.int .i64 0, .slice none 0 0, .slice none 0 0], .bool false]) (by simp [results, Try.results11, go_sem, bR1c0, bR1f0, bR1c1, bR1f1, bR1c2, bR1f2]) rfl (noW_post (bel_put3 HB1.out (by omega)))
  | true =>
    by_cases h100 : na ≤ 100
    · rw [g1] at HG
      have gl := (wchB_true g1).2.2.1
      rw [hn'] at gl
      have gc5 := (wchB_true g1).2.1.2
      rw [hn] at gc5
      have h100i : (na : Int) ≤ 100 := by omega
      have HAA := Lib.hid hA
      have HNA := Lib.hid hna
      have HBB := Lib.hid hB
      have HN := Lib.hid hn
      have HN' := Lib.hid hn'
      have HEND := Lib.hid (fun (W : World) (q : Nat) (s : Int × List Int × List (Int × Int × Int)) (A1 A2 : Option Addr) (c1 c2 n1 n2 : Nat) (hs : s = acts.foldl nextW (tm, is, ls)) (hp : PlayI w q s W A1 A2 c1 c2 n1 n2) => play_end (w := w) (W := W) g1 (by omega) hs hp)
      have hcn := (fun W (hW : Below w.heap.size w W) => copyWatch_any tm A A' n c n' c' is ls B W hn hn' (h.below (hW.mono hB)) (h'.below (hW.mono hB)) (Nat.le_trans hB hW.size) (by omega) (by omega))
      unfold WtV at hcn
      simp only [hn, hn'] at hcn
      have HCN := Lib.hid hcn
      clear hcn
      clear h h' hA hn hn' hna hnm g1 h100
      go_enter Try.func11, Try.ntmps11
      go_wp2_with fail
      refine (HG.out _ HB0.out).mono ?_
      rintro e w1 ⟨rfl, ha1⟩
      have HB1 := Lib.hid (HB0.out.trans (ha1.mono HB0.out.size))
      have bK_1 := Lib.hid ((ha1.block (w.heap.size) (lt_blk bK_0.out)).trans bK_0.out)
      have bR_1 := Lib.hid ((ha1.block (w.heap.size + 1) (lt_blk bR_0.out)).trans bR_0.out)
      have hz1 := ha1.size
      simp only [World.size_alloc] at hz1
      clear ha1
      have bK1c0 := cell_blk (i := 0) bK_1.out rfl
      have bK1f0 := free_blk bK_1.out 0
      have bK1c1 := cell_blk (i := 1) bK_1.out rfl
      have bK1f1 := free_blk bK_1.out 1
      have bK1c2 := cell_blk (i := 2) bK_1.out rfl
      have bK1f2 := free_blk bK_1.out 2
      have bK1l := lt_blk bK_1.out
      go_wp2_with fail
      refine (HCN.out _ HB1.out).mono ?_
      rintro e w2 ⟨A1, c1, A2, c2, rfl, hoi, hol, ha2⟩
      clear bK1c0 bK1f0 bK1c1 bK1f1 bK1c2 bK1f2 bK1l
      have HB2 := Lib.hid (HB1.out.trans (ha2.mono HB1.out.size))
      have bK_2 := Lib.hid ((ha2.block (w.heap.size) (lt_blk bK_1.out)).trans bK_1.out)
      have bR_2 := Lib.hid ((ha2.block (w.heap.size + 1) (lt_blk bR_1.out)).trans bR_1.out)
      have hz2 := ha2.size
      clear ha2
      try simp only [World.size_alloc] at hoi
      have oI_2 := Lib.hid hoi
      clear hoi
      try simp only [World.size_alloc] at hol
      have oL_2 := Lib.hid hol
      clear hol
      have bK2c0 := cell_blk (i := 0) bK_2.out rfl
      have bK2f0 := free_blk bK_2.out 0
      have bK2c1 := cell_blk (i := 1) bK_2.out rfl
      have bK2f1 := free_blk bK_2.out 1
      have bK2c2 := cell_blk (i := 2) bK_2.out rfl
      have bK2f2 := free_blk bK_2.out 2
      have bK2l := lt_blk bK_2.out
      have bR2c0 := cell_blk (i := 0) bR_2.out rfl
      have bR2f0 := free_blk bR_2.out 0
      have bR2c1 := cell_blk (i := 1) bR_2.out rfl
      have bR2f1 := free_blk bR_2.out 1
      have bR2c2 := cell_blk (i := 2) bR_2.out rfl
      have bR2f2 := free_blk bR_2.out 2
      have bR2l := lt_blk bR_2.out
      go_upto_region 4 with fail
      obtain ⟨V2, hV2⟩ : ∃ V2, V2 = w2.alloc (.cells #[.int .i64 tm, .slice A1 n c1, .slice A2 n' c2] 30) := ⟨_, rfl⟩
      have haV2 := below1 w2 (.cells #[.int .i64 tm, .slice A1 n c1, .slice A2 n' c2] 30)
      have hnV2 := heap_alloc_new w2 (.cells #[.int .i64 tm, .slice A1 n c1, .slice A2 n' c2] 30)
      rw [← hV2] at haV2 hnV2 ⊢
      have hsVa2 : V2.heap.size ≤ w2.heap.size + 1 := by rw [hV2]; simp
      have hsVb2 : w2.heap.size + 1 ≤ V2.heap.size := by rw [hV2]; simp
      clear bK2c0 bK2f0 bK2c1 bK2f1 bK2c2 bK2f2 bK2l bR2c0 bR2f0 bR2c1 bR2f1 bR2c2 bR2f2 bR2l
      have HBV2 := Lib.hid (HB2.out.trans (haV2.mono HB2.out.size))
      have bK_V2 := Lib.hid ((haV2.block (w.heap.size) (lt_blk bK_2.out)).trans bK_2.out)
      have bR_V2 := Lib.hid ((haV2.block (w.heap.size + 1) (lt_blk bR_2.out)).trans bR_2.out)
      have oI_V2 := Lib.hid (oI_2.out.since haV2 (by omega))
      have oL_V2 := Lib.hid (oL_2.out.since haV2 (by omega))
      have hzV2 := haV2.size
      have bQ_V2 := Lib.hid hnV2
      clear hV2 haV2 hnV2
      have HP0 := Lib.hid (show PlayI w w2.heap.size (tm, is, ls) V2 A1 A2 c1 c2 n n' from ⟨HN.out, HN'.out, oI_V2.out.wider (by omega) (by omega), oL_V2.out.wider (by omega) (by omega), HBV2.out, bR_V2.out, by omega, bQ_V2.out⟩)
      have bQV2c0 := cell_blk (i := 0) bQ_V2.out rfl
      have bQV2f0 := free_blk bQ_V2.out 0
      have bQV2c1 := cell_blk (i := 1) bQ_V2.out rfl
      have bQV2f1 := free_blk bQ_V2.out 1
      have bQV2c2 := cell_blk (i := 2) bQ_V2.out rfl
      have bQV2f2 := free_blk bQ_V2.out 2
      have bQV2l := lt_blk bQ_V2.out
      have bRV2c0 := cell_blk (i := 0) bR_V2.out rfl
      have bRV2f0 := free_blk bR_V2.out 0
      have bRV2c1 := cell_blk (i := 1) bR_V2.out rfl
      have bRV2f1 := free_blk bR_V2.out 1
      have bRV2c2 := cell_blk (i := 2) bR_V2.out rfl
      have bRV2f2 := free_blk bR_V2.out 2
      have bRV2l := lt_blk bR_V2.out
      go_wp2
      clear bQV2c0 bQV2f0 bQV2c1 bQV2f1 bQV2c2 bQV2f2 bQV2l bRV2c0 bRV2f0 bRV2c1 bRV2f1 bRV2c2 bRV2f2 bRV2l
      go_loopw [24] (fun i wr => ∃ (k : Nat) (s : Int × List Int × List (Int × Int × Int)) (A1 A2 : Option Addr) (c1 c2 n1 n2 : Nat), k ≤ na ∧ i = .int .i64 k ∧ Hid (s = (acts.take k).foldl nextW (tm, is, ls)) ∧ Hid (PlayI w w2.heap.size s wr A1 A2 c1 c2 n1 n2)) (fun i _ => na - (intOf i).toNat)
      case atStart => exact ⟨0, (tm, is, ls), A1, A2, c1, c2, n, n', by omega, rfl, Lib.hid rfl, HP0⟩
      case round =>
        clear HP0 HB0 bK_0 bR_0 HB1 bK_1 bR_1 HB2 bK_2 bR_2 oI_2 oL_2 HBV2 bK_V2 bR_V2 oI_V2 oL_V2 bQ_V2
        obtain ⟨k, ⟨st, si, sl⟩, A3, A4, c3, c4, n3, n4, hk, rfl, HSK, HP⟩ := hrel
        have hbw := HP.out.2.2.2.2.1
        have hq := HP.out.2.2.2.2.2.2.2
        have hr := HP.out.2.2.2.2.2.2.1
        have hrb := HP.out.2.2.2.2.2.1
        have e3 := HP.out.1
        have e4 := HP.out.2.1
        simp only at hq e3 e4
        have q0 := cell_blk (i := 0) hq rfl
        have q1 := cell_blk (i := 1) hq rfl
        have q2 := cell_blk (i := 2) hq rfl
        have f0 := free_blk hq 0
        have f1 := free_blk hq 1
        have f2 := free_blk hq 2
        have hlq := lt_blk hq
        by_cases hlt : k < na
        · obtain ⟨b, off, rfl, hbB, hc⟩ := HAA.out.get (by have := HNA.out; omega)
          obtain ⟨hc0, hc1, hc2⟩ := hc k (by have := HNA.out; omega)
          have hbw2 : b < w.heap.size := Nat.lt_of_lt_of_le hbB HBB.out
          have c0 := (hbw.cell (p := ⟨b, off + k * 3, none⟩) hbw2).trans hc0
          have c1x := (hbw.cell (p := ⟨b, off + k * 3 + 1, none⟩) hbw2).trans hc1
          have c2x := (hbw.cell (p := ⟨b, off + k * 3 + 2, none⟩) hbw2).trans hc2
          have HST := Lib.hid (play_step (s0 := (tm, is, ls)) (show k < acts.length by have := HNA.out; omega))
          obtain ⟨y, hy⟩ : ∃ y, y = acts[k]'(by have := HNA.out; omega) := ⟨_, rfl⟩
          rw [← hy] at c0 c1x c2x HST
          obtain ⟨s0, s1, s2⟩ := y
          simp only at c0 c1x c2x
          have hk0 : (0 : Int) ≤ (k : Int) := by omega
          have hkn : (k : Int) < (na : Int) := by omega
          have hbr : b < wr.heap.size := Nat.lt_of_lt_of_le hbw2 hbw.size
          have hf := fun (W : World) (hW : Below wr.heap.size wr W) => implDo_any st A3 A4 n3 c3 n4 c4 si sl s0 s1 s2 W.heap.size W e3 e4 (((HP.out.keep hW).2.2.1).cks) (((HP.out.keep hW).2.2.2.1).les) (Nat.le_refl _)
          obtain ⟨⟨an, ai, al, ok⟩, hr9⟩ : ∃ r, r = doW st si sl (s0, s1, s2) := ⟨_, rfl⟩
          simp only [← hr9] at hf
          simp only [WAPost_un] at hf
          have HF := Lib.hid hf
          have HNY := Lib.hid (fun (ho : ok = true) => show (an, ai, al) = (acts.take (k + 1)).foldl nextW (tm, is, ls) from by rw [HST.out, ← HSK.out]; subst ho; exact (next_yes (s := (st, si, sl)) hr9.symm).symm)
          have HYtpppgihoekfmoaa := Lib.hid (fun (ho : ok = false) => show (st, si, sl) = (acts.take (k + 1)).foldl nextW (tm, is, ls) from by rw [HST.out, ← HSK.out]; subst ho; exact (next_no (s := (st, si, sl)) hr9.symm).symm)
          have hsz0 : w.heap.size + 1 + 1 ≤ wr.heap.size := by omega
          clear hf hr9 hc hc0 hc1 hc2 hy
          have HX0 := Lib.hid (below1 wr (.cells #[.int .i64 s0, .int .i64 s1, .int .i64 s2] 36))
          go_wp2_with fail
          refine (HF.out _ HX0.out).mono ?_
          rintro e w4 ⟨A5, c5, A6, c6, rfl, ho5, ho6, hb4⟩
          have hb4r := HX0.out.trans (hb4.mono HX0.out.size)
          have HB4 := Lib.hid hb4r
          have HO5 := Lib.hid ho5
          have HO6 := Lib.hid ho6
          have hq4 := (hb4r.block w2.heap.size hlq).trans hq
          have g0 := cell_blk (i := 0) hq4 rfl
          have g1 := cell_blk (i := 1) hq4 rfl
          have g2 := cell_blk (i := 2) hq4 rfl
          have p0 := free_blk hq4 0
          have p1 := free_blk hq4 1
          have p2 := free_blk hq4 2
          have hlq4 := lt_blk hq4
          have hz4 := hb4r.size
          clear hb4 hb4r ho5 ho6 q0 q1 q2 f0 f1 f2 hq4 hq hbw
          cases ok with
          | false =>
            have HPF := Lib.hid ((HP.out.keep HB4.out).keep (below1 w4 (.cells #[.int .i64 an, .slice A5 ai.length c5, .slice A6 al.length c6] 30)))
            go_wp2
            go_roundw
            case rel => exact ⟨k + 1, (st, si, sl), A3, A4, c3, c4, n3, n4, by omega, by go_num, Lib.hid (HYtpppgihoekfmoaa.out (by trivial)), HPF⟩
            case measure => simp [intOf]; omega
          | true =>
            have HPF := Lib.hid (((HP.out.keep HB4.out).set (s' := (an, ai, al)) (lo := (wr.alloc (.cells #[.int .i64 s0, .int .i64 s1, .int .i64 s2] 36)).heap.size) (by simp; omega) HO5.out HO6.out rfl rfl).keep (below1 _ (.cells #[.int .i64 an, .slice A5 ai.length c5, .slice A6 al.length c6] 30)))
            go_wp2
            go_roundw
            case rel => exact ⟨k + 1, (an, ai, al), A5, A6, c5, c6, ai.length, al.length, by omega, by go_num, Lib.hid (HNY.out (by trivial)), HPF⟩
            case measure => simp [intOf]; omega
        · have HSE := Lib.hid (show (st, si, sl) = acts.foldl nextW (tm, is, ls) from by have := HSK.out; rw [List.take_of_length_le (by have := HNA.out; omega)] at this; exact this)
          have r0 := cell_blk (i := 0) hrb rfl
          have r1 := cell_blk (i := 1) hrb rfl
          have r2 := cell_blk (i := 2) hrb rfl
          have rf0 := free_blk hrb 0
          have rf1 := free_blk hrb 1
          have rf2 := free_blk hrb 2
          clear hbw hq hrb
          go_wp2
          exact bodyPost_ret (v := .tuple #[.agg #[.int .i64 st, .slice A3 n3 c3, .slice A4 n4 c4], .bool true]) (by simp [results, Try.results11, go_sem, r0, r1, r2, rf0, rf1, rf2]) rfl (HEND.out wr _ (st, si, sl) A3 A4 c3 c4 n3 n4 HSE.out HP.out _ _ _)
    · rw [show playW tm is ls acts = noW by simp only [playW]; rw [decide_eq_false (by omega)]; simp]
      rw [g1] at HG
      have h100i : (100 : Int) < (na : Int) := by omega
      clear g1 h100
      clear h h' hA hn hn' hna
      go_enter Try.func11, Try.ntmps11
      go_wp2_with fail
      refine (HG.out _ HB0.out).mono ?_
      rintro e w1 ⟨rfl, ha1⟩
      have HB1 := Lib.hid (HB0.out.trans (ha1.mono HB0.out.size))
      have bK_1 := Lib.hid ((ha1.block (w.heap.size) (lt_blk bK_0.out)).trans bK_0.out)
      have bR_1 := Lib.hid ((ha1.block (w.heap.size + 1) (lt_blk bR_0.out)).trans bR_0.out)
      have hz1 := ha1.size
      simp only [World.size_alloc] at hz1
      clear ha1
      have bK1c0 := cell_blk (i := 0) bK_1.out rfl
      have bK1f0 := free_blk bK_1.out 0
      have bK1c1 := cell_blk (i := 1) bK_1.out rfl
      have bK1f1 := free_blk bK_1.out 1
      have bK1c2 := cell_blk (i := 2) bK_1.out rfl
      have bK1f2 := free_blk bK_1.out 2
      have bK1l := lt_blk bK_1.out
      have bR1c0 := cell_blk (i := 0) bR_1.out rfl
      have bR1f0 := free_blk bR_1.out 0
      have bR1c1 := cell_blk (i := 1) bR_1.out rfl
      have bR1f1 := free_blk bR_1.out 1
      have bR1c2 := cell_blk (i := 2) bR_1.out rfl
      have bR1f2 := free_blk bR_1.out 2
      have bR1l := lt_blk bR_1.out
      go_wp2
      exact bodyPost_ret (v := .tuple #[.agg #[.int .i64 0, .slice none 0 0, .slice none 0 0], .bool false]) (by simp [results, Try.results11, go_sem, bR1c0, bR1f0, bR1c1, bR1f1, bR1c2, bR1f2]) rfl (noW_post (bel_put3 HB1.out (by omega)))
end Go.Proofs.Ytpppgihoekfmoaa.Wt
