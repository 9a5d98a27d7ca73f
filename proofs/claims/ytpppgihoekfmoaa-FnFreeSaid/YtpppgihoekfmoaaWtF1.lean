/-
  l10If; NewWatch and PassTime, of the model and of the program.
-/
import Derived.Test.YtpppgihoekfmoaaWtF0
import Derived.Deep.DeepCutAuto
namespace Go.Proofs.Ytpppgihoekfmoaa.Wt
open Go.RowKit
set_option linter.unusedVariables false
set_option linter.unusedSimpArgs false

set_option maxRecDepth 100000 in
set_option maxHeartbeats 4000000 in
theorem l10If_any (tm : Int) (A A' : Option Addr) (n c n' c' : Nat) (is : List Int) (ls : List (Int × Int × Int)) (B : Nat) (w : World) (hn : is.length = n) (hn' : ls.length = n') (h : CksB w B A is) (h' : LesB w B A' ls) (hB : B ≤ w.heap.size) :
    Calls Try.prog 25 #[.agg #[.int .i64 tm, .slice A n c, .slice A' n' c']] w fun e w' => e = .returned (.tuple #[bif wchB tm is ls then .agg #[.int .i64 tm, .slice A n c, .slice A' n' c'] else .agg #[.int .i64 0, .slice none 0 0, .slice none 0 0], .bool (wchB tm is ls)]) ∧ Below w.heap.size w w' := by
  have HB0 := Lib.hid (below2 w (.cells #[.int .i64 tm, .slice A n c, .slice A' n' c'] 30) (.cells #[.int .i64 0, .slice none 0 0, .slice none 0 0] 30))
  have bK_0 := Lib.hid (((below1 (w.alloc (.cells #[.int .i64 tm, .slice A n c, .slice A' n' c'] 30)) (.cells #[.int .i64 0, .slice none 0 0, .slice none 0 0] 30)).block w.heap.size (by simp)).trans (heap_alloc_new w (.cells #[.int .i64 tm, .slice A n c, .slice A' n' c'] 30)))
  have bR_0 := Lib.hid (alloc_snd w (.cells #[.int .i64 tm, .slice A n c, .slice A' n' c'] 30) (.cells #[.int .i64 0, .slice none 0 0, .slice none 0 0] 30))
  have HG := Lib.hid (fun W (hW : Below w.heap.size w W) => l10Good_any tm A A' n c n' c' is ls B W hn hn' (h.below (hW.mono hB)) (h'.below (hW.mono hB)) (Nat.le_trans hB hW.size))
  cases g1 : wchB tm is ls with
  | false =>
    rw [g1] at HG
    simp only [cond_false]
    clear h h' hn hn' g1
    go_enter Try.func25, Try.ntmps25
    go_wp2_with fail
    refine (HG.out _ HB0.out).mono ?_
    rintro e w1 ⟨rfl, ha1⟩
    have HB1 := Lib.hid (HB0.out.trans (ha1.mono HB0.out.size))
    have bK_1 := Lib.hid ((ha1.block (w.heap.size) (lt_blk bK_0.out)).trans bK_0.out)
    have bR_1 := Lib.hid ((ha1.block (w.heap.size + 1) (lt_blk bR_0.out)).trans bR_0.out)
    have hz1 := ha1.size
    simp only [World.size_alloc] at hz1
    clear ha1
    have bK1c0 := cell_blk (i := 0) bK_1.out rfl
    have bK1f0 := free_blk bK_1.out 0
    have bK1c1 := cell_blk (i := 1) bK_1.out rfl
    have bK1f1 := free_blk bK_1.out 1
    have bK1c2 := cell_blk (i := 2) bK_1.out rfl
    have bK1f2 := free_blk bK_1.out 2
    have bK1l := lt_blk bK_1.out
    have bR1c0 := cell_blk (i := 0) bR_1.out rfl
    have bR1f0 := free_blk bR_1.out 0
    have bR1c1 := cell_blk (i := 1) bR_1.out rfl
    have bR1f1 := free_blk bR_1.out 1
    have bR1c2 := cell_blk (i := 2) bR_1.out rfl
    have bR1f2 := free_blk bR_1.out 2
    have bR1l := lt_blk bR_1.out
    go_wp2
    exact bodyPost_ret (v := .tuple #[.agg #[.int .i64 0, .slice none 0 0, .slice none 0 0], .bool false]) (by simp [results, Try.results25, go_sem, bR1c0, bR1f0, bR1c1, bR1f1, bR1c2, bR1f2]) rfl ⟨rfl, bel_put3 HB1.out (by omega)⟩
  | true =>
    rw [g1] at HG
    simp only [cond_true]
    clear h h' hn hn' g1
    go_enter Try.func25, Try.ntmps25
    go_wp2_with fail
    refine (HG.out _ HB0.out).mono ?_
    rintro e w1 ⟨rfl, ha1⟩
    have HB1 := Lib.hid (HB0.out.trans (ha1.mono HB0.out.size))
    have bK_1 := Lib.hid ((ha1.block (w.heap.size) (lt_blk bK_0.out)).trans bK_0.out)
    have bR_1 := Lib.hid ((ha1.block (w.heap.size + 1) (lt_blk bR_0.out)).trans bR_0.out)
    have hz1 := ha1.size
    simp only [World.size_alloc] at hz1
    clear ha1
    have bK1c0 := cell_blk (i := 0) bK_1.out rfl
    have bK1f0 := free_blk bK_1.out 0
    have bK1c1 := cell_blk (i := 1) bK_1.out rfl
    have bK1f1 := free_blk bK_1.out 1
    have bK1c2 := cell_blk (i := 2) bK_1.out rfl
    have bK1f2 := free_blk bK_1.out 2
    have bK1l := lt_blk bK_1.out
    have bR1c0 := cell_blk (i := 0) bR_1.out rfl
    have bR1f0 := free_blk bR_1.out 0
    have bR1c1 := cell_blk (i := 1) bR_1.out rfl
    have bR1f1 := free_blk bR_1.out 1
    have bR1c2 := cell_blk (i := 2) bR_1.out rfl
    have bR1f2 := free_blk bR_1.out 2
    have bR1l := lt_blk bR_1.out
    go_wp2
    exact bodyPost_ret (v := .tuple #[.agg #[.int .i64 tm, .slice A n c, .slice A' n' c'], .bool true]) (by simp [results, Try.results25, go_sem, bR1c0, bR1f0, bR1c1, bR1f1, bR1c2, bR1f2]) rfl ⟨rfl, bel_put3 HB1.out (by omega)⟩

set_option maxRecDepth 100000 in
set_option maxHeartbeats 4000000 in
theorem specPassTime_any (tm : Int) (A A' : Option Addr) (n c n' c' : Nat) (is : List Int) (ls : List (Int × Int × Int)) (b : Int) (B : Nat) (w : World) (hn : is.length = n) (hn' : ls.length = n') (h : CksB w B A is) (h' : LesB w B A' ls) (hB : B ≤ w.heap.size) :
    Calls Try.prog 50 #[.agg #[.int .i64 tm, .slice A n c, .slice A' n' c'], .int .i64 b] w (WAPost (passW tm is ls b) w) := by
  have HB0 := Lib.hid (below2 w (.cells #[.int .i64 tm, .slice A n c, .slice A' n' c'] 30) (.cells #[.int .i64 0, .slice none 0 0, .slice none 0 0] 30))
  have bK_0 := Lib.hid (((below1 (w.alloc (.cells #[.int .i64 tm, .slice A n c, .slice A' n' c'] 30)) (.cells #[.int .i64 0, .slice none 0 0, .slice none 0 0] 30)).block w.heap.size (by simp)).trans (heap_alloc_new w (.cells #[.int .i64 tm, .slice A n c, .slice A' n' c'] 30)))
  have bR_0 := Lib.hid (alloc_snd w (.cells #[.int .i64 tm, .slice A n c, .slice A' n' c'] 30) (.cells #[.int .i64 0, .slice none 0 0, .slice none 0 0] 30))
  have HG := Lib.hid (fun W (hW : Below w.heap.size w W) => l10Good_any tm A A' n c n' c' is ls B W hn hn' (h.below (hW.mono hB)) (h'.below (hW.mono hB)) (Nat.le_trans hB hW.size))
  have HI := Lib.hid (fun W => l1In_any b 0 100000 W)
  cases g1 : wchB tm is ls with
  | false =>
    rw [show passW tm is ls b = noW by simp [passW, g1]]
    rw [g1] at HG
    clear h h' hn hn' g1
    go_enter Try.func50, Try.ntmps50
    go_wp2_with fail
    refine (HG.out _ HB0.out).mono ?_
    rintro e w1 ⟨rfl, ha1⟩
    have HB1 := Lib.hid (HB0.out.trans (ha1.mono HB0.out.size))
    have bK_1 := Lib.hid ((ha1.block (w.heap.size) (lt_blk bK_0.out)).trans bK_0.out)
    have bR_1 := Lib.hid ((ha1.block (w.heap.size + 1) (lt_blk bR_0.out)).trans bR_0.out)
    have hz1 := ha1.size
    simp only [World.size_alloc] at hz1
    clear ha1
    have bK1c0 := cell_blk (i := 0) bK_1.out rfl
    have bK1f0 := free_blk bK_1.out 0
    have bK1c1 := cell_blk (i := 1) bK_1.out rfl
    have bK1f1 := free_blk bK_1.out 1
    have bK1c2 := cell_blk (i := 2) bK_1.out rfl
    have bK1f2 := free_blk bK_1.out 2
    have bK1l := lt_blk bK_1.out
    have bR1c0 := cell_blk (i := 0) bR_1.out rfl
    have bR1f0 := free_blk bR_1.out 0
    have bR1c1 := cell_blk (i := 1) bR_1.out rfl
    have bR1f1 := free_blk bR_1.out 1
    have bR1c2 := cell_blk (i := 2) bR_1.out rfl
    have bR1f2 := free_blk bR_1.out 2
    have bR1l := lt_blk bR_1.out
    go_wp2
    exact bodyPost_ret (v := .tuple #[.agg #[.int .i64 0, .slice none 0 0, .slice none 0 0], .bool false]) (by simp [results, Try.results50, go_sem, bR1c0, bR1f0, bR1c1, bR1f1, bR1c2, bR1f2]) rfl (noW_post (bel_put3 HB1.out (by omega)))
  | true =>
    obtain ⟨⟨gt0, gt1⟩, ⟨_, gc5⟩, gl, _, _⟩ := wchB_true g1
    rw [hn] at gc5
    rw [hn'] at gl
    cases g2 : inB b 0 100000 with
    | false =>
      rw [show passW tm is ls b = noW by simp [passW, g1, g2]]
      rw [g1] at HG
      rw [g2] at HI
      clear h h' hn hn' g1 g2
      go_enter Try.func50, Try.ntmps50
      go_wp2_with fail
      refine (HG.out _ HB0.out).mono ?_
      rintro e w1 ⟨rfl, ha1⟩
      have HB1 := Lib.hid (HB0.out.trans (ha1.mono HB0.out.size))
      have bK_1 := Lib.hid ((ha1.block (w.heap.size) (lt_blk bK_0.out)).trans bK_0.out)
      have bR_1 := Lib.hid ((ha1.block (w.heap.size + 1) (lt_blk bR_0.out)).trans bR_0.out)
      have hz1 := ha1.size
      simp only [World.size_alloc] at hz1
      clear ha1
      have bK1c0 := cell_blk (i := 0) bK_1.out rfl
      have bK1f0 := free_blk bK_1.out 0
      have bK1c1 := cell_blk (i := 1) bK_1.out rfl
      have bK1f1 := free_blk bK_1.out 1
      have bK1c2 := cell_blk (i := 2) bK_1.out rfl
      have bK1f2 := free_blk bK_1.out 2
      have bK1l := lt_blk bK_1.out
      go_wp2_with fail
      refine (HI.out _).mono ?_
      rintro e wx ⟨rfl, rfl⟩
      have bR1c0 := cell_blk (i := 0) bR_1.out rfl
      have bR1f0 := free_blk bR_1.out 0
      have bR1c1 := cell_blk (i := 1) bR_1.out rfl
      have bR1f1 := free_blk bR_1.out 1
      have bR1c2 := cell_blk (i := 2) bR_1.out rfl
      have bR1f2 := free_blk bR_1.out 2
      have bR1l := lt_blk bR_1.out
      go_wp2
      exact bodyPost_ret (v := .tuple #[.agg #[.int .i64 0, .slice none 0 0, .slice none 0 0], .bool false]) (by simp [results, Try.results50, go_sem, bR1c0, bR1f0, bR1c1, bR1f1, bR1c2, bR1f2]) rfl (noW_post (bel_put3 HB1.out (by omega)))
    | true =>
      obtain ⟨gb0, gb1⟩ := inB_true g2
      have hcn := (fun W (hW : Below w.heap.size w W) => l10Own_any tm A A' n c n' c' is ls B W hn hn' (h.below (hW.mono hB)) (h'.below (hW.mono hB)) (Nat.le_trans hB hW.size) (by omega) (by omega))
      unfold WtV at hcn
      simp only [hn, hn'] at hcn
      have HCN := Lib.hid hcn
      clear hcn
      have hif := fun W A1 c1 A2 c2 (hi : CksB W W.heap.size A1 is) (hl : LesB W W.heap.size A2 ls) => l10If_any (tm + b) A1 A2 n c1 n' c2 is ls W.heap.size W hn hn' hi hl (Nat.le_refl _)
      have HIF := Lib.hid hif
      clear hif
      rw [g1] at HG
      rw [g2] at HI
      have HN := Lib.hid hn
      have HN' := Lib.hid hn'
      cases g3 : wchB (tm + b) is ls with
      | false =>
        rw [show passW tm is ls b = noW by simp [passW, ifW, g1, g2, g3]]
        rw [g3] at HIF
        simp only [cond_false] at HIF
        clear h h' hn hn' g1 g2 g3
        go_enter Try.func50, Try.ntmps50
        go_wp2_with fail
        refine (HG.out _ HB0.out).mono ?_
        rintro e w1 ⟨rfl, ha1⟩
        have HB1 := Lib.hid (HB0.out.trans (ha1.mono HB0.out.size))
        have bK_1 := Lib.hid ((ha1.block (w.heap.size) (lt_blk bK_0.out)).trans bK_0.out)
        have bR_1 := Lib.hid ((ha1.block (w.heap.size + 1) (lt_blk bR_0.out)).trans bR_0.out)
        have hz1 := ha1.size
        simp only [World.size_alloc] at hz1
        clear ha1
        have bK1c0 := cell_blk (i := 0) bK_1.out rfl
        have bK1f0 := free_blk bK_1.out 0
        have bK1c1 := cell_blk (i := 1) bK_1.out rfl
        have bK1f1 := free_blk bK_1.out 1
        have bK1c2 := cell_blk (i := 2) bK_1.out rfl
        have bK1f2 := free_blk bK_1.out 2
        have bK1l := lt_blk bK_1.out
        go_wp2_with fail
        refine (HI.out _).mono ?_
        rintro e wx ⟨rfl, rfl⟩
        go_wp2_with fail
        refine (HCN.out _ HB1.out).mono ?_
        rintro e w2 ⟨A1, c1, A2, c2, rfl, hoi, hol, ha2⟩
        clear bK1c0 bK1f0 bK1c1 bK1f1 bK1c2 bK1f2 bK1l
        have HB2 := Lib.hid (HB1.out.trans (ha2.mono HB1.out.size))
        have bK_2 := Lib.hid ((ha2.block (w.heap.size) (lt_blk bK_1.out)).trans bK_1.out)
        have bR_2 := Lib.hid ((ha2.block (w.heap.size + 1) (lt_blk bR_1.out)).trans bR_1.out)
        have hz2 := ha2.size
        clear ha2
        have oI_2 := Lib.hid hoi
        clear hoi
        have oL_2 := Lib.hid hol
        clear hol
        have bK2c0 := cell_blk (i := 0) bK_2.out rfl
        have bK2f0 := free_blk bK_2.out 0
        have bK2c1 := cell_blk (i := 1) bK_2.out rfl
        have bK2f1 := free_blk bK_2.out 1
        have bK2c2 := cell_blk (i := 2) bK_2.out rfl
        have bK2f2 := free_blk bK_2.out 2
        have bK2l := lt_blk bK_2.out
        have bR2c0 := cell_blk (i := 0) bR_2.out rfl
        have bR2f0 := free_blk bR_2.out 0
        have bR2c1 := cell_blk (i := 1) bR_2.out rfl
        have bR2f1 := free_blk bR_2.out 1
        have bR2c2 := cell_blk (i := 2) bR_2.out rfl
        have bR2f2 := free_blk bR_2.out 2
        have bR2l := lt_blk bR_2.out
        go_wp2_with fail
        obtain ⟨V2, hV2⟩ : ∃ V2, V2 = w2.alloc (.cells #[.int .i64 (tm + b), .slice A1 n c1, .slice A2 n' c2] 30) := ⟨_, rfl⟩
        have haV2 := below1 w2 (.cells #[.int .i64 (tm + b), .slice A1 n c1, .slice A2 n' c2] 30)
        have hnV2 := heap_alloc_new w2 (.cells #[.int .i64 (tm + b), .slice A1 n c1, .slice A2 n' c2] 30)
        rw [← hV2] at haV2 hnV2 ⊢
        have hsV2 : V2.heap.size = w2.heap.size + 1 := by rw [hV2]; simp
        clear bK2c0 bK2f0 bK2c1 bK2f1 bK2c2 bK2f2 bK2l bR2c0 bR2f0 bR2c1 bR2f1 bR2c2 bR2f2 bR2l
        have HBV2 := Lib.hid (HB2.out.trans (haV2.mono HB2.out.size))
        have bK_V2 := Lib.hid ((haV2.block (w.heap.size) (lt_blk bK_2.out)).trans bK_2.out)
        have bR_V2 := Lib.hid ((haV2.block (w.heap.size + 1) (lt_blk bR_2.out)).trans bR_2.out)
        have oI_V2 := Lib.hid (oI_2.out.since haV2 (by omega))
        have oL_V2 := Lib.hid (oL_2.out.since haV2 (by omega))
        have hzV2 := haV2.size
        have bQ_V2 := Lib.hid hnV2
        clear hV2 haV2 hnV2
        refine (HIF.out _ _ _ _ _ (oI_V2.out.cks.mono (by omega)) (oL_V2.out.les.mono (by omega))).mono ?_
        rintro e w3 ⟨rfl, ha3⟩
        have HB3 := Lib.hid (HBV2.out.trans (ha3.mono HBV2.out.size))
        have bK_3 := Lib.hid ((ha3.block (w.heap.size) (lt_blk bK_V2.out)).trans bK_V2.out)
        have bR_3 := Lib.hid ((ha3.block (w.heap.size + 1) (lt_blk bR_V2.out)).trans bR_V2.out)
        have bQ_3 := Lib.hid ((ha3.block (w2.heap.size) (lt_blk bQ_V2.out)).trans bQ_V2.out)
        have oI_3 := Lib.hid (oI_V2.out.since ha3 (by omega))
        have oL_3 := Lib.hid (oL_V2.out.since ha3 (by omega))
        have hz3 := ha3.size
        clear ha3
        have bR3c0 := cell_blk (i := 0) bR_3.out rfl
        have bR3f0 := free_blk bR_3.out 0
        have bR3c1 := cell_blk (i := 1) bR_3.out rfl
        have bR3f1 := free_blk bR_3.out 1
        have bR3c2 := cell_blk (i := 2) bR_3.out rfl
        have bR3f2 := free_blk bR_3.out 2
        have bR3l := lt_blk bR_3.out
        go_wp2
        exact bodyPost_ret (v := .tuple #[.agg #[.int .i64 0, .slice none 0 0, .slice none 0 0], .bool false]) (by simp [results, Try.results50, go_sem, bR3c0, bR3f0, bR3c1, bR3f1, bR3c2, bR3f2]) rfl (noW_post (bel_put3 HB3.out (by omega)))
      | true =>
        rw [show passW tm is ls b = (tm + b, is, ls, true) by simp [passW, ifW, g1, g2, g3]]
        rw [g3] at HIF
        simp only [cond_true] at HIF
        clear h h' hn hn' g1 g2 g3
        go_enter Try.func50, Try.ntmps50
        go_wp2_with fail
        refine (HG.out _ HB0.out).mono ?_
        rintro e w1 ⟨rfl, ha1⟩
        have HB1 := Lib.hid (HB0.out.trans (ha1.mono HB0.out.size))
        have bK_1 := Lib.hid ((ha1.block (w.heap.size) (lt_blk bK_0.out)).trans bK_0.out)
        have bR_1 := Lib.hid ((ha1.block (w.heap.size + 1) (lt_blk bR_0.out)).trans bR_0.out)
        have hz1 := ha1.size
        simp only [World.size_alloc] at hz1
        clear ha1
        have bK1c0 := cell_blk (i := 0) bK_1.out rfl
        have bK1f0 := free_blk bK_1.out 0
        have bK1c1 := cell_blk (i := 1) bK_1.out rfl
        have bK1f1 := free_blk bK_1.out 1
        have bK1c2 := cell_blk (i := 2) bK_1.out rfl
        have bK1f2 := free_blk bK_1.out 2
        have bK1l := lt_blk bK_1.out
        go_wp2_with fail
        refine (HI.out _).mono ?_
        rintro e wx ⟨rfl, rfl⟩
        go_wp2_with fail
        refine (HCN.out _ HB1.out).mono ?_
        rintro e w2 ⟨A1, c1, A2, c2, rfl, hoi, hol, ha2⟩
        clear bK1c0 bK1f0 bK1c1 bK1f1 bK1c2 bK1f2 bK1l
        have HB2 := Lib.hid (HB1.out.trans (ha2.mono HB1.out.size))
        have bK_2 := Lib.hid ((ha2.block (w.heap.size) (lt_blk bK_1.out)).trans bK_1.out)
        have bR_2 := Lib.hid ((ha2.block (w.heap.size + 1) (lt_blk bR_1.out)).trans bR_1.out)
        have hz2 := ha2.size
        clear ha2
        have oI_2 := Lib.hid hoi
        clear hoi
        have oL_2 := Lib.hid hol
        clear hol
        have bK2c0 := cell_blk (i := 0) bK_2.out rfl
        have bK2f0 := free_blk bK_2.out 0
        have bK2c1 := cell_blk (i := 1) bK_2.out rfl
        have bK2f1 := free_blk bK_2.out 1
        have bK2c2 := cell_blk (i := 2) bK_2.out rfl
        have bK2f2 := free_blk bK_2.out 2
        have bK2l := lt_blk bK_2.out
        have bR2c0 := cell_blk (i := 0) bR_2.out rfl
        have bR2f0 := free_blk bR_2.out 0
        have bR2c1 := cell_blk (i := 1) bR_2.out rfl
        have bR2f1 := free_blk bR_2.out 1
        have bR2c2 := cell_blk (i := 2) bR_2.out rfl
        have bR2f2 := free_blk bR_2.out 2
        have bR2l := lt_blk bR_2.out
        go_wp2_with fail
        obtain ⟨V2, hV2⟩ : ∃ V2, V2 = w2.alloc (.cells #[.int .i64 (tm + b), .slice A1 n c1, .slice A2 n' c2] 30) := ⟨_, rfl⟩
        have haV2 := below1 w2 (.cells #[.int .i64 (tm + b), .slice A1 n c1, .slice A2 n' c2] 30)
        have hnV2 := heap_alloc_new w2 (.cells #[.int .i64 (tm + b), .slice A1 n c1, .slice A2 n' c2] 30)
        rw [← hV2] at haV2 hnV2 ⊢
        have hsV2 : V2.heap.size = w2.heap.size + 1 := by rw [hV2]; simp
        clear bK2c0 bK2f0 bK2c1 bK2f1 bK2c2 bK2f2 bK2l bR2c0 bR2f0 bR2c1 bR2f1 bR2c2 bR2f2 bR2l
        have HBV2 := Lib.hid (HB2.out.trans (haV2.mono HB2.out.size))
        have bK_V2 := Lib.hid ((haV2.block (w.heap.size) (lt_blk bK_2.out)).trans bK_2.out)
        have bR_V2 := Lib.hid ((haV2.block (w.heap.size + 1) (lt_blk bR_2.out)).trans bR_2.out)
        have oI_V2 := Lib.hid (oI_2.out.since haV2 (by omega))
        have oL_V2 := Lib.hid (oL_2.out.since haV2 (by omega))
        have hzV2 := haV2.size
        have bQ_V2 := Lib.hid hnV2
        clear hV2 haV2 hnV2
        refine (HIF.out _ _ _ _ _ (oI_V2.out.cks.mono (by omega)) (oL_V2.out.les.mono (by omega))).mono ?_
        rintro e w3 ⟨rfl, ha3⟩
        have HB3 := Lib.hid (HBV2.out.trans (ha3.mono HBV2.out.size))
        have bK_3 := Lib.hid ((ha3.block (w.heap.size) (lt_blk bK_V2.out)).trans bK_V2.out)
        have bR_3 := Lib.hid ((ha3.block (w.heap.size + 1) (lt_blk bR_V2.out)).trans bR_V2.out)
        have bQ_3 := Lib.hid ((ha3.block (w2.heap.size) (lt_blk bQ_V2.out)).trans bQ_V2.out)
        have oI_3 := Lib.hid (oI_V2.out.since ha3 (by omega))
        have oL_3 := Lib.hid (oL_V2.out.since ha3 (by omega))
        have hz3 := ha3.size
        clear ha3
        have bR3c0 := cell_blk (i := 0) bR_3.out rfl
        have bR3f0 := free_blk bR_3.out 0
        have bR3c1 := cell_blk (i := 1) bR_3.out rfl
        have bR3f1 := free_blk bR_3.out 1
        have bR3c2 := cell_blk (i := 2) bR_3.out rfl
        have bR3f2 := free_blk bR_3.out 2
        have bR3l := lt_blk bR_3.out
        go_wp2
        exact bodyPost_ret (v := .tuple #[.agg #[.int .i64 (tm + b), .slice A1 n c1, .slice A2 n' c2], .bool true]) (by simp [results, Try.results50, go_sem, bR3c0, bR3f0, bR3c1, bR3f1, bR3c2, bR3f2]) rfl (yesW_post HN.out HN'.out ((OwnCk.put3 oI_3.out (by omega)).wider (by omega) (by simp [World.setCell]; omega)) ((OwnLe.put3 oL_3.out (by omega)).wider (by omega) (by simp [World.setCell]; omega)) (bel_put3 HB3.out (by omega)))

set_option maxRecDepth 100000 in
set_option maxHeartbeats 4000000 in
theorem implPassTime_any (tm : Int) (A A' : Option Addr) (n c n' c' : Nat) (is : List Int) (ls : List (Int × Int × Int)) (b : Int) (B : Nat) (w : World) (hn : is.length = n) (hn' : ls.length = n') (h : CksB w B A is) (h' : LesB w B A' ls) (hB : B ≤ w.heap.size) :
    Calls Try.prog 17 #[.agg #[.int .i64 tm, .slice A n c, .slice A' n' c'], .int .i64 b] w (WAPost (passW tm is ls b) w) := by
  have HB0 := Lib.hid (below2 w (.cells #[.int .i64 tm, .slice A n c, .slice A' n' c'] 30) (.cells #[.int .i64 0, .slice none 0 0, .slice none 0 0] 30))
  have bK_0 := Lib.hid (((below1 (w.alloc (.cells #[.int .i64 tm, .slice A n c, .slice A' n' c'] 30)) (.cells #[.int .i64 0, .slice none 0 0, .slice none 0 0] 30)).block w.heap.size (by simp)).trans (heap_alloc_new w (.cells #[.int .i64 tm, .slice A n c, .slice A' n' c'] 30)))
  have bR_0 := Lib.hid (alloc_snd w (.cells #[.int .i64 tm, .slice A n c, .slice A' n' c'] 30) (.cells #[.int .i64 0, .slice none 0 0, .slice none 0 0] 30))
  have HG := Lib.hid (fun W (hW : Below w.heap.size w W) => implGoodWatch_any tm A A' n c n' c' is ls B W hn hn' (h.below (hW.mono hB)) (h'.below (hW.mono hB)) (Nat.le_trans hB hW.size))
  have HI := Lib.hid (fun W => isTrueTimeW_any b W)
  have HJ := Lib.hid (fun W => isTrueTimeW_any (tm + b) W)
  cases g1 : wchB tm is ls with
  | false =>
    rw [show passW tm is ls b = noW by simp [passW, g1]]
    rw [g1] at HG
    clear h h' hn hn' g1
    go_enter Try.func17, Try.ntmps17
    go_wp2_with fail
    refine (HG.out _ HB0.out).mono ?_
    rintro e w1 ⟨rfl, ha1⟩
    have HB1 := Lib.hid (HB0.out.trans (ha1.mono HB0.out.size))
    have bK_1 := Lib.hid ((ha1.block (w.heap.size) (lt_blk bK_0.out)).trans bK_0.out)
    have bR_1 := Lib.hid ((ha1.block (w.heap.size + 1) (lt_blk bR_0.out)).trans bR_0.out)
    have hz1 := ha1.size
    simp only [World.size_alloc] at hz1
    clear ha1
    have bK1c0 := cell_blk (i := 0) bK_1.out rfl
    have bK1f0 := free_blk bK_1.out 0
    have bK1c1 := cell_blk (i := 1) bK_1.out rfl
    have bK1f1 := free_blk bK_1.out 1
    have bK1c2 := cell_blk (i := 2) bK_1.out rfl
    have bK1f2 := free_blk bK_1.out 2
    have bK1l := lt_blk bK_1.out
    have bR1c0 := cell_blk (i := 0) bR_1.out rfl
    have bR1f0 := free_blk bR_1.out 0
    have bR1c1 := cell_blk (i := 1) bR_1.out rfl
    have bR1f1 := free_blk bR_1.out 1
    have bR1c2 := cell_blk (i := 2) bR_1.out rfl
    have bR1f2 := free_blk bR_1.out 2
    have bR1l := lt_blk bR_1.out
    go_wp2
    exact bodyPost_ret (v := .tuple #[.agg #[.int .i64 0, .slice none 0 0, .slice none 0 0], .bool false]) (by simp [results, Try.results17, go_sem, bR1c0, bR1f0, bR1c1, bR1f1, bR1c2, bR1f2]) rfl (noW_post (bel_put3 HB1.out (by omega)))
  | true =>
    obtain ⟨⟨gt0, gt1⟩, ⟨_, gc5⟩, gl, _, _⟩ := wchB_true g1
    rw [hn] at gc5
    rw [hn'] at gl
    cases g2 : inB b 0 100000 with
    | false =>
      rw [show passW tm is ls b = noW by simp [passW, g1, g2]]
      rw [g1] at HG
      rw [g2] at HI
      clear h h' hn hn' g1 g2
      go_enter Try.func17, Try.ntmps17
      go_wp2_with fail
      refine (HG.out _ HB0.out).mono ?_
      rintro e w1 ⟨rfl, ha1⟩
      have HB1 := Lib.hid (HB0.out.trans (ha1.mono HB0.out.size))
      have bK_1 := Lib.hid ((ha1.block (w.heap.size) (lt_blk bK_0.out)).trans bK_0.out)
      have bR_1 := Lib.hid ((ha1.block (w.heap.size + 1) (lt_blk bR_0.out)).trans bR_0.out)
      have hz1 := ha1.size
      simp only [World.size_alloc] at hz1
      clear ha1
      have bK1c0 := cell_blk (i := 0) bK_1.out rfl
      have bK1f0 := free_blk bK_1.out 0
      have bK1c1 := cell_blk (i := 1) bK_1.out rfl
      have bK1f1 := free_blk bK_1.out 1
      have bK1c2 := cell_blk (i := 2) bK_1.out rfl
      have bK1f2 := free_blk bK_1.out 2
      have bK1l := lt_blk bK_1.out
      go_wp2_with fail
      refine (HI.out _).mono ?_
      rintro e wx ⟨rfl, rfl⟩
      have bR1c0 := cell_blk (i := 0) bR_1.out rfl
      have bR1f0 := free_blk bR_1.out 0
      have bR1c1 := cell_blk (i := 1) bR_1.out rfl
      have bR1f1 := free_blk bR_1.out 1
      have bR1c2 := cell_blk (i := 2) bR_1.out rfl
      have bR1f2 := free_blk bR_1.out 2
      have bR1l := lt_blk bR_1.out
      go_wp2
      exact bodyPost_ret (v := .tuple #[.agg #[.int .i64 0, .slice none 0 0, .slice none 0 0], .bool false]) (by simp [results, Try.results17, go_sem, bR1c0, bR1f0, bR1c1, bR1f1, bR1c2, bR1f2]) rfl (noW_post (bel_put3 HB1.out (by omega)))
    | true =>
      obtain ⟨gb0, gb1⟩ := inB_true g2
      have hcn := (fun W (hW : Below w.heap.size w W) => copyWatch_any tm A A' n c n' c' is ls B W hn hn' (h.below (hW.mono hB)) (h'.below (hW.mono hB)) (Nat.le_trans hB hW.size) (by omega) (by omega))
      unfold WtV at hcn
      simp only [hn, hn'] at hcn
      have HCN := Lib.hid hcn
      clear hcn
      rw [g1] at HG
      rw [g2] at HI
      have HN := Lib.hid hn
      have HN' := Lib.hid hn'
      cases g3 : inB (tm + b) 0 100000 with
      | false =>
        have g4 : wchB (tm + b) is ls = false := by unfold wchB; rw [g3, Bool.false_and]
        rw [show passW tm is ls b = noW by simp [passW, ifW, g1, g2, g4]]
        rw [g3] at HJ
        clear h h' hn hn' g1 g2 g3 g4
        go_enter Try.func17, Try.ntmps17
        go_wp2_with fail
        refine (HG.out _ HB0.out).mono ?_
        rintro e w1 ⟨rfl, ha1⟩
        have HB1 := Lib.hid (HB0.out.trans (ha1.mono HB0.out.size))
        have bK_1 := Lib.hid ((ha1.block (w.heap.size) (lt_blk bK_0.out)).trans bK_0.out)
        have bR_1 := Lib.hid ((ha1.block (w.heap.size + 1) (lt_blk bR_0.out)).trans bR_0.out)
        have hz1 := ha1.size
        simp only [World.size_alloc] at hz1
        clear ha1
        have bK1c0 := cell_blk (i := 0) bK_1.out rfl
        have bK1f0 := free_blk bK_1.out 0
        have bK1c1 := cell_blk (i := 1) bK_1.out rfl
        have bK1f1 := free_blk bK_1.out 1
        have bK1c2 := cell_blk (i := 2) bK_1.out rfl
        have bK1f2 := free_blk bK_1.out 2
        have bK1l := lt_blk bK_1.out
        go_wp2_with fail
        refine (HI.out _).mono ?_
        rintro e wx ⟨rfl, rfl⟩
        go_wp2_with fail
        refine (HJ.out _).mono ?_
        rintro e wx ⟨rfl, rfl⟩
        have bR1c0 := cell_blk (i := 0) bR_1.out rfl
        have bR1f0 := free_blk bR_1.out 0
        have bR1c1 := cell_blk (i := 1) bR_1.out rfl
        have bR1f1 := free_blk bR_1.out 1
        have bR1c2 := cell_blk (i := 2) bR_1.out rfl
        have bR1f2 := free_blk bR_1.out 2
        have bR1l := lt_blk bR_1.out
        go_wp2
        exact bodyPost_ret (v := .tuple #[.agg #[.int .i64 0, .slice none 0 0, .slice none 0 0], .bool false]) (by simp [results, Try.results17, go_sem, bR1c0, bR1f0, bR1c1, bR1f1, bR1c2, bR1f2]) rfl (noW_post (bel_put3 HB1.out (by omega)))
      | true =>
        have g4 : wchB (tm + b) is ls = true := by unfold wchB at g1 ⊢; rw [g3]; simp only [Bool.and_eq_true] at g1; simp only [Bool.and_eq_true]; exact ⟨trivial, g1.2⟩
        rw [show passW tm is ls b = (tm + b, is, ls, true) by simp [passW, ifW, g1, g2, g4]]
        rw [g3] at HJ
        clear h h' hn hn' g1 g2 g3 g4
        go_enter Try.func17, Try.ntmps17
        go_wp2_with fail
        refine (HG.out _ HB0.out).mono ?_
        rintro e w1 ⟨rfl, ha1⟩
        have HB1 := Lib.hid (HB0.out.trans (ha1.mono HB0.out.size))
        have bK_1 := Lib.hid ((ha1.block (w.heap.size) (lt_blk bK_0.out)).trans bK_0.out)
        have bR_1 := Lib.hid ((ha1.block (w.heap.size + 1) (lt_blk bR_0.out)).trans bR_0.out)
        have hz1 := ha1.size
        simp only [World.size_alloc] at hz1
        clear ha1
        have bK1c0 := cell_blk (i := 0) bK_1.out rfl
        have bK1f0 := free_blk bK_1.out 0
        have bK1c1 := cell_blk (i := 1) bK_1.out rfl
        have bK1f1 := free_blk bK_1.out 1
        have bK1c2 := cell_blk (i := 2) bK_1.out rfl
        have bK1f2 := free_blk bK_1.out 2
        have bK1l := lt_blk bK_1.out
        go_wp2_with fail
        refine (HI.out _).mono ?_
        rintro e wx ⟨rfl, rfl⟩
        go_wp2_with fail
        refine (HJ.out _).mono ?_
        rintro e wx ⟨rfl, rfl⟩
        go_wp2_with fail
        refine (HCN.out _ HB1.out).mono ?_
        rintro e w2 ⟨A1, c1, A2, c2, rfl, hoi, hol, ha2⟩
        clear bK1c0 bK1f0 bK1c1 bK1f1 bK1c2 bK1f2 bK1l
        have HB2 := Lib.hid (HB1.out.trans (ha2.mono HB1.out.size))
        have bK_2 := Lib.hid ((ha2.block (w.heap.size) (lt_blk bK_1.out)).trans bK_1.out)
        have bR_2 := Lib.hid ((ha2.block (w.heap.size + 1) (lt_blk bR_1.out)).trans bR_1.out)
        have hz2 := ha2.size
        clear ha2
        have oI_2 := Lib.hid hoi
        clear hoi
        have oL_2 := Lib.hid hol
        clear hol
        have bK2c0 := cell_blk (i := 0) bK_2.out rfl
        have bK2f0 := free_blk bK_2.out 0
        have bK2c1 := cell_blk (i := 1) bK_2.out rfl
        have bK2f1 := free_blk bK_2.out 1
        have bK2c2 := cell_blk (i := 2) bK_2.out rfl
        have bK2f2 := free_blk bK_2.out 2
        have bK2l := lt_blk bK_2.out
        have bR2c0 := cell_blk (i := 0) bR_2.out rfl
        have bR2f0 := free_blk bR_2.out 0
        have bR2c1 := cell_blk (i := 1) bR_2.out rfl
        have bR2f1 := free_blk bR_2.out 1
        have bR2c2 := cell_blk (i := 2) bR_2.out rfl
        have bR2f2 := free_blk bR_2.out 2
        have bR2l := lt_blk bR_2.out
        go_upto_region 4 with fail
        obtain ⟨V2, hV2⟩ : ∃ V2, V2 = w2.alloc (.cells #[.int .i64 tm, .slice A1 n c1, .slice A2 n' c2] 30) := ⟨_, rfl⟩
        have haV2 := below1 w2 (.cells #[.int .i64 tm, .slice A1 n c1, .slice A2 n' c2] 30)
        have hnV2 := heap_alloc_new w2 (.cells #[.int .i64 tm, .slice A1 n c1, .slice A2 n' c2] 30)
        rw [← hV2] at haV2 hnV2 ⊢
        have hsV2 : V2.heap.size = w2.heap.size + 1 := by rw [hV2]; simp
        clear bK2c0 bK2f0 bK2c1 bK2f1 bK2c2 bK2f2 bK2l bR2c0 bR2f0 bR2c1 bR2f1 bR2c2 bR2f2 bR2l
        have HBV2 := Lib.hid (HB2.out.trans (haV2.mono HB2.out.size))
        have bK_V2 := Lib.hid ((haV2.block (w.heap.size) (lt_blk bK_2.out)).trans bK_2.out)
        have bR_V2 := Lib.hid ((haV2.block (w.heap.size + 1) (lt_blk bR_2.out)).trans bR_2.out)
        have oI_V2 := Lib.hid (oI_2.out.since haV2 (by omega))
        have oL_V2 := Lib.hid (oL_2.out.since haV2 (by omega))
        have hzV2 := haV2.size
        have bQ_V2 := Lib.hid hnV2
        clear hV2 haV2 hnV2
        have bQV2c0 := cell_blk (i := 0) bQ_V2.out rfl
        have bQV2f0 := free_blk bQ_V2.out 0
        have bQV2c1 := cell_blk (i := 1) bQ_V2.out rfl
        have bQV2f1 := free_blk bQ_V2.out 1
        have bQV2c2 := cell_blk (i := 2) bQ_V2.out rfl
        have bQV2f2 := free_blk bQ_V2.out 2
        have bQV2l := lt_blk bQ_V2.out
        have bRV2c0 := cell_blk (i := 0) bR_V2.out rfl
        have bRV2f0 := free_blk bR_V2.out 0
        have bRV2c1 := cell_blk (i := 1) bR_V2.out rfl
        have bRV2f1 := free_blk bR_V2.out 1
        have bRV2c2 := cell_blk (i := 2) bR_V2.out rfl
        have bRV2f2 := free_blk bR_V2.out 2
        have bRV2l := lt_blk bR_V2.out
        go_wp2
        exact bodyPost_ret (v := .tuple #[.agg #[.int .i64 (tm + b), .slice A1 n c1, .slice A2 n' c2], .bool true]) (by simp [results, Try.results17, go_sem, bRV2c0, bRV2f0, bRV2c1, bRV2f1, bRV2c2, bRV2f2]) rfl (yesW_post HN.out HN'.out ((OwnCk.put3 (oI_V2.out.high (Nat.le_refl _) _) (by omega)).wider (by omega) (by simp [World.setCell]; omega)) ((OwnLe.put3 (oL_V2.out.high (Nat.le_refl _) _) (by omega)).wider (by omega) (by simp [World.setCell]; omega)) (bel_put3 (HBV2.out.setCell (p := ⟨w2.heap.size, 0, none⟩) (by simp only []; omega) _) (by omega)))
end Go.Proofs.Ytpppgihoekfmoaa.Wt
