/-
  l10Has; NewWatch and DriftTo, of the model and of the program.
-/
import Derived.Test.YtpppgihoekfmoaaWtF1
import Derived.Deep.DeepCutAuto
namespace Go.Proofs.Ytpppgihoekfmoaa.Wt
open Go.RowKit
set_option linter.unusedVariables false
set_option linter.unusedSimpArgs false

set_option maxRecDepth 100000 in
set_option maxHeartbeats 4000000 in
theorem l10Has_any (tm : Int) (A A' : Option Addr) (n c n' c' : Nat) (is : List Int) (ls : List (Int × Int × Int)) (a : Int) (B : Nat) (w : World) (hn : is.length = n) (hn' : ls.length = n') (h : CksB w B A is) (h' : LesB w B A' ls) (hB : B ≤ w.heap.size) :
    Calls Try.prog 34 #[.agg #[.int .i64 tm, .slice A n c, .slice A' n' c'], .int .i64 a] w fun e w' => e = .returned (.bool (hasW tm is ls a)) ∧ Below w.heap.size w w' := by
  have HB0 := Lib.hid (below1 w (.cells #[.int .i64 tm, .slice A n c, .slice A' n' c'] 30))
  have bK_0 := Lib.hid (heap_alloc_new w (.cells #[.int .i64 tm, .slice A n c, .slice A' n' c'] 30))
  have HG := Lib.hid (fun W (hW : Below w.heap.size w W) => l10Good_any tm A A' n c n' c' is ls B W hn hn' (h.below (hW.mono hB)) (h'.below (hW.mono hB)) (Nat.le_trans hB hW.size))
  have HI := Lib.hid (fun W => l1In_any a 0 ((n : Int) - 1) W)
  unfold hasW
  rw [hn]
  cases g1 : wchB tm is ls with
  | false =>
    rw [g1] at HG
    simp only [Bool.false_and]
    clear h h' hn hn' g1
    go_enter Try.func34, Try.ntmps34
    go_wp2_with fail
    refine (HG.out _ HB0.out).mono ?_
    rintro e w1 ⟨rfl, ha1⟩
    have HB1 := Lib.hid (HB0.out.trans (ha1.mono HB0.out.size))
    have bK_1 := Lib.hid ((ha1.block (w.heap.size) (lt_blk bK_0.out)).trans bK_0.out)
    have hz1 := ha1.size
    simp only [World.size_alloc] at hz1
    clear ha1
    go_wp2
    go_ret
    exact ⟨rfl, HB1.out⟩
  | true =>
    have gc5 := (wchB_true g1).2.1.2
    rw [hn] at gc5
    rw [g1] at HG
    simp only [Bool.true_and]
    clear h h' hn hn' g1
    go_enter Try.func34, Try.ntmps34
    go_wp2_with fail
    refine (HG.out _ HB0.out).mono ?_
    rintro e w1 ⟨rfl, ha1⟩
    have HB1 := Lib.hid (HB0.out.trans (ha1.mono HB0.out.size))
    have bK_1 := Lib.hid ((ha1.block (w.heap.size) (lt_blk bK_0.out)).trans bK_0.out)
    have hz1 := ha1.size
    simp only [World.size_alloc] at hz1
    clear ha1
    have bK1c0 := cell_blk (i := 0) bK_1.out rfl
    have bK1f0 := free_blk bK_1.out 0
    have bK1c1 := cell_blk (i := 1) bK_1.out rfl
    have bK1f1 := free_blk bK_1.out 1
    have bK1c2 := cell_blk (i := 2) bK_1.out rfl
    have bK1f2 := free_blk bK_1.out 2
    have bK1l := lt_blk bK_1.out
    go_wp2_with fail
    refine (HI.out _).mono ?_
    rintro e wx ⟨rfl, rfl⟩
    go_wp2
    go_ret
    exact ⟨rfl, HB1.out⟩

set_option maxRecDepth 100000 in
set_option maxHeartbeats 4000000 in
theorem specNewWatch_any (A : Option Addr) (n c : Nat) (is : List Int) (B : Nat) (w : World) (hn : is.length = n) (h : CksB w B A is) (hB : B ≤ w.heap.size) (hl : n ≤ 1048576) :
    Calls Try.prog 9 #[.slice A n c] w (WAPost (newW is) w) := by
  have hnil : ∀ (W : World) (B : Nat), LesB W B none [] := fun W B => .inl rfl
  have HB0 := Lib.hid (below1 w (.cells #[.int .i64 0, .slice none 0 0, .slice none 0 0] 30))
  have bR_0 := Lib.hid (heap_alloc_new w (.cells #[.int .i64 0, .slice none 0 0, .slice none 0 0] 30))
  have hcn := (fun W (hW : Below w.heap.size w W) => l10Own_any 0 A none n c 0 0 is [] B W hn rfl (h.below (hW.mono hB)) (hnil W B) (Nat.le_trans hB hW.size) (by omega) (by omega))
  unfold WtV at hcn
  simp only [hn, List.length_nil] at hcn
  have HCN := Lib.hid hcn
  clear hcn
  have HN := Lib.hid hn
  have HN0 := Lib.hid (show ([] : List (Int × Int × Int)).length = 0 from rfl)
  unfold newW
  have hif := fun W A1 c1 A2 c2 (hi : CksB W W.heap.size A1 is) (hl : LesB W W.heap.size A2 []) => l10If_any 0 A1 A2 n c1 0 c2 is [] W.heap.size W hn rfl hi hl (Nat.le_refl _)
  have HIF := Lib.hid hif
  clear hif
  cases g3 : wchB 0 is [] with
  | false =>
    rw [show ifW 0 is [] = noW by simp [ifW, g3]]
    rw [g3] at HIF
    simp only [cond_false] at HIF
    clear h hn g3
    go_enter Try.func9, Try.ntmps9
    go_wp2_with fail
    refine (HCN.out _ HB0.out).mono ?_
    rintro e w1 ⟨A1, c1, A2, c2, rfl, hoi, hol, ha1⟩
    have HB1 := Lib.hid (HB0.out.trans (ha1.mono HB0.out.size))
    have bR_1 := Lib.hid ((ha1.block (w.heap.size) (lt_blk bR_0.out)).trans bR_0.out)
    have hz1 := ha1.size
    simp only [World.size_alloc] at hz1
    clear ha1
    try simp only [World.size_alloc] at hoi
    have oI_1 := Lib.hid hoi
    clear hoi
    try simp only [World.size_alloc] at hol
    have oL_1 := Lib.hid hol
    clear hol
    go_wp2_with fail
    refine (HIF.out _ _ _ _ _ (oI_1.out.cks.mono (by omega)) (oL_1.out.les.mono (by omega))).mono ?_
    rintro e w2 ⟨rfl, ha2⟩
    have HB2 := Lib.hid (HB1.out.trans (ha2.mono HB1.out.size))
    have bR_2 := Lib.hid ((ha2.block (w.heap.size) (lt_blk bR_1.out)).trans bR_1.out)
    have oI_2 := Lib.hid (oI_1.out.since ha2 (by omega))
    have oL_2 := Lib.hid (oL_1.out.since ha2 (by omega))
    have hz2 := ha2.size
    clear ha2
    have bR2c0 := cell_blk (i := 0) bR_2.out rfl
    have bR2f0 := free_blk bR_2.out 0
    have bR2c1 := cell_blk (i := 1) bR_2.out rfl
    have bR2f1 := free_blk bR_2.out 1
    have bR2c2 := cell_blk (i := 2) bR_2.out rfl
    have bR2f2 := free_blk bR_2.out 2
    have bR2l := lt_blk bR_2.out
    go_wp2
    exact bodyPost_ret (v := .tuple #[.agg #[.int .i64 0, .slice none 0 0, .slice none 0 0], .bool false]) (by simp [results, Try.results9, go_sem, bR2c0, bR2f0, bR2c1, bR2f1, bR2c2, bR2f2]) rfl (noW_post (bel_put3 HB2.out (by omega)))
  | true =>
    rw [show ifW 0 is [] = (0, is, [], true) by simp [ifW, g3]]
    rw [g3] at HIF
    simp only [cond_true] at HIF
    clear h hn g3
    go_enter Try.func9, Try.ntmps9
    go_wp2_with fail
    refine (HCN.out _ HB0.out).mono ?_
    rintro e w1 ⟨A1, c1, A2, c2, rfl, hoi, hol, ha1⟩
    have HB1 := Lib.hid (HB0.out.trans (ha1.mono HB0.out.size))
    have bR_1 := Lib.hid ((ha1.block (w.heap.size) (lt_blk bR_0.out)).trans bR_0.out)
    have hz1 := ha1.size
    simp only [World.size_alloc] at hz1
    clear ha1
    try simp only [World.size_alloc] at hoi
    have oI_1 := Lib.hid hoi
    clear hoi
    try simp only [World.size_alloc] at hol
    have oL_1 := Lib.hid hol
    clear hol
    go_wp2_with fail
    refine (HIF.out _ _ _ _ _ (oI_1.out.cks.mono (by omega)) (oL_1.out.les.mono (by omega))).mono ?_
    rintro e w2 ⟨rfl, ha2⟩
    have HB2 := Lib.hid (HB1.out.trans (ha2.mono HB1.out.size))
    have bR_2 := Lib.hid ((ha2.block (w.heap.size) (lt_blk bR_1.out)).trans bR_1.out)
    have oI_2 := Lib.hid (oI_1.out.since ha2 (by omega))
    have oL_2 := Lib.hid (oL_1.out.since ha2 (by omega))
    have hz2 := ha2.size
    clear ha2
    have bR2c0 := cell_blk (i := 0) bR_2.out rfl
    have bR2f0 := free_blk bR_2.out 0
    have bR2c1 := cell_blk (i := 1) bR_2.out rfl
    have bR2f1 := free_blk bR_2.out 1
    have bR2c2 := cell_blk (i := 2) bR_2.out rfl
    have bR2f2 := free_blk bR_2.out 2
    have bR2l := lt_blk bR_2.out
    go_wp2
    exact bodyPost_ret (v := .tuple #[.agg #[.int .i64 0, .slice A1 n c1, .slice A2 0 c2], .bool true]) (by simp [results, Try.results9, go_sem, bR2c0, bR2f0, bR2c1, bR2f1, bR2c2, bR2f2]) rfl (yesW_post HN.out HN0.out ((OwnCk.put3 oI_2.out (by omega)).wider (by omega) (by simp [World.setCell]; omega)) ((OwnLe.put3 oL_2.out (by omega)).wider (by omega) (by simp [World.setCell]; omega)) (bel_put3 HB2.out (by omega)))

set_option maxRecDepth 100000 in
set_option maxHeartbeats 4000000 in
theorem implNewWatch_any (A : Option Addr) (n c : Nat) (is : List Int) (B : Nat) (w : World) (hn : is.length = n) (h : CksB w B A is) (hB : B ≤ w.heap.size) (hl : n ≤ 1048576) :
    Calls Try.prog 8 #[.slice A n c] w (WAPost (newW is) w) := by
  have hnil : ∀ (W : World) (B : Nat), LesB W B none [] := fun W B => .inl rfl
  have HB0 := Lib.hid (below1 w (.cells #[.int .i64 0, .slice none 0 0, .slice none 0 0] 30))
  have bR_0 := Lib.hid (heap_alloc_new w (.cells #[.int .i64 0, .slice none 0 0, .slice none 0 0] 30))
  have hcn := (fun W (hW : Below w.heap.size w W) => copyWatch_any 0 A none n c 0 0 is [] B W hn rfl (h.below (hW.mono hB)) (hnil W B) (Nat.le_trans hB hW.size) (by omega) (by omega))
  unfold WtV at hcn
  simp only [hn, List.length_nil] at hcn
  have HCN := Lib.hid hcn
  clear hcn
  have HN := Lib.hid hn
  have HN0 := Lib.hid (show ([] : List (Int × Int × Int)).length = 0 from rfl)
  unfold newW
  have HG := Lib.hid (fun W (hW : Below w.heap.size w W) => implGoodWatch_any 0 A none n c 0 0 is [] B W hn rfl (h.below (hW.mono hB)) (hnil W B) (Nat.le_trans hB hW.size))
  cases g3 : wchB 0 is [] with
  | false =>
    rw [show ifW 0 is [] = noW by simp [ifW, g3]]
    rw [g3] at HG
    clear h hn g3
    go_enter Try.func8, Try.ntmps8
    go_wp2_with fail
    obtain ⟨V0, hV0⟩ : ∃ V0, V0 = (w.alloc (.cells #[.int .i64 0, .slice none 0 0, .slice none 0 0] 30)).alloc (.cells #[.int .i64 0, .slice A n c, .slice none 0 0] 30) := ⟨_, rfl⟩
    have haV0 := below1 (w.alloc (.cells #[.int .i64 0, .slice none 0 0, .slice none 0 0] 30)) (.cells #[.int .i64 0, .slice A n c, .slice none 0 0] 30)
    have hnV0 := heap_alloc_new (w.alloc (.cells #[.int .i64 0, .slice none 0 0, .slice none 0 0] 30)) (.cells #[.int .i64 0, .slice A n c, .slice none 0 0] 30)
    rw [← hV0] at haV0 hnV0 ⊢
    have hsV0 : V0.heap.size = (w.alloc (.cells #[.int .i64 0, .slice none 0 0, .slice none 0 0] 30)).heap.size + 1 := by rw [hV0]; simp
    simp only [World.size_alloc] at hnV0 hsV0
    have HBV0 := Lib.hid (HB0.out.trans (haV0.mono HB0.out.size))
    have bR_V0 := Lib.hid ((haV0.block (w.heap.size) (lt_blk bR_0.out)).trans bR_0.out)
    have hzV0 := haV0.size
    simp only [World.size_alloc] at hzV0
    have bQ_V0 := Lib.hid hnV0
    clear hV0 haV0 hnV0
    refine (HG.out _ HBV0.out).mono ?_
    rintro e w1 ⟨rfl, ha1⟩
    have HB1 := Lib.hid (HBV0.out.trans (ha1.mono HBV0.out.size))
    have bR_1 := Lib.hid ((ha1.block (w.heap.size) (lt_blk bR_V0.out)).trans bR_V0.out)
    have bQ_1 := Lib.hid ((ha1.block (w.heap.size + 1) (lt_blk bQ_V0.out)).trans bQ_V0.out)
    have hz1 := ha1.size
    clear ha1
    have bQ1c0 := cell_blk (i := 0) bQ_1.out rfl
    have bQ1f0 := free_blk bQ_1.out 0
    have bQ1c1 := cell_blk (i := 1) bQ_1.out rfl
    have bQ1f1 := free_blk bQ_1.out 1
    have bQ1c2 := cell_blk (i := 2) bQ_1.out rfl
    have bQ1f2 := free_blk bQ_1.out 2
    have bQ1l := lt_blk bQ_1.out
    have bR1c0 := cell_blk (i := 0) bR_1.out rfl
    have bR1f0 := free_blk bR_1.out 0
    have bR1c1 := cell_blk (i := 1) bR_1.out rfl
    have bR1f1 := free_blk bR_1.out 1
    have bR1c2 := cell_blk (i := 2) bR_1.out rfl
    have bR1f2 := free_blk bR_1.out 2
    have bR1l := lt_blk bR_1.out
    go_wp2
    exact bodyPost_ret (v := .tuple #[.agg #[.int .i64 0, .slice none 0 0, .slice none 0 0], .bool false]) (by simp [results, Try.results8, go_sem, bR1c0, bR1f0, bR1c1, bR1f1, bR1c2, bR1f2]) rfl (noW_post (bel_put3 HB1.out (by omega)))
  | true =>
    rw [show ifW 0 is [] = (0, is, [], true) by simp [ifW, g3]]
    rw [g3] at HG
    clear h hn g3
    go_enter Try.func8, Try.ntmps8
    go_wp2_with fail
    obtain ⟨V0, hV0⟩ : ∃ V0, V0 = (w.alloc (.cells #[.int .i64 0, .slice none 0 0, .slice none 0 0] 30)).alloc (.cells #[.int .i64 0, .slice A n c, .slice none 0 0] 30) := ⟨_, rfl⟩
    have haV0 := below1 (w.alloc (.cells #[.int .i64 0, .slice none 0 0, .slice none 0 0] 30)) (.cells #[.int .i64 0, .slice A n c, .slice none 0 0] 30)
    have hnV0 := heap_alloc_new (w.alloc (.cells #[.int .i64 0, .slice none 0 0, .slice none 0 0] 30)) (.cells #[.int .i64 0, .slice A n c, .slice none 0 0] 30)
    rw [← hV0] at haV0 hnV0 ⊢
    have hsV0 : V0.heap.size = (w.alloc (.cells #[.int .i64 0, .slice none 0 0, .slice none 0 0] 30)).heap.size + 1 := by rw [hV0]; simp
    simp only [World.size_alloc] at hnV0 hsV0
    have HBV0 := Lib.hid (HB0.out.trans (haV0.mono HB0.out.size))
    have bR_V0 := Lib.hid ((haV0.block (w.heap.size) (lt_blk bR_0.out)).trans bR_0.out)
    have hzV0 := haV0.size
    simp only [World.size_alloc] at hzV0
    have bQ_V0 := Lib.hid hnV0
    clear hV0 haV0 hnV0
    refine (HG.out _ HBV0.out).mono ?_
    rintro e w1 ⟨rfl, ha1⟩
    have HB1 := Lib.hid (HBV0.out.trans (ha1.mono HBV0.out.size))
    have bR_1 := Lib.hid ((ha1.block (w.heap.size) (lt_blk bR_V0.out)).trans bR_V0.out)
    have bQ_1 := Lib.hid ((ha1.block (w.heap.size + 1) (lt_blk bQ_V0.out)).trans bQ_V0.out)
    have hz1 := ha1.size
    clear ha1
    have bQ1c0 := cell_blk (i := 0) bQ_1.out rfl
    have bQ1f0 := free_blk bQ_1.out 0
    have bQ1c1 := cell_blk (i := 1) bQ_1.out rfl
    have bQ1f1 := free_blk bQ_1.out 1
    have bQ1c2 := cell_blk (i := 2) bQ_1.out rfl
    have bQ1f2 := free_blk bQ_1.out 2
    have bQ1l := lt_blk bQ_1.out
    go_wp2_with fail
    refine (HCN.out _ HB1.out).mono ?_
    rintro e w2 ⟨A1, c1, A2, c2, rfl, hoi, hol, ha2⟩
    clear bQ1c0 bQ1f0 bQ1c1 bQ1f1 bQ1c2 bQ1f2 bQ1l
    have HB2 := Lib.hid (HB1.out.trans (ha2.mono HB1.out.size))
    have bR_2 := Lib.hid ((ha2.block (w.heap.size) (lt_blk bR_1.out)).trans bR_1.out)
    have bQ_2 := Lib.hid ((ha2.block (w.heap.size + 1) (lt_blk bQ_1.out)).trans bQ_1.out)
    have hz2 := ha2.size
    clear ha2
    try simp only [World.size_alloc] at hoi
    have oI_2 := Lib.hid hoi
    clear hoi
    try simp only [World.size_alloc] at hol
    have oL_2 := Lib.hid hol
    clear hol
    have bR2c0 := cell_blk (i := 0) bR_2.out rfl
    have bR2f0 := free_blk bR_2.out 0
    have bR2c1 := cell_blk (i := 1) bR_2.out rfl
    have bR2f1 := free_blk bR_2.out 1
    have bR2c2 := cell_blk (i := 2) bR_2.out rfl
    have bR2f2 := free_blk bR_2.out 2
    have bR2l := lt_blk bR_2.out
    go_wp2
    exact bodyPost_ret (v := .tuple #[.agg #[.int .i64 0, .slice A1 n c1, .slice A2 0 c2], .bool true]) (by simp [results, Try.results8, go_sem, bR2c0, bR2f0, bR2c1, bR2f1, bR2c2, bR2f2]) rfl (yesW_post HN.out HN0.out ((OwnCk.put3 oI_2.out (by omega)).wider (by omega) (by simp [World.setCell])) ((OwnLe.put3 oL_2.out (by omega)).wider (by omega) (by simp [World.setCell])) (bel_put3 HB2.out (by omega)))

/-- A clock set, where the clocks are owned. -/
theorem OwnCk.drift {w : World} {lo hi g cap k : Nat} {is : List Int} (h : OwnCk w lo hi (some ⟨g, 0, none⟩) cap is) (hk : k < is.length) (v : Int) : OwnCk (w.setCell ⟨g, k, none⟩ (.int .i64 v)) lo hi (some ⟨g, 0, none⟩) cap (is.set k v) := by
  have h1 := Own.put h k 0 (by simpa using hk) (by decide) (by simp [ckCs]) (.int .i64 v)
  rw [Nat.mul_one, Nat.add_zero] at h1
  have e : (is.map ckCs).set k (((is.map ckCs)[k]'(by simpa using hk)).set 0 (.int .i64 v)) = (is.set k v).map ckCs := by
    rw [List.map_set]
    simp [ckCs]
  rw [e] at h1
  exact h1

set_option maxRecDepth 100000 in
set_option maxHeartbeats 8000000 in
theorem specDriftTo_any (tm : Int) (A A' : Option Addr) (n c n' c' : Nat) (is : List Int) (ls : List (Int × Int × Int)) (a b : Int) (B : Nat) (w : World) (hn : is.length = n) (hn' : ls.length = n') (h : CksB w B A is) (h' : LesB w B A' ls) (hB : B ≤ w.heap.size) :
    Calls Try.prog 51 #[.agg #[.int .i64 tm, .slice A n c, .slice A' n' c'], .int .i64 a, .int .i64 b] w (WAPost (driftW tm is ls a b) w) := by
  have HB0 := Lib.hid (below2 w (.cells #[.int .i64 tm, .slice A n c, .slice A' n' c'] 30) (.cells #[.int .i64 0, .slice none 0 0, .slice none 0 0] 30))
  have bK_0 := Lib.hid (((below1 (w.alloc (.cells #[.int .i64 tm, .slice A n c, .slice A' n' c'] 30)) (.cells #[.int .i64 0, .slice none 0 0, .slice none 0 0] 30)).block w.heap.size (by simp)).trans (heap_alloc_new w (.cells #[.int .i64 tm, .slice A n c, .slice A' n' c'] 30)))
  have bR_0 := Lib.hid (alloc_snd w (.cells #[.int .i64 tm, .slice A n c, .slice A' n' c'] 30) (.cells #[.int .i64 0, .slice none 0 0, .slice none 0 0] 30))
  have HG := Lib.hid (fun W (hW : Below w.heap.size w W) => l10Has_any tm A A' n c n' c' is ls a B W hn hn' (h.below (hW.mono hB)) (h'.below (hW.mono hB)) (Nat.le_trans hB hW.size))
  have HI := Lib.hid (fun W => l1In_any b (-5) 5 W)
  cases g1 : hasW tm is ls a with
  | false =>
    rw [show driftW tm is ls a b = noW by simp [driftW, g1]]
    rw [g1] at HG
    clear g1
    clear h h' hn hn'
    go_enter Try.func51, Try.ntmps51
    go_wp2_with fail
    refine (HG.out _ HB0.out).mono ?_
    rintro e w1 ⟨rfl, ha1⟩
    have HB1 := Lib.hid (HB0.out.trans (ha1.mono HB0.out.size))
    have bK_1 := Lib.hid ((ha1.block (w.heap.size) (lt_blk bK_0.out)).trans bK_0.out)
    have bR_1 := Lib.hid ((ha1.block (w.heap.size + 1) (lt_blk bR_0.out)).trans bR_0.out)
    have hz1 := ha1.size
    simp only [World.size_alloc] at hz1
    clear ha1
    have bK1c0 := cell_blk (i := 0) bK_1.out rfl
    have bK1f0 := free_blk bK_1.out 0
    have bK1c1 := cell_blk (i := 1) bK_1.out rfl
    have bK1f1 := free_blk bK_1.out 1
    have bK1c2 := cell_blk (i := 2) bK_1.out rfl
    have bK1f2 := free_blk bK_1.out 2
    have bK1l := lt_blk bK_1.out
    have bR1c0 := cell_blk (i := 0) bR_1.out rfl
    have bR1f0 := free_blk bR_1.out 0
    have bR1c1 := cell_blk (i := 1) bR_1.out rfl
    have bR1f1 := free_blk bR_1.out 1
    have bR1c2 := cell_blk (i := 2) bR_1.out rfl
    have bR1f2 := free_blk bR_1.out 2
    have bR1l := lt_blk bR_1.out
    go_wp2
    exact bodyPost_ret (v := .tuple #[.agg #[.int .i64 0, .slice none 0 0, .slice none 0 0], .bool false]) (by simp [results, Try.results51, go_sem, bR1c0, bR1f0, bR1c1, bR1f1, bR1c2, bR1f2]) rfl (noW_post (bel_put3 HB1.out (by omega)))
  | true =>
    cases g2 : inB b (-5) 5 with
    | false =>
      rw [show driftW tm is ls a b = noW by simp [driftW, g1, g2]]
      rw [g1] at HG
      rw [g2] at HI
      clear g1 g2
      clear h h' hn hn'
      go_enter Try.func51, Try.ntmps51
      go_wp2_with fail
      refine (HG.out _ HB0.out).mono ?_
      rintro e w1 ⟨rfl, ha1⟩
      have HB1 := Lib.hid (HB0.out.trans (ha1.mono HB0.out.size))
      have bK_1 := Lib.hid ((ha1.block (w.heap.size) (lt_blk bK_0.out)).trans bK_0.out)
      have bR_1 := Lib.hid ((ha1.block (w.heap.size + 1) (lt_blk bR_0.out)).trans bR_0.out)
      have hz1 := ha1.size
      simp only [World.size_alloc] at hz1
      clear ha1
      have bK1c0 := cell_blk (i := 0) bK_1.out rfl
      have bK1f0 := free_blk bK_1.out 0
      have bK1c1 := cell_blk (i := 1) bK_1.out rfl
      have bK1f1 := free_blk bK_1.out 1
      have bK1c2 := cell_blk (i := 2) bK_1.out rfl
      have bK1f2 := free_blk bK_1.out 2
      have bK1l := lt_blk bK_1.out
      go_wp2_with fail
      refine (HI.out _).mono ?_
      rintro e wx ⟨rfl, rfl⟩
      have bR1c0 := cell_blk (i := 0) bR_1.out rfl
      have bR1f0 := free_blk bR_1.out 0
      have bR1c1 := cell_blk (i := 1) bR_1.out rfl
      have bR1f1 := free_blk bR_1.out 1
      have bR1c2 := cell_blk (i := 2) bR_1.out rfl
      have bR1f2 := free_blk bR_1.out 2
      have bR1l := lt_blk bR_1.out
      go_wp2
      exact bodyPost_ret (v := .tuple #[.agg #[.int .i64 0, .slice none 0 0, .slice none 0 0], .bool false]) (by simp [results, Try.results51, go_sem, bR1c0, bR1f0, bR1c1, bR1f1, bR1c2, bR1f2]) rfl (noW_post (bel_put3 HB1.out (by omega)))
    | true =>
      rw [show driftW tm is ls a b = (tm, is.set a.toNat b, ls, true) by simp [driftW, g1, g2]]
      rw [g1] at HG
      rw [g2] at HI
      obtain ⟨g3, ga, gb⟩ := hasW_true g1
      obtain ⟨_, ⟨_, gc5⟩, gl, _⟩ := wchB_true g3
      obtain ⟨k, rfl⟩ : ∃ k : Nat, a = (k : Int) := ⟨a.toNat, by omega⟩
      rw [Int.toNat_natCast]
      clear g1 g2 g3
      have hcn := (fun W (hW : Below w.heap.size w W) => l10Own_any tm A A' n c n' c' is ls B W hn hn' (h.below (hW.mono hB)) (h'.below (hW.mono hB)) (Nat.le_trans hB hW.size) (by omega) (by omega))
      unfold WtV at hcn
      simp only [hn, hn'] at hcn
      have HCN := Lib.hid hcn
      clear hcn
      have HN := Lib.hid (show (is.set k b).length = n by rw [List.length_set]; exact hn)
      have HN' := Lib.hid hn'
      have HKI := Lib.hid (show k < is.length by omega)
      have hk0 : (0 : Int) ≤ (k : Int) := by omega
      have hkn : (k : Int) < (n : Int) := by omega
      clear h h' hn hn'
      go_enter Try.func51, Try.ntmps51
      go_wp2_with fail
      refine (HG.out _ HB0.out).mono ?_
      rintro e w1 ⟨rfl, ha1⟩
      have HB1 := Lib.hid (HB0.out.trans (ha1.mono HB0.out.size))
      have bK_1 := Lib.hid ((ha1.block (w.heap.size) (lt_blk bK_0.out)).trans bK_0.out)
      have bR_1 := Lib.hid ((ha1.block (w.heap.size + 1) (lt_blk bR_0.out)).trans bR_0.out)
      have hz1 := ha1.size
      simp only [World.size_alloc] at hz1
      clear ha1
      have bK1c0 := cell_blk (i := 0) bK_1.out rfl
      have bK1f0 := free_blk bK_1.out 0
      have bK1c1 := cell_blk (i := 1) bK_1.out rfl
      have bK1f1 := free_blk bK_1.out 1
      have bK1c2 := cell_blk (i := 2) bK_1.out rfl
      have bK1f2 := free_blk bK_1.out 2
      have bK1l := lt_blk bK_1.out
      go_wp2_with fail
      refine (HI.out _).mono ?_
      rintro e wx ⟨rfl, rfl⟩
      go_wp2_with fail
      refine (HCN.out _ HB1.out).mono ?_
      rintro e w2 ⟨A1, c1, A2, c2, rfl, hoi, hol, ha2⟩
      clear bK1c0 bK1f0 bK1c1 bK1f1 bK1c2 bK1f2 bK1l
      have HB2 := Lib.hid (HB1.out.trans (ha2.mono HB1.out.size))
      have bK_2 := Lib.hid ((ha2.block (w.heap.size) (lt_blk bK_1.out)).trans bK_1.out)
      have bR_2 := Lib.hid ((ha2.block (w.heap.size + 1) (lt_blk bR_1.out)).trans bR_1.out)
      have hz2 := ha2.size
      clear ha2
      obtain ⟨g, cur, rfl, hg1, hg2, hgh, hgc, hgs⟩ := Own.form hoi (by simp; have := HKI.out; omega)
      obtain ⟨v0, hv0⟩ : ∃ v0, w2.cell? ⟨g, k, none⟩ = some v0 := ⟨_, (by obtain ⟨b9, o9, e9, _, h9⟩ := hoi.cks.get (by have := HKI.out; omega); injection e9 with e9; injection e9 with e1 e2; subst e1 e2; have := h9 k HKI.out; rw [Nat.zero_add] at this; exact this)⟩
      have hvf := free_blk hgh k
      have hgl := lt_blk hgh
      try simp only [World.size_alloc] at hoi
      have oI_2 := Lib.hid hoi
      clear hoi
      try simp only [World.size_alloc] at hol
      have oL_2 := Lib.hid hol
      clear hol
      have bK2c0 := cell_blk (i := 0) bK_2.out rfl
      have bK2f0 := free_blk bK_2.out 0
      have bK2c1 := cell_blk (i := 1) bK_2.out rfl
      have bK2f1 := free_blk bK_2.out 1
      have bK2c2 := cell_blk (i := 2) bK_2.out rfl
      have bK2f2 := free_blk bK_2.out 2
      have bK2l := lt_blk bK_2.out
      have bR2c0 := cell_blk (i := 0) bR_2.out rfl
      have bR2f0 := free_blk bR_2.out 0
      have bR2c1 := cell_blk (i := 1) bR_2.out rfl
      have bR2f1 := free_blk bR_2.out 1
      have bR2c2 := cell_blk (i := 2) bR_2.out rfl
      have bR2f2 := free_blk bR_2.out 2
      have bR2l := lt_blk bR_2.out
      go_upto_region 4 with fail
      obtain ⟨V2, hV2⟩ : ∃ V2, V2 = w2.alloc (.cells #[.int .i64 tm, .slice (some ⟨g, 0, none⟩) n c1, .slice A2 n' c2] 30) := ⟨_, rfl⟩
      have haV2 := below1 w2 (.cells #[.int .i64 tm, .slice (some ⟨g, 0, none⟩) n c1, .slice A2 n' c2] 30)
      have hnV2 := heap_alloc_new w2 (.cells #[.int .i64 tm, .slice (some ⟨g, 0, none⟩) n c1, .slice A2 n' c2] 30)
      rw [← hV2] at haV2 hnV2 ⊢
      have hsV2 : V2.heap.size = w2.heap.size + 1 := by rw [hV2]; simp
      clear bK2c0 bK2f0 bK2c1 bK2f1 bK2c2 bK2f2 bK2l bR2c0 bR2f0 bR2c1 bR2f1 bR2c2 bR2f2 bR2l
      have HBV2 := Lib.hid (HB2.out.trans (haV2.mono HB2.out.size))
      have bK_V2 := Lib.hid ((haV2.block (w.heap.size) (lt_blk bK_2.out)).trans bK_2.out)
      have bR_V2 := Lib.hid ((haV2.block (w.heap.size + 1) (lt_blk bR_2.out)).trans bR_2.out)
      have oI_V2 := Lib.hid (oI_2.out.since haV2 (by omega))
      have oL_V2 := Lib.hid (oL_2.out.since haV2 (by omega))
      have hzV2 := haV2.size
      have bQ_V2 := Lib.hid hnV2
      have HZ2 := Lib.hid haV2
      have HGT := Lib.hid ((haV2.block g hgl).trans hgh)
      clear hV2 haV2 hnV2
      have hv1 : V2.cell? ⟨g, k, none⟩ = some v0 := (HZ2.out.cell (p := ⟨g, k, none⟩) hgl).trans hv0
      have hvf1 : V2.frozen? ⟨g, k, none⟩ = false := (HZ2.out.frozen (p := ⟨g, k, none⟩) hgl).trans hvf
      have hgl1 : g < V2.heap.size := by omega
      have hne : w2.heap.size ≠ g := by omega
      have hne1 : w.heap.size + 1 ≠ g := by omega
      clear hv0 hvf hgh hgc hgs
      have bQV2c0 := cell_blk (i := 0) bQ_V2.out rfl
      have bQV2f0 := free_blk bQ_V2.out 0
      have bQV2c1 := cell_blk (i := 1) bQ_V2.out rfl
      have bQV2f1 := free_blk bQ_V2.out 1
      have bQV2c2 := cell_blk (i := 2) bQ_V2.out rfl
      have bQV2f2 := free_blk bQ_V2.out 2
      have bQV2l := lt_blk bQ_V2.out
      have bRV2c0 := cell_blk (i := 0) bR_V2.out rfl
      have bRV2f0 := free_blk bR_V2.out 0
      have bRV2c1 := cell_blk (i := 1) bR_V2.out rfl
      have bRV2f1 := free_blk bR_V2.out 1
      have bRV2c2 := cell_blk (i := 2) bR_V2.out rfl
      have bRV2f2 := free_blk bR_V2.out 2
      have bRV2l := lt_blk bR_V2.out
      go_wp2
      exact bodyPost_ret (v := .tuple #[.agg #[.int .i64 tm, .slice (some ⟨g, 0, none⟩) n c1, .slice A2 n' c2], .bool true]) (by simp [results, Try.results51, go_sem, bRV2c0, bRV2f0, bRV2c1, bRV2f1, bRV2c2, bRV2f2]) rfl (yesW_post HN.out HN'.out ((OwnCk.put3 (OwnCk.drift oI_V2.out HKI.out b) (by omega)).wider (by omega) (by simp [World.setCell]; omega)) ((OwnLe.put3 ((Own.otherT (t' := 27) (p := ⟨g, k, none⟩) oL_V2.out HGT.out (by decide) _ : OwnLe _ _ _ _ _ _)) (by omega)).wider (by omega) (by simp [World.setCell]; omega)) (bel_put3 (HBV2.out.setCell (p := ⟨g, k, none⟩) (by simp only []; omega) _) (by omega)))

set_option maxRecDepth 100000 in
set_option maxHeartbeats 8000000 in
theorem implDriftTo_any (tm : Int) (A A' : Option Addr) (n c n' c' : Nat) (is : List Int) (ls : List (Int × Int × Int)) (a b : Int) (B : Nat) (w : World) (hn : is.length = n) (hn' : ls.length = n') (h : CksB w B A is) (h' : LesB w B A' ls) (hB : B ≤ w.heap.size) :
    Calls Try.prog 48 #[.agg #[.int .i64 tm, .slice A n c, .slice A' n' c'], .int .i64 a, .int .i64 b] w (WAPost (driftW tm is ls a b) w) := by
  have HB0 := Lib.hid (below2 w (.cells #[.int .i64 tm, .slice A n c, .slice A' n' c'] 30) (.cells #[.int .i64 0, .slice none 0 0, .slice none 0 0] 30))
  have bK_0 := Lib.hid (((below1 (w.alloc (.cells #[.int .i64 tm, .slice A n c, .slice A' n' c'] 30)) (.cells #[.int .i64 0, .slice none 0 0, .slice none 0 0] 30)).block w.heap.size (by simp)).trans (heap_alloc_new w (.cells #[.int .i64 tm, .slice A n c, .slice A' n' c'] 30)))
  have bR_0 := Lib.hid (alloc_snd w (.cells #[.int .i64 tm, .slice A n c, .slice A' n' c'] 30) (.cells #[.int .i64 0, .slice none 0 0, .slice none 0 0] 30))
  have HG := Lib.hid (fun W (hW : Below w.heap.size w W) => implGoodWatch_any tm A A' n c n' c' is ls B W hn hn' (h.below (hW.mono hB)) (h'.below (hW.mono hB)) (Nat.le_trans hB hW.size))
  have HH := Lib.hid (fun W => hasClock_any tm A A' n c n' c' a W)
  have HI := Lib.hid (fun W => goodClock_any b W)
  cases g1 : wchB tm is ls with
  | false =>
    rw [show driftW tm is ls a b = noW by simp [driftW, hasW, g1]]
    rw [g1] at HG
    clear g1
    clear h h' hn hn'
    go_enter Try.func48, Try.ntmps48
    go_wp2_with fail
    obtain ⟨V0, hV0⟩ : ∃ V0, V0 = ((w.alloc (.cells #[.int .i64 tm, .slice A n c, .slice A' n' c'] 30)).alloc (.cells #[.int .i64 0, .slice none 0 0, .slice none 0 0] 30)).alloc (.cells #[.int .i64 b] 27) := ⟨_, rfl⟩
    have haV0 := below1 ((w.alloc (.cells #[.int .i64 tm, .slice A n c, .slice A' n' c'] 30)).alloc (.cells #[.int .i64 0, .slice none 0 0, .slice none 0 0] 30)) (.cells #[.int .i64 b] 27)
    have hnV0 := heap_alloc_new ((w.alloc (.cells #[.int .i64 tm, .slice A n c, .slice A' n' c'] 30)).alloc (.cells #[.int .i64 0, .slice none 0 0, .slice none 0 0] 30)) (.cells #[.int .i64 b] 27)
    rw [← hV0] at haV0 hnV0 ⊢
    have hsV0 : V0.heap.size = ((w.alloc (.cells #[.int .i64 tm, .slice A n c, .slice A' n' c'] 30)).alloc (.cells #[.int .i64 0, .slice none 0 0, .slice none 0 0] 30)).heap.size + 1 := by rw [hV0]; simp
    simp only [World.size_alloc] at hnV0 hsV0
    have HBV0 := Lib.hid (HB0.out.trans (haV0.mono HB0.out.size))
    have bK_V0 := Lib.hid ((haV0.block (w.heap.size) (lt_blk bK_0.out)).trans bK_0.out)
    have bR_V0 := Lib.hid ((haV0.block (w.heap.size + 1) (lt_blk bR_0.out)).trans bR_0.out)
    have hzV0 := haV0.size
    simp only [World.size_alloc] at hzV0
    have bC_V0 := Lib.hid hnV0
    clear hV0 haV0 hnV0
    refine (HG.out _ HBV0.out).mono ?_
    rintro e w1 ⟨rfl, ha1⟩
    have HB1 := Lib.hid (HBV0.out.trans (ha1.mono HBV0.out.size))
    have bK_1 := Lib.hid ((ha1.block (w.heap.size) (lt_blk bK_V0.out)).trans bK_V0.out)
    have bR_1 := Lib.hid ((ha1.block (w.heap.size + 1) (lt_blk bR_V0.out)).trans bR_V0.out)
    have bC_1 := Lib.hid ((ha1.block (w.heap.size + 1 + 1) (lt_blk bC_V0.out)).trans bC_V0.out)
    have hz1 := ha1.size
    clear ha1
    have bK1c0 := cell_blk (i := 0) bK_1.out rfl
    have bK1f0 := free_blk bK_1.out 0
    have bK1c1 := cell_blk (i := 1) bK_1.out rfl
    have bK1f1 := free_blk bK_1.out 1
    have bK1c2 := cell_blk (i := 2) bK_1.out rfl
    have bK1f2 := free_blk bK_1.out 2
    have bK1l := lt_blk bK_1.out
    have bR1c0 := cell_blk (i := 0) bR_1.out rfl
    have bR1f0 := free_blk bR_1.out 0
    have bR1c1 := cell_blk (i := 1) bR_1.out rfl
    have bR1f1 := free_blk bR_1.out 1
    have bR1c2 := cell_blk (i := 2) bR_1.out rfl
    have bR1f2 := free_blk bR_1.out 2
    have bR1l := lt_blk bR_1.out
    go_wp2
    exact bodyPost_ret (v := .tuple #[.agg #[.int .i64 0, .slice none 0 0, .slice none 0 0], .bool false]) (by simp [results, Try.results48, go_sem, bR1c0, bR1f0, bR1c1, bR1f1, bR1c2, bR1f2]) rfl (noW_post (bel_put3 HB1.out (by omega)))
  | true =>
    cases g2 : inB a 0 ((n : Int) - 1) with
    | false =>
      rw [show driftW tm is ls a b = noW by simp [driftW, hasW, g1, hn, g2]]
      rw [g1] at HG
      rw [g2] at HH
      clear g1 g2
      clear h h' hn hn'
      go_enter Try.func48, Try.ntmps48
      go_wp2_with fail
      obtain ⟨V0, hV0⟩ : ∃ V0, V0 = ((w.alloc (.cells #[.int .i64 tm, .slice A n c, .slice A' n' c'] 30)).alloc (.cells #[.int .i64 0, .slice none 0 0, .slice none 0 0] 30)).alloc (.cells #[.int .i64 b] 27) := ⟨_, rfl⟩
      have haV0 := below1 ((w.alloc (.cells #[.int .i64 tm, .slice A n c, .slice A' n' c'] 30)).alloc (.cells #[.int .i64 0, .slice none 0 0, .slice none 0 0] 30)) (.cells #[.int .i64 b] 27)
      have hnV0 := heap_alloc_new ((w.alloc (.cells #[.int .i64 tm, .slice A n c, .slice A' n' c'] 30)).alloc (.cells #[.int .i64 0, .slice none 0 0, .slice none 0 0] 30)) (.cells #[.int .i64 b] 27)
      rw [← hV0] at haV0 hnV0 ⊢
      have hsV0 : V0.heap.size = ((w.alloc (.cells #[.int .i64 tm, .slice A n c, .slice A' n' c'] 30)).alloc (.cells #[.int .i64 0, .slice none 0 0, .slice none 0 0] 30)).heap.size + 1 := by rw [hV0]; simp
      simp only [World.size_alloc] at hnV0 hsV0
      have HBV0 := Lib.hid (HB0.out.trans (haV0.mono HB0.out.size))
      have bK_V0 := Lib.hid ((haV0.block (w.heap.size) (lt_blk bK_0.out)).trans bK_0.out)
      have bR_V0 := Lib.hid ((haV0.block (w.heap.size + 1) (lt_blk bR_0.out)).trans bR_0.out)
      have hzV0 := haV0.size
      simp only [World.size_alloc] at hzV0
      have bC_V0 := Lib.hid hnV0
      clear hV0 haV0 hnV0
      refine (HG.out _ HBV0.out).mono ?_
      rintro e w1 ⟨rfl, ha1⟩
      have HB1 := Lib.hid (HBV0.out.trans (ha1.mono HBV0.out.size))
      have bK_1 := Lib.hid ((ha1.block (w.heap.size) (lt_blk bK_V0.out)).trans bK_V0.out)
      have bR_1 := Lib.hid ((ha1.block (w.heap.size + 1) (lt_blk bR_V0.out)).trans bR_V0.out)
      have bC_1 := Lib.hid ((ha1.block (w.heap.size + 1 + 1) (lt_blk bC_V0.out)).trans bC_V0.out)
      have hz1 := ha1.size
      clear ha1
      have bK1c0 := cell_blk (i := 0) bK_1.out rfl
      have bK1f0 := free_blk bK_1.out 0
      have bK1c1 := cell_blk (i := 1) bK_1.out rfl
      have bK1f1 := free_blk bK_1.out 1
      have bK1c2 := cell_blk (i := 2) bK_1.out rfl
      have bK1f2 := free_blk bK_1.out 2
      have bK1l := lt_blk bK_1.out
      go_wp2_with fail
      refine (HH.out _).mono ?_
      rintro e w2 ⟨rfl, ha2⟩
      clear bK1c0 bK1f0 bK1c1 bK1f1 bK1c2 bK1f2 bK1l
      have HB2 := Lib.hid (HB1.out.trans (ha2.mono HB1.out.size))
      have bK_2 := Lib.hid ((ha2.block (w.heap.size) (lt_blk bK_1.out)).trans bK_1.out)
      have bR_2 := Lib.hid ((ha2.block (w.heap.size + 1) (lt_blk bR_1.out)).trans bR_1.out)
      have bC_2 := Lib.hid ((ha2.block (w.heap.size + 1 + 1) (lt_blk bC_1.out)).trans bC_1.out)
      have hz2 := ha2.size
      clear ha2
      have bC2c0 := cell_blk (i := 0) bC_2.out rfl
      have bC2f0 := free_blk bC_2.out 0
      have bC2l := lt_blk bC_2.out
      have bR2c0 := cell_blk (i := 0) bR_2.out rfl
      have bR2f0 := free_blk bR_2.out 0
      have bR2c1 := cell_blk (i := 1) bR_2.out rfl
      have bR2f1 := free_blk bR_2.out 1
      have bR2c2 := cell_blk (i := 2) bR_2.out rfl
      have bR2f2 := free_blk bR_2.out 2
      have bR2l := lt_blk bR_2.out
      go_wp2
      exact bodyPost_ret (v := .tuple #[.agg #[.int .i64 0, .slice none 0 0, .slice none 0 0], .bool false]) (by simp [results, Try.results48, go_sem, bR2c0, bR2f0, bR2c1, bR2f1, bR2c2, bR2f2]) rfl (noW_post (bel_put3 HB2.out (by omega)))
    | true =>
      cases g3 : inB b (-5) 5 with
      | false =>
        rw [show driftW tm is ls a b = noW by simp [driftW, hasW, g1, hn, g2, g3]]
        rw [g1] at HG
        rw [g2] at HH
        rw [g3] at HI
        clear g1 g2 g3
        clear h h' hn hn'
        go_enter Try.func48, Try.ntmps48
        go_wp2_with fail
        obtain ⟨V0, hV0⟩ : ∃ V0, V0 = ((w.alloc (.cells #[.int .i64 tm, .slice A n c, .slice A' n' c'] 30)).alloc (.cells #[.int .i64 0, .slice none 0 0, .slice none 0 0] 30)).alloc (.cells #[.int .i64 b] 27) := ⟨_, rfl⟩
        have haV0 := below1 ((w.alloc (.cells #[.int .i64 tm, .slice A n c, .slice A' n' c'] 30)).alloc (.cells #[.int .i64 0, .slice none 0 0, .slice none 0 0] 30)) (.cells #[.int .i64 b] 27)
        have hnV0 := heap_alloc_new ((w.alloc (.cells #[.int .i64 tm, .slice A n c, .slice A' n' c'] 30)).alloc (.cells #[.int .i64 0, .slice none 0 0, .slice none 0 0] 30)) (.cells #[.int .i64 b] 27)
        rw [← hV0] at haV0 hnV0 ⊢
        have hsV0 : V0.heap.size = ((w.alloc (.cells #[.int .i64 tm, .slice A n c, .slice A' n' c'] 30)).alloc (.cells #[.int .i64 0, .slice none 0 0, .slice none 0 0] 30)).heap.size + 1 := by rw [hV0]; simp
        simp only [World.size_alloc] at hnV0 hsV0
        have HBV0 := Lib.hid (HB0.out.trans (haV0.mono HB0.out.size))
        have bK_V0 := Lib.hid ((haV0.block (w.heap.size) (lt_blk bK_0.out)).trans bK_0.out)
        have bR_V0 := Lib.hid ((haV0.block (w.heap.size + 1) (lt_blk bR_0.out)).trans bR_0.out)
        have hzV0 := haV0.size
        simp only [World.size_alloc] at hzV0
        have bC_V0 := Lib.hid hnV0
        clear hV0 haV0 hnV0
        refine (HG.out _ HBV0.out).mono ?_
        rintro e w1 ⟨rfl, ha1⟩
        have HB1 := Lib.hid (HBV0.out.trans (ha1.mono HBV0.out.size))
        have bK_1 := Lib.hid ((ha1.block (w.heap.size) (lt_blk bK_V0.out)).trans bK_V0.out)
        have bR_1 := Lib.hid ((ha1.block (w.heap.size + 1) (lt_blk bR_V0.out)).trans bR_V0.out)
        have bC_1 := Lib.hid ((ha1.block (w.heap.size + 1 + 1) (lt_blk bC_V0.out)).trans bC_V0.out)
        have hz1 := ha1.size
        clear ha1
        have bK1c0 := cell_blk (i := 0) bK_1.out rfl
        have bK1f0 := free_blk bK_1.out 0
        have bK1c1 := cell_blk (i := 1) bK_1.out rfl
        have bK1f1 := free_blk bK_1.out 1
        have bK1c2 := cell_blk (i := 2) bK_1.out rfl
        have bK1f2 := free_blk bK_1.out 2
        have bK1l := lt_blk bK_1.out
        go_wp2_with fail
        refine (HH.out _).mono ?_
        rintro e w2 ⟨rfl, ha2⟩
        clear bK1c0 bK1f0 bK1c1 bK1f1 bK1c2 bK1f2 bK1l
        have HB2 := Lib.hid (HB1.out.trans (ha2.mono HB1.out.size))
        have bK_2 := Lib.hid ((ha2.block (w.heap.size) (lt_blk bK_1.out)).trans bK_1.out)
        have bR_2 := Lib.hid ((ha2.block (w.heap.size + 1) (lt_blk bR_1.out)).trans bR_1.out)
        have bC_2 := Lib.hid ((ha2.block (w.heap.size + 1 + 1) (lt_blk bC_1.out)).trans bC_1.out)
        have hz2 := ha2.size
        clear ha2
        have bC2c0 := cell_blk (i := 0) bC_2.out rfl
        have bC2f0 := free_blk bC_2.out 0
        have bC2l := lt_blk bC_2.out
        go_wp2_with fail
        refine (HI.out _).mono ?_
        rintro e w3 ⟨rfl, ha3⟩
        clear bC2c0 bC2f0 bC2l
        have HB3 := Lib.hid (HB2.out.trans (ha3.mono HB2.out.size))
        have bK_3 := Lib.hid ((ha3.block (w.heap.size) (lt_blk bK_2.out)).trans bK_2.out)
        have bR_3 := Lib.hid ((ha3.block (w.heap.size + 1) (lt_blk bR_2.out)).trans bR_2.out)
        have bC_3 := Lib.hid ((ha3.block (w.heap.size + 1 + 1) (lt_blk bC_2.out)).trans bC_2.out)
        have hz3 := ha3.size
        clear ha3
        have bR3c0 := cell_blk (i := 0) bR_3.out rfl
        have bR3f0 := free_blk bR_3.out 0
        have bR3c1 := cell_blk (i := 1) bR_3.out rfl
        have bR3f1 := free_blk bR_3.out 1
        have bR3c2 := cell_blk (i := 2) bR_3.out rfl
        have bR3f2 := free_blk bR_3.out 2
        have bR3l := lt_blk bR_3.out
        go_wp2
        exact bodyPost_ret (v := .tuple #[.agg #[.int .i64 0, .slice none 0 0, .slice none 0 0], .bool false]) (by simp [results, Try.results48, go_sem, bR3c0, bR3f0, bR3c1, bR3f1, bR3c2, bR3f2]) rfl (noW_post (bel_put3 HB3.out (by omega)))
      | true =>
        rw [show driftW tm is ls a b = (tm, is.set a.toNat b, ls, true) by simp [driftW, hasW, g1, hn, g2, g3]]
        rw [g1] at HG
        rw [g2] at HH
        rw [g3] at HI
        obtain ⟨ga, gb⟩ := inB_true g2
        obtain ⟨_, ⟨_, gc5⟩, gl, _⟩ := wchB_true g1
        obtain ⟨k, rfl⟩ : ∃ k : Nat, a = (k : Int) := ⟨a.toNat, by omega⟩
        rw [Int.toNat_natCast]
        clear g1 g2 g3
        have hcn := (fun W (hW : Below w.heap.size w W) => copyWatch_any tm A A' n c n' c' is ls B W hn hn' (h.below (hW.mono hB)) (h'.below (hW.mono hB)) (Nat.le_trans hB hW.size) (by omega) (by omega))
        unfold WtV at hcn
        simp only [hn, hn'] at hcn
        have HCN := Lib.hid hcn
        clear hcn
        have HN := Lib.hid (show (is.set k b).length = n by rw [List.length_set]; exact hn)
        have HN' := Lib.hid hn'
        have HKI := Lib.hid (show k < is.length by omega)
        have hk0 : (0 : Int) ≤ (k : Int) := by omega
        have hkn : (k : Int) < (n : Int) := by omega
        clear h h' hn hn'
        go_enter Try.func48, Try.ntmps48
        go_wp2_with fail
        obtain ⟨V0, hV0⟩ : ∃ V0, V0 = ((w.alloc (.cells #[.int .i64 tm, .slice A n c, .slice A' n' c'] 30)).alloc (.cells #[.int .i64 0, .slice none 0 0, .slice none 0 0] 30)).alloc (.cells #[.int .i64 b] 27) := ⟨_, rfl⟩
        have haV0 := below1 ((w.alloc (.cells #[.int .i64 tm, .slice A n c, .slice A' n' c'] 30)).alloc (.cells #[.int .i64 0, .slice none 0 0, .slice none 0 0] 30)) (.cells #[.int .i64 b] 27)
        have hnV0 := heap_alloc_new ((w.alloc (.cells #[.int .i64 tm, .slice A n c, .slice A' n' c'] 30)).alloc (.cells #[.int .i64 0, .slice none 0 0, .slice none 0 0] 30)) (.cells #[.int .i64 b] 27)
        rw [← hV0] at haV0 hnV0 ⊢
        have hsV0 : V0.heap.size = ((w.alloc (.cells #[.int .i64 tm, .slice A n c, .slice A' n' c'] 30)).alloc (.cells #[.int .i64 0, .slice none 0 0, .slice none 0 0] 30)).heap.size + 1 := by rw [hV0]; simp
        simp only [World.size_alloc] at hnV0 hsV0
        have HBV0 := Lib.hid (HB0.out.trans (haV0.mono HB0.out.size))
        have bK_V0 := Lib.hid ((haV0.block (w.heap.size) (lt_blk bK_0.out)).trans bK_0.out)
        have bR_V0 := Lib.hid ((haV0.block (w.heap.size + 1) (lt_blk bR_0.out)).trans bR_0.out)
        have hzV0 := haV0.size
        simp only [World.size_alloc] at hzV0
        have bC_V0 := Lib.hid hnV0
        clear hV0 haV0 hnV0
        refine (HG.out _ HBV0.out).mono ?_
        rintro e w1 ⟨rfl, ha1⟩
        have HB1 := Lib.hid (HBV0.out.trans (ha1.mono HBV0.out.size))
        have bK_1 := Lib.hid ((ha1.block (w.heap.size) (lt_blk bK_V0.out)).trans bK_V0.out)
        have bR_1 := Lib.hid ((ha1.block (w.heap.size + 1) (lt_blk bR_V0.out)).trans bR_V0.out)
        have bC_1 := Lib.hid ((ha1.block (w.heap.size + 1 + 1) (lt_blk bC_V0.out)).trans bC_V0.out)
        have hz1 := ha1.size
        clear ha1
        have bK1c0 := cell_blk (i := 0) bK_1.out rfl
        have bK1f0 := free_blk bK_1.out 0
        have bK1c1 := cell_blk (i := 1) bK_1.out rfl
        have bK1f1 := free_blk bK_1.out 1
        have bK1c2 := cell_blk (i := 2) bK_1.out rfl
        have bK1f2 := free_blk bK_1.out 2
        have bK1l := lt_blk bK_1.out
        go_wp2_with fail
        refine (HH.out _).mono ?_
        rintro e w2 ⟨rfl, ha2⟩
        clear bK1c0 bK1f0 bK1c1 bK1f1 bK1c2 bK1f2 bK1l
        have HB2 := Lib.hid (HB1.out.trans (ha2.mono HB1.out.size))
        have bK_2 := Lib.hid ((ha2.block (w.heap.size) (lt_blk bK_1.out)).trans bK_1.out)
        have bR_2 := Lib.hid ((ha2.block (w.heap.size + 1) (lt_blk bR_1.out)).trans bR_1.out)
        have bC_2 := Lib.hid ((ha2.block (w.heap.size + 1 + 1) (lt_blk bC_1.out)).trans bC_1.out)
        have hz2 := ha2.size
        clear ha2
        have bC2c0 := cell_blk (i := 0) bC_2.out rfl
        have bC2f0 := free_blk bC_2.out 0
        have bC2l := lt_blk bC_2.out
        go_wp2_with fail
        refine (HI.out _).mono ?_
        rintro e w3 ⟨rfl, ha3⟩
        clear bC2c0 bC2f0 bC2l
        have HB3 := Lib.hid (HB2.out.trans (ha3.mono HB2.out.size))
        have bK_3 := Lib.hid ((ha3.block (w.heap.size) (lt_blk bK_2.out)).trans bK_2.out)
        have bR_3 := Lib.hid ((ha3.block (w.heap.size + 1) (lt_blk bR_2.out)).trans bR_2.out)
        have bC_3 := Lib.hid ((ha3.block (w.heap.size + 1 + 1) (lt_blk bC_2.out)).trans bC_2.out)
        have hz3 := ha3.size
        clear ha3
        have bK3c0 := cell_blk (i := 0) bK_3.out rfl
        have bK3f0 := free_blk bK_3.out 0
        have bK3c1 := cell_blk (i := 1) bK_3.out rfl
        have bK3f1 := free_blk bK_3.out 1
        have bK3c2 := cell_blk (i := 2) bK_3.out rfl
        have bK3f2 := free_blk bK_3.out 2
        have bK3l := lt_blk bK_3.out
        go_wp2_with fail
        refine (HCN.out _ HB3.out).mono ?_
        rintro e w4 ⟨A1, c1, A2, c2, rfl, hoi, hol, ha4⟩
        clear bK3c0 bK3f0 bK3c1 bK3f1 bK3c2 bK3f2 bK3l
        have HB4 := Lib.hid (HB3.out.trans (ha4.mono HB3.out.size))
        have bK_4 := Lib.hid ((ha4.block (w.heap.size) (lt_blk bK_3.out)).trans bK_3.out)
        have bR_4 := Lib.hid ((ha4.block (w.heap.size + 1) (lt_blk bR_3.out)).trans bR_3.out)
        have bC_4 := Lib.hid ((ha4.block (w.heap.size + 1 + 1) (lt_blk bC_3.out)).trans bC_3.out)
        have hz4 := ha4.size
        clear ha4
        obtain ⟨g, cur, rfl, hg1, hg2, hgh, hgc, hgs⟩ := Own.form hoi (by simp; have := HKI.out; omega)
        obtain ⟨v0, hv0⟩ : ∃ v0, w4.cell? ⟨g, k, none⟩ = some v0 := ⟨_, (by obtain ⟨b9, o9, e9, _, h9⟩ := hoi.cks.get (by have := HKI.out; omega); injection e9 with e9; injection e9 with e1 e2; subst e1 e2; have := h9 k HKI.out; rw [Nat.zero_add] at this; exact this)⟩
        have hvf := free_blk hgh k
        have hgl := lt_blk hgh
        try simp only [World.size_alloc] at hoi
        have oI_4 := Lib.hid hoi
        clear hoi
        try simp only [World.size_alloc] at hol
        have oL_4 := Lib.hid hol
        clear hol
        have bK4c0 := cell_blk (i := 0) bK_4.out rfl
        have bK4f0 := free_blk bK_4.out 0
        have bK4c1 := cell_blk (i := 1) bK_4.out rfl
        have bK4f1 := free_blk bK_4.out 1
        have bK4c2 := cell_blk (i := 2) bK_4.out rfl
        have bK4f2 := free_blk bK_4.out 2
        have bK4l := lt_blk bK_4.out
        have bR4c0 := cell_blk (i := 0) bR_4.out rfl
        have bR4f0 := free_blk bR_4.out 0
        have bR4c1 := cell_blk (i := 1) bR_4.out rfl
        have bR4f1 := free_blk bR_4.out 1
        have bR4c2 := cell_blk (i := 2) bR_4.out rfl
        have bR4f2 := free_blk bR_4.out 2
        have bR4l := lt_blk bR_4.out
        have bC4c0 := cell_blk (i := 0) bC_4.out rfl
        have bC4f0 := free_blk bC_4.out 0
        have bC4l := lt_blk bC_4.out
        go_upto_region 5 with fail
        obtain ⟨V4, hV4⟩ : ∃ V4, V4 = w4.alloc (.cells #[.int .i64 tm, .slice (some ⟨g, 0, none⟩) n c1, .slice A2 n' c2] 30) := ⟨_, rfl⟩
        have haV4 := below1 w4 (.cells #[.int .i64 tm, .slice (some ⟨g, 0, none⟩) n c1, .slice A2 n' c2] 30)
        have hnV4 := heap_alloc_new w4 (.cells #[.int .i64 tm, .slice (some ⟨g, 0, none⟩) n c1, .slice A2 n' c2] 30)
        rw [← hV4] at haV4 hnV4 ⊢
        have hsV4 : V4.heap.size = w4.heap.size + 1 := by rw [hV4]; simp
        clear bK4c0 bK4f0 bK4c1 bK4f1 bK4c2 bK4f2 bK4l bR4c0 bR4f0 bR4c1 bR4f1 bR4c2 bR4f2 bR4l bC4c0 bC4f0 bC4l
        have HBV4 := Lib.hid (HB4.out.trans (haV4.mono HB4.out.size))
        have bK_V4 := Lib.hid ((haV4.block (w.heap.size) (lt_blk bK_4.out)).trans bK_4.out)
        have bR_V4 := Lib.hid ((haV4.block (w.heap.size + 1) (lt_blk bR_4.out)).trans bR_4.out)
        have bC_V4 := Lib.hid ((haV4.block (w.heap.size + 1 + 1) (lt_blk bC_4.out)).trans bC_4.out)
        have oI_V4 := Lib.hid (oI_4.out.since haV4 (by omega))
        have oL_V4 := Lib.hid (oL_4.out.since haV4 (by omega))
        have hzV4 := haV4.size
        have bQ_V4 := Lib.hid hnV4
        have HZ4 := Lib.hid haV4
        have HGT := Lib.hid ((haV4.block g hgl).trans hgh)
        clear hV4 haV4 hnV4
        have hv1 : V4.cell? ⟨g, k, none⟩ = some v0 := (HZ4.out.cell (p := ⟨g, k, none⟩) hgl).trans hv0
        have hvf1 : V4.frozen? ⟨g, k, none⟩ = false := (HZ4.out.frozen (p := ⟨g, k, none⟩) hgl).trans hvf
        have hgl1 : g < V4.heap.size := by omega
        have hne : w4.heap.size ≠ g := by omega
        have hne1 : w.heap.size + 1 ≠ g := by omega
        clear hv0 hvf hgh hgc hgs
        have bQV4c0 := cell_blk (i := 0) bQ_V4.out rfl
        have bQV4f0 := free_blk bQ_V4.out 0
        have bQV4c1 := cell_blk (i := 1) bQ_V4.out rfl
        have bQV4f1 := free_blk bQ_V4.out 1
        have bQV4c2 := cell_blk (i := 2) bQ_V4.out rfl
        have bQV4f2 := free_blk bQ_V4.out 2
        have bQV4l := lt_blk bQ_V4.out
        have bRV4c0 := cell_blk (i := 0) bR_V4.out rfl
        have bRV4f0 := free_blk bR_V4.out 0
        have bRV4c1 := cell_blk (i := 1) bR_V4.out rfl
        have bRV4f1 := free_blk bR_V4.out 1
        have bRV4c2 := cell_blk (i := 2) bR_V4.out rfl
        have bRV4f2 := free_blk bR_V4.out 2
        have bRV4l := lt_blk bR_V4.out
        have bCV4c0 := cell_blk (i := 0) bC_V4.out rfl
        have bCV4f0 := free_blk bC_V4.out 0
        have bCV4l := lt_blk bC_V4.out
        go_wp2
        exact bodyPost_ret (v := .tuple #[.agg #[.int .i64 tm, .slice (some ⟨g, 0, none⟩) n c1, .slice A2 n' c2], .bool true]) (by simp [results, Try.results48, go_sem, bRV4c0, bRV4f0, bRV4c1, bRV4f1, bRV4c2, bRV4f2]) rfl (yesW_post HN.out HN'.out ((OwnCk.put3 (OwnCk.drift oI_V4.out HKI.out b) (by omega)).wider (by omega) (by simp [World.setCell]; omega)) ((OwnLe.put3 ((Own.otherT (t' := 27) (p := ⟨g, k, none⟩) oL_V4.out HGT.out (by decide) _ : OwnLe _ _ _ _ _ _)) (by omega)).wider (by omega) (by simp [World.setCell]; omega)) (bel_put3 (HBV4.out.setCell (p := ⟨g, k, none⟩) (by simp only []; omega) _) (by omega)))
end Go.Proofs.Ytpppgihoekfmoaa.Wt
