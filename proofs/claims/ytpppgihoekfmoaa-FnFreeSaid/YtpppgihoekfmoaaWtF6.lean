/-
  AskLease, of the model and of the program.
-/
import Derived.Test.YtpppgihoekfmoaaWtF5
import Derived.Test.YtpppgihoekfmoaaWtMk
import Derived.Test.YtpppgihoekfmoaaBel
import Derived.Deep.RegionHeld3
import Derived.Deep.DeepCutAuto
import Derived.Deep.QuietTactic
import Derived.BigQuiet
namespace Go.Proofs.Ytpppgihoekfmoaa.Wt
open Go.RowKit
set_option linter.unusedVariables false
set_option linter.unusedSimpArgs false

theorem ne_own {w : World} {lo hi sz cap n idx : Nat} {t : TypeId} {A : Option Addr} {L : List (List Value)} (h : Own w lo hi t sz A cap L) (hi' : idx < lo ∨ hi ≤ idx) : some idx ≠ (Value.slice A n cap).ownBlock := by
  intro e
  cases A with
  | none => simp [Value.ownBlock] at e
  | some p =>
    have h1 := own_rangeW h p rfl
    have h2 : idx = p.block := by simpa [Value.ownBlock] using e
    omega
theorem ck_grown {X w' : World} {lo hi lo2 hi2 c c2 n2 : Nat} {A A2 : Option Addr} {is : List Int} {ls : List (Int × Int × Int)} (h : OwnCk X lo hi A c is) (hl : OwnLe X lo2 hi2 A2 c2 ls) (hgr : X.grownBy w' (Value.slice A2 n2 c2).ownBlock) : OwnCk w' lo hi A c is := by
  rcases h with h | ⟨b, cs, hA, h1, h2, h3, h4⟩
  · exact .inl h
  · refine .inr ⟨b, cs, hA, h1, h2, ?_, h4⟩
    refine (hgr.block b (lt_blk h3) ?_).trans h3
    intro e
    cases A2 with
    | none => simp [Value.ownBlock] at e
    | some p =>
      have h9 : b = p.block := by simpa [Value.ownBlock] using e
      obtain ⟨_, _, cur, hc⟩ := Own.block hl p rfl
      rw [← h9, h3] at hc
      simp only [Option.some.injEq, Obj.cells.injEq] at hc
      exact absurd hc.2.1 (by decide)
theorem le_snoc {w' : World} {lo hi c n : Nat} {A : Option Addr} {ls : List (Int × Int × Int)} {x : (Int × Int × Int)} {v' : Value} {X : World} (h : OwnLe X lo hi A c ls) (hn : ls.length = n) (hown : w'.ownsRow lo 55 3 v' (n + 1) ((ls.map leCs).flatten ++ leCs x)) : ∃ A5 c5, v' = .slice A5 (n + 1) c5 ∧ OwnLe w' lo w'.heap.size A5 c5 (ls ++ [x]) := by
  have e : (ls.map leCs).flatten ++ leCs x = ((ls ++ [x]).map leCs).flatten := by simp
  rw [e] at hown
  obtain ⟨A5, c5, hv, hl, ho⟩ := Own.ofRow hown (leCs_len _) (by decide) (hi := w'.heap.size) (fun k hk => (hown.lt k hk).2)
  rw [List.length_map, List.length_append, hn] at hv
  exact ⟨A5, c5, hv, ho⟩
theorem le_row {w : World} {lo hi c n : Nat} {A : Option Addr} {ls : List (Int × Int × Int)} (h : OwnLe w lo hi A c ls) (hn : ls.length = n) : w.ownsRow lo 55 3 (.slice A n c) n ((ls.map leCs).flatten) := by
  have h7 := Own.toRow h (leCs_len ls) (by decide)
  rw [List.length_map, hn] at h7
  exact h7
theorem high_small {tm a : Int} {is : List Int} {ls : List (Int × Int × Int)} (h : hasW tm is ls a = true) : -20 ≤ highW tm (offW is a) ∧ highW tm (offW is a) ≤ 100020 := by
  have h1 := off_small h
  have h2 := (wchB_true (hasW_true h).1).1
  unfold highW
  omega

set_option maxRecDepth 100000 in
set_option maxHeartbeats 8000000 in
theorem specAskLease_any (tm : Int) (A A' : Option Addr) (n c n' c' : Nat) (is : List Int) (ls : List (Int × Int × Int)) (a b : Int) (B : Nat) (w : World) (hn : is.length = n) (hn' : ls.length = n') (h : CksB w B A is) (h' : LesB w B A' ls) (hB : B ≤ w.heap.size) :
    Calls Try.prog 20 #[.agg #[.int .i64 tm, .slice A n c, .slice A' n' c'], .int .i64 a, .int .i64 b] w (WAPost (askW tm is ls a b) w) := by
  obtain ⟨j0, hj, hy0, hy1, hy2⟩ := info_parts infoLe
  have HB0 := Lib.hid (below2 w (.cells #[.int .i64 tm, .slice A n c, .slice A' n' c'] 30) (.cells #[.int .i64 0, .slice none 0 0, .slice none 0 0] 30))
  have bK_0 := Lib.hid (((below1 (w.alloc (.cells #[.int .i64 tm, .slice A n c, .slice A' n' c'] 30)) (.cells #[.int .i64 0, .slice none 0 0, .slice none 0 0] 30)).block w.heap.size (by simp)).trans (heap_alloc_new w (.cells #[.int .i64 tm, .slice A n c, .slice A' n' c'] 30)))
  have bR_0 := Lib.hid (alloc_snd w (.cells #[.int .i64 tm, .slice A n c, .slice A' n' c'] 30) (.cells #[.int .i64 0, .slice none 0 0, .slice none 0 0] 30))
  cases g1 : hasW tm is ls a with
  | false =>
    have HG := Lib.hid (fun W (hW : Below w.heap.size w W) => l10Has_any tm A A' n c n' c' is ls a B W hn hn' (h.below (hW.mono hB)) (h'.below (hW.mono hB)) (Nat.le_trans hB hW.size))
    have HI := Lib.hid (fun W => l1In_any b 1 100 W)
    rw [g1] at HG
    rw [show askW tm is ls a b = noW by simp [askW, g1]]
    clear h h' hn hn' g1
    go_enter Try.func20, Try.ntmps20
    have y0 := bel_cell (cell_blk (i := 0) bK_0.out rfl) (lt_blk bK_0.out)
    have y1 := bel_cell (cell_blk (i := 1) bK_0.out rfl) (lt_blk bK_0.out)
    have y2 := bel_cell (cell_blk (i := 2) bK_0.out rfl) (lt_blk bK_0.out)
    go_upto_region 1 with fail
    refine bel_region (by kernel_rfl) (by kernel_rfl) ?_
    repeat (go_big_quiet_step ((first | (go_at_call 34; exact bel_call (HG.out _ (HB0.out.trans (BelT.below _ |>.mono HB0.out.size)))))))
    refine wpQuiet_nil ?_
    intro p
    have ha1 := p.below
    obtain ⟨w1, hw1⟩ : ∃ w1, w1 = p.w := ⟨_, rfl⟩
    rw [← hw1] at ha1 ⊢
    clear hw1 y0 y1 y2
    have HB1 := Lib.hid (HB0.out.trans (ha1.mono HB0.out.size))
    have bK_1 := Lib.hid ((ha1.block (w.heap.size) (lt_blk bK_0.out)).trans bK_0.out)
    have bR_1 := Lib.hid ((ha1.block (w.heap.size + 1) (lt_blk bR_0.out)).trans bR_0.out)
    have hz1 := ha1.size
    simp only [World.size_alloc] at hz1
    clear ha1
    have bK1c0 := cell_blk (i := 0) bK_1.out rfl
    have bK1f0 := free_blk bK_1.out 0
    have bK1c1 := cell_blk (i := 1) bK_1.out rfl
    have bK1f1 := free_blk bK_1.out 1
    have bK1c2 := cell_blk (i := 2) bK_1.out rfl
    have bK1f2 := free_blk bK_1.out 2
    have bK1l := lt_blk bK_1.out
    have bR1c0 := cell_blk (i := 0) bR_1.out rfl
    have bR1f0 := free_blk bR_1.out 0
    have bR1c1 := cell_blk (i := 1) bR_1.out rfl
    have bR1f1 := free_blk bR_1.out 1
    have bR1c2 := cell_blk (i := 2) bR_1.out rfl
    have bR1f2 := free_blk bR_1.out 2
    have bR1l := lt_blk bR_1.out
    go_wp2
    exact bodyPost_ret (v := .tuple #[.agg #[.int .i64 0, .slice none 0 0, .slice none 0 0], .bool false]) (by simp [results, Try.results20, go_sem, bR1c0, bR1f0, bR1c1, bR1f1, bR1c2, bR1f2]) rfl (noW_post (bel_put3 HB1.out (by omega)))
  | true =>
    have HG := Lib.hid (fun W (hW : Below w.heap.size w W) => l10Has_any tm A A' n c n' c' is ls a B W hn hn' (h.below (hW.mono hB)) (h'.below (hW.mono hB)) (Nat.le_trans hB hW.size))
    have HI := Lib.hid (fun W => l1In_any b 1 100 W)
    rw [g1] at HG
    have gl := (wchB_true (hasW_true g1).1).2.2.1
    rw [hn'] at gl
    have gc5 := (wchB_true (hasW_true g1).1).2.1.2
    rw [hn] at gc5
    have hlb := low_small g1
    have hhb := high_small g1
    have hub := lses_until (wchB_true (hasW_true g1).1).2.2.2.2
    obtain ⟨hlb0, hlb1⟩ := hlb
    obtain ⟨hhb0, hhb1⟩ := hhb
    cases g2 : inB b 1 100 with
    | false =>
      rw [show askW tm is ls a b = noW by simp [askW, g1, g2]]
      rw [g2] at HI
      clear h h' hn hn' g1 g2
      go_enter Try.func20, Try.ntmps20
      have y0 := bel_cell (cell_blk (i := 0) bK_0.out rfl) (lt_blk bK_0.out)
      have y1 := bel_cell (cell_blk (i := 1) bK_0.out rfl) (lt_blk bK_0.out)
      have y2 := bel_cell (cell_blk (i := 2) bK_0.out rfl) (lt_blk bK_0.out)
      go_upto_region 1 with fail
      refine bel_region (by kernel_rfl) (by kernel_rfl) ?_
      repeat (go_big_quiet_step ((first | (go_at_call 34; exact bel_call (HG.out _ (HB0.out.trans (BelT.below _ |>.mono HB0.out.size)))) | (go_at_call 40; exact bel_same (HI.out _)))))
      refine wpQuiet_nil ?_
      intro p
      have ha1 := p.below
      obtain ⟨w1, hw1⟩ : ∃ w1, w1 = p.w := ⟨_, rfl⟩
      rw [← hw1] at ha1 ⊢
      clear hw1 y0 y1 y2
      have HB1 := Lib.hid (HB0.out.trans (ha1.mono HB0.out.size))
      have bK_1 := Lib.hid ((ha1.block (w.heap.size) (lt_blk bK_0.out)).trans bK_0.out)
      have bR_1 := Lib.hid ((ha1.block (w.heap.size + 1) (lt_blk bR_0.out)).trans bR_0.out)
      have hz1 := ha1.size
      simp only [World.size_alloc] at hz1
      clear ha1
      have bK1c0 := cell_blk (i := 0) bK_1.out rfl
      have bK1f0 := free_blk bK_1.out 0
      have bK1c1 := cell_blk (i := 1) bK_1.out rfl
      have bK1f1 := free_blk bK_1.out 1
      have bK1c2 := cell_blk (i := 2) bK_1.out rfl
      have bK1f2 := free_blk bK_1.out 2
      have bK1l := lt_blk bK_1.out
      have bR1c0 := cell_blk (i := 0) bR_1.out rfl
      have bR1f0 := free_blk bR_1.out 0
      have bR1c1 := cell_blk (i := 1) bR_1.out rfl
      have bR1f1 := free_blk bR_1.out 1
      have bR1c2 := cell_blk (i := 2) bR_1.out rfl
      have bR1f2 := free_blk bR_1.out 2
      have bR1l := lt_blk bR_1.out
      go_wp2
      exact bodyPost_ret (v := .tuple #[.agg #[.int .i64 0, .slice none 0 0, .slice none 0 0], .bool false]) (by simp [results, Try.results20, go_sem, bR1c0, bR1f0, bR1c1, bR1f1, bR1c2, bR1f2]) rfl (noW_post (bel_put3 HB1.out (by omega)))
    | true =>
      rw [g2] at HI
      have HS := Lib.hid (fun W (hW : Below w.heap.size w W) => l10Span_any tm A A' n c n' c' is ls a B W hn hn' (h.below (hW.mono hB)) (h'.below (hW.mono hB)) (Nat.le_trans hB hW.size) g1)
      have HF := Lib.hid (fun W (hW : Below w.heap.size w W) => l10Free_any tm A A' n c n' c' is ls a (lowW tm (offW is a)) B W hn hn' (h.below (hW.mono hB)) (h'.below (hW.mono hB)) (Nat.le_trans hB hW.size) (by omega))
      cases g3 : freeW a (lowW tm (offW is a)) ls with
      | false =>
        rw [show askW tm is ls a b = noW by simp [askW, g1, g2, g3]]
        rw [g3] at HF
        obtain ⟨lo, hlo⟩ : ∃ lo, lo = lowW tm (offW is a) := ⟨_, rfl⟩
        obtain ⟨hi, hhi⟩ : ∃ hi, hi = highW tm (offW is a) := ⟨_, rfl⟩
        rw [← hlo] at HF
        rw [← hlo, ← hhi] at HS
        have hfd := fldLo lo hi
        clear h h' hn hn' g1 g2 g3 hlo hhi
        go_enter Try.func20, Try.ntmps20
        have y0 := bel_cell (cell_blk (i := 0) bK_0.out rfl) (lt_blk bK_0.out)
        have y1 := bel_cell (cell_blk (i := 1) bK_0.out rfl) (lt_blk bK_0.out)
        have y2 := bel_cell (cell_blk (i := 2) bK_0.out rfl) (lt_blk bK_0.out)
        go_upto_region 1 with fail
        refine bel_region (by kernel_rfl) (by kernel_rfl) ?_
        repeat (go_big_quiet_step ((first | (go_at_call 34; exact bel_call (HG.out _ (HB0.out.trans (BelT.below _ |>.mono HB0.out.size)))) | (go_at_call 40; exact bel_same (HI.out _)) | (go_at_call 35; exact bel_call (HS.out _ (HB0.out.trans (BelT.below _ |>.mono HB0.out.size)))) | (go_at_call 41; exact bel_call (HF.out _ (HB0.out.trans (BelT.below _ |>.mono HB0.out.size)))))))
        refine wpQuiet_nil ?_
        intro p
        have ha1 := p.below
        obtain ⟨w1, hw1⟩ : ∃ w1, w1 = p.w := ⟨_, rfl⟩
        rw [← hw1] at ha1 ⊢
        clear hw1 y0 y1 y2
        have HB1 := Lib.hid (HB0.out.trans (ha1.mono HB0.out.size))
        have bK_1 := Lib.hid ((ha1.block (w.heap.size) (lt_blk bK_0.out)).trans bK_0.out)
        have bR_1 := Lib.hid ((ha1.block (w.heap.size + 1) (lt_blk bR_0.out)).trans bR_0.out)
        have hz1 := ha1.size
        simp only [World.size_alloc] at hz1
        clear ha1
        have bK1c0 := cell_blk (i := 0) bK_1.out rfl
        have bK1f0 := free_blk bK_1.out 0
        have bK1c1 := cell_blk (i := 1) bK_1.out rfl
        have bK1f1 := free_blk bK_1.out 1
        have bK1c2 := cell_blk (i := 2) bK_1.out rfl
        have bK1f2 := free_blk bK_1.out 2
        have bK1l := lt_blk bK_1.out
        have bR1c0 := cell_blk (i := 0) bR_1.out rfl
        have bR1f0 := free_blk bR_1.out 0
        have bR1c1 := cell_blk (i := 1) bR_1.out rfl
        have bR1f1 := free_blk bR_1.out 1
        have bR1c2 := cell_blk (i := 2) bR_1.out rfl
        have bR1f2 := free_blk bR_1.out 2
        have bR1l := lt_blk bR_1.out
        go_wp2
        exact bodyPost_ret (v := .tuple #[.agg #[.int .i64 0, .slice none 0 0, .slice none 0 0], .bool false]) (by simp [results, Try.results20, go_sem, bR1c0, bR1f0, bR1c1, bR1f1, bR1c2, bR1f2]) rfl (noW_post (bel_put3 HB1.out (by omega)))
      | true =>
        cases g4 : wchB tm is (ls ++ [(a, lowW tm (offW is a), highW tm (offW is a) + b)]) with
        | false =>
          have HN' := Lib.hid hn'
          have HNX := Lib.hid (show (ls ++ [(a, lowW tm (offW is a), highW tm (offW is a) + b)]).length = n' + 1 by rw [List.length_append, hn']; rfl)
          have HN := Lib.hid hn
          have hcn := (fun W (hW : Below w.heap.size w W) => l10Own_any tm A A' n c n' c' is ls B W hn hn' (h.below (hW.mono hB)) (h'.below (hW.mono hB)) (Nat.le_trans hB hW.size) (by omega) (by omega))
          unfold WtV at hcn
          simp only [hn, hn'] at hcn
          have HCN := Lib.hid hcn
          clear hcn
          rw [show askW tm is ls a b = ifW tm is (ls ++ [(a, lowW tm (offW is a), highW tm (offW is a) + b)]) by simp [askW, g1, g2, g3]]
          rw [ifW_none g4]
          rw [g3] at HF
          have G4 := Lib.hid g4
          obtain ⟨lo, hlo⟩ : ∃ lo, lo = lowW tm (offW is a) := ⟨_, rfl⟩
          obtain ⟨hi, hhi⟩ : ∃ hi, hi = highW tm (offW is a) := ⟨_, rfl⟩
          rw [← hlo] at HF HNX G4
          rw [← hhi] at HNX G4
          try rw [← hlo, ← hhi]
          rw [← hlo, ← hhi] at HS
          rw [← hlo] at hlb0 hlb1
          rw [← hhi] at hhb0 hhb1
          have hfd := fldLo lo hi
          obtain ⟨gb0, gb1⟩ := inB_true g2
          clear h h' g1 g2 g3 g4 hlo hhi hub hn hn'
          go_enter Try.func20, Try.ntmps20
          have y0 := bel_cell (cell_blk (i := 0) bK_0.out rfl) (lt_blk bK_0.out)
          have y1 := bel_cell (cell_blk (i := 1) bK_0.out rfl) (lt_blk bK_0.out)
          have y2 := bel_cell (cell_blk (i := 2) bK_0.out rfl) (lt_blk bK_0.out)
          go_upto_region 1 with fail
          refine bel_region (by kernel_rfl) (by kernel_rfl) ?_
          repeat (go_big_quiet_step ((first | (go_at_call 34; exact bel_call (HG.out _ (HB0.out.trans (BelT.below _ |>.mono HB0.out.size)))) | (go_at_call 40; exact bel_same (HI.out _)) | (go_at_call 35; exact bel_call (HS.out _ (HB0.out.trans (BelT.below _ |>.mono HB0.out.size)))) | (go_at_call 41; exact bel_call (HF.out _ (HB0.out.trans (BelT.below _ |>.mono HB0.out.size)))))))
          refine wpQuiet_nil ?_
          intro p
          have ha1 := p.below
          obtain ⟨w1, hw1⟩ : ∃ w1, w1 = p.w := ⟨_, rfl⟩
          rw [← hw1] at ha1 ⊢
          clear hw1 y0 y1 y2
          have HB1 := Lib.hid (HB0.out.trans (ha1.mono HB0.out.size))
          have bK_1 := Lib.hid ((ha1.block (w.heap.size) (lt_blk bK_0.out)).trans bK_0.out)
          have bR_1 := Lib.hid ((ha1.block (w.heap.size + 1) (lt_blk bR_0.out)).trans bR_0.out)
          have hz1 := ha1.size
          simp only [World.size_alloc] at hz1
          clear ha1
          clear hfd
          have bK1c0 := cell_blk (i := 0) bK_1.out rfl
          have bK1f0 := free_blk bK_1.out 0
          have bK1c1 := cell_blk (i := 1) bK_1.out rfl
          have bK1f1 := free_blk bK_1.out 1
          have bK1c2 := cell_blk (i := 2) bK_1.out rfl
          have bK1f2 := free_blk bK_1.out 2
          have bK1l := lt_blk bK_1.out
          go_wp2_with fail
          refine (HS.out _ HB1.out).mono ?_
          rintro e w2 ⟨rfl, ha2⟩
          clear bK1c0 bK1f0 bK1c1 bK1f1 bK1c2 bK1f2 bK1l
          have HB2 := Lib.hid (HB1.out.trans (ha2.mono HB1.out.size))
          have bK_2 := Lib.hid ((ha2.block (w.heap.size) (lt_blk bK_1.out)).trans bK_1.out)
          have bR_2 := Lib.hid ((ha2.block (w.heap.size + 1) (lt_blk bR_1.out)).trans bR_1.out)
          have hz2 := ha2.size
          clear ha2
          have bK2c0 := cell_blk (i := 0) bK_2.out rfl
          have bK2f0 := free_blk bK_2.out 0
          have bK2c1 := cell_blk (i := 1) bK_2.out rfl
          have bK2f1 := free_blk bK_2.out 1
          have bK2c2 := cell_blk (i := 2) bK_2.out rfl
          have bK2f2 := free_blk bK_2.out 2
          have bK2l := lt_blk bK_2.out
          go_wp2_with fail
          obtain ⟨V2, hV2⟩ : ∃ V2, V2 = w2.alloc (.cells #[.int .i64 lo, .int .i64 hi] 58) := ⟨_, rfl⟩
          have haV2 := below1 w2 (.cells #[.int .i64 lo, .int .i64 hi] 58)
          have hnV2 := heap_alloc_new w2 (.cells #[.int .i64 lo, .int .i64 hi] 58)
          rw [← hV2] at haV2 hnV2 ⊢
          have hsVa2 : V2.heap.size ≤ w2.heap.size + 1 := by rw [hV2]; simp
          have hsVb2 : w2.heap.size + 1 ≤ V2.heap.size := by rw [hV2]; simp
          clear bK2c0 bK2f0 bK2c1 bK2f1 bK2c2 bK2f2 bK2l
          have HBV2 := Lib.hid (HB2.out.trans (haV2.mono HB2.out.size))
          have bK_V2 := Lib.hid ((haV2.block (w.heap.size) (lt_blk bK_2.out)).trans bK_2.out)
          have bR_V2 := Lib.hid ((haV2.block (w.heap.size + 1) (lt_blk bR_2.out)).trans bR_2.out)
          have hzV2 := haV2.size
          have bS_V2 := Lib.hid hnV2
          clear hV2 haV2 hnV2
          refine (HCN.out _ HBV2.out).mono ?_
          rintro e w3 ⟨A1, c1, A2, c2, rfl, hoi, hol, ha3⟩
          have HB3 := Lib.hid (HBV2.out.trans (ha3.mono HBV2.out.size))
          have bK_3 := Lib.hid ((ha3.block (w.heap.size) (lt_blk bK_V2.out)).trans bK_V2.out)
          have bR_3 := Lib.hid ((ha3.block (w.heap.size + 1) (lt_blk bR_V2.out)).trans bR_V2.out)
          have bS_3 := Lib.hid ((ha3.block (w2.heap.size) (lt_blk bS_V2.out)).trans bS_V2.out)
          have hz3 := ha3.size
          clear ha3
          try simp only [World.size_alloc] at hoi
          have oI_3 := Lib.hid hoi
          clear hoi
          try simp only [World.size_alloc] at hol
          have oL_3 := Lib.hid hol
          clear hol
          have bK3c0 := cell_blk (i := 0) bK_3.out rfl
          have bK3f0 := free_blk bK_3.out 0
          have bK3c1 := cell_blk (i := 1) bK_3.out rfl
          have bK3f1 := free_blk bK_3.out 1
          have bK3c2 := cell_blk (i := 2) bK_3.out rfl
          have bK3f2 := free_blk bK_3.out 2
          have bK3l := lt_blk bK_3.out
          have bR3c0 := cell_blk (i := 0) bR_3.out rfl
          have bR3f0 := free_blk bR_3.out 0
          have bR3c1 := cell_blk (i := 1) bR_3.out rfl
          have bR3f1 := free_blk bR_3.out 1
          have bR3c2 := cell_blk (i := 2) bR_3.out rfl
          have bR3f2 := free_blk bR_3.out 2
          have bR3l := lt_blk bR_3.out
          have bS3c0 := cell_blk (i := 0) bS_3.out rfl
          have bS3f0 := free_blk bS_3.out 0
          have bS3c1 := cell_blk (i := 1) bS_3.out rfl
          have bS3f1 := free_blk bS_3.out 1
          have bS3l := lt_blk bS_3.out
          go_upto_region 5 with fail
          obtain ⟨V3, hV3⟩ : ∃ V3, V3 = w3.alloc (.cells #[.int .i64 tm, .slice A1 n c1, .slice A2 n' c2] 30) := ⟨_, rfl⟩
          have haV3 := below1 w3 (.cells #[.int .i64 tm, .slice A1 n c1, .slice A2 n' c2] 30)
          have hnV3 := heap_alloc_new w3 (.cells #[.int .i64 tm, .slice A1 n c1, .slice A2 n' c2] 30)
          rw [← hV3] at haV3 hnV3 ⊢
          have hsVa3 : V3.heap.size ≤ w3.heap.size + 1 := by rw [hV3]; simp
          have hsVb3 : w3.heap.size + 1 ≤ V3.heap.size := by rw [hV3]; simp
          clear bK3c0 bK3f0 bK3c1 bK3f1 bK3c2 bK3f2 bK3l bR3c0 bR3f0 bR3c1 bR3f1 bR3c2 bR3f2 bR3l bS3c0 bS3f0 bS3c1 bS3f1 bS3l
          have HBV3 := Lib.hid (HB3.out.trans (haV3.mono HB3.out.size))
          have bK_V3 := Lib.hid ((haV3.block (w.heap.size) (lt_blk bK_3.out)).trans bK_3.out)
          have bR_V3 := Lib.hid ((haV3.block (w.heap.size + 1) (lt_blk bR_3.out)).trans bR_3.out)
          have bS_V3 := Lib.hid ((haV3.block (w2.heap.size) (lt_blk bS_3.out)).trans bS_3.out)
          have oI_V3 := Lib.hid (oI_3.out.since haV3 (by omega))
          have oL_V3 := Lib.hid (oL_3.out.since haV3 (by omega))
          have hzV3 := haV3.size
          have bQ_V3 := Lib.hid hnV3
          clear hV3 haV3 hnV3
          have hx0 := below1 V3 (.cells #[.int .i64 a, .int .i64 lo, .int .i64 (hi + b)] 55)
          have hoLx := oL_V3.out.since hx0 (by omega)
          have hoIx := oI_V3.out.since hx0 (by omega)
          have HROW := Lib.hid (le_row hoLx HN'.out)
          have HNEW := Lib.hid (heap_alloc_new V3 (.cells #[.int .i64 a, .int .i64 lo, .int .i64 (hi + b)] 55))
          have hlx : V2.heap.size ≤ (V3.alloc (.cells #[.int .i64 a, .int .i64 lo, .int .i64 (hi + b)] 55)).heap.size := by simp; omega
          have bK_x := Lib.hid ((hx0.block (w.heap.size) (lt_blk bK_V3.out)).trans bK_V3.out)
          have bKl := lt_blk bK_V3.out
          have bR_x := Lib.hid ((hx0.block (w.heap.size + 1) (lt_blk bR_V3.out)).trans bR_V3.out)
          have bRl := lt_blk bR_V3.out
          have bS_x := Lib.hid ((hx0.block (w2.heap.size) (lt_blk bS_V3.out)).trans bS_V3.out)
          have bSl := lt_blk bS_V3.out
          have bQ_x := Lib.hid ((hx0.block (w3.heap.size) (lt_blk bQ_V3.out)).trans bQ_V3.out)
          have bQl := lt_blk bQ_V3.out
          have HOLX := Lib.hid hoLx
          have HOIX := Lib.hid hoIx
          have HX0 := Lib.hid hx0
          clear hoLx hoIx hx0
          have bQV3c0 := cell_blk (i := 0) bQ_V3.out rfl
          have bQV3f0 := free_blk bQ_V3.out 0
          have bQV3c1 := cell_blk (i := 1) bQ_V3.out rfl
          have bQV3f1 := free_blk bQ_V3.out 1
          have bQV3c2 := cell_blk (i := 2) bQ_V3.out rfl
          have bQV3f2 := free_blk bQ_V3.out 2
          have bQV3l := lt_blk bQ_V3.out
          have bRV3c0 := cell_blk (i := 0) bR_V3.out rfl
          have bRV3f0 := free_blk bR_V3.out 0
          have bRV3c1 := cell_blk (i := 1) bR_V3.out rfl
          have bRV3f1 := free_blk bR_V3.out 1
          have bRV3c2 := cell_blk (i := 2) bR_V3.out rfl
          have bRV3f2 := free_blk bR_V3.out 2
          have bRV3l := lt_blk bR_V3.out
          have bSV3c0 := cell_blk (i := 0) bS_V3.out rfl
          have bSV3f0 := free_blk bS_V3.out 0
          have bSV3c1 := cell_blk (i := 1) bS_V3.out rfl
          have bSV3f1 := free_blk bS_V3.out 1
          have bSV3l := lt_blk bS_V3.out
          go_wp2_with (at_builtin; refine wpList_app rfl (.tmp 36) (.tmp 45) 28 rfl V2.heap.size 55 j0 _ 3 24 Try.underlying28 hj hy0 hy1 hy2 rfl (by decide) (.slice A2 n' c2) n' ((ls.map leCs).flatten) rfl HROW.out (some ⟨V3.heap.size, 0, none⟩) 1 1 (leCs (a, lo, hi + b)) rfl rfl (fun _ => ⟨_, rfl, World.news_of_block (cs := #[.int .i64 a, .int .i64 lo, .int .i64 (hi + b)]) (t := 55) (fr := (0, 0)) HNEW.out⟩) (by simp [leCs, Value.oneCell']) (by unfold maxLen; omega) (by omega) hlx ?_; intro v5 w5 hown hgr _; obtain ⟨A5, c5, rfl, ho5⟩ := le_snoc HOLX.out HN'.out hown; have HGR := Lib.hid hgr; have HO5 := Lib.hid ho5; clear hown hgr ho5 bQV3c0 bQV3f0 bQV3c1 bQV3f1 bQV3c2 bQV3f2 bQV3l bRV3c0 bRV3f0 bRV3c1 bRV3f1 bRV3c2 bRV3f2 bRV3l bSV3c0 bSV3f0 bSV3c1 bSV3f1 bSV3l; have hzg := HGR.out.size; simp only [World.size_alloc] at hzg; have bR_5 := Lib.hid ((HGR.out.block (w.heap.size + 1) (by simp; omega) (ne_own HOLX.out (by omega))).trans bR_x.out); have bRc0 := cell_blk (i := 0) bR_5.out rfl; have bRc1 := cell_blk (i := 1) bR_5.out rfl; have bRc2 := cell_blk (i := 2) bR_5.out rfl; have bRfr := free_blk bR_5.out 2; have bRl5 := lt_blk bR_5.out; have bQ_5 := Lib.hid ((HGR.out.block (w3.heap.size) (by simp; omega) (ne_own HOLX.out (by omega))).trans bQ_x.out); have bQc0 := cell_blk (i := 0) bQ_5.out rfl; have bQc1 := cell_blk (i := 1) bQ_5.out rfl; have bQc2 := cell_blk (i := 2) bQ_5.out rfl; have bQfr := free_blk bQ_5.out 2; have bQl5 := lt_blk bQ_5.out)
          obtain ⟨V6, hV6⟩ : ∃ V6, V6 = w5.setCell ⟨w3.heap.size, 2, none⟩ (.slice A5 (n' + 1) c5) := ⟨_, rfl⟩
          have hsa6 : w5.heap.size ≤ V6.heap.size := by rw [hV6]; simp [World.setCell]
          have hsb6 : V6.heap.size ≤ w5.heap.size := by rw [hV6]; simp [World.setCell]
          have hb5 : Below w.heap.size w w5 := (HBV3.out.trans (HX0.out.mono HBV3.out.size)).grown HGR.out (by simp; omega) (fun q hq => Nat.le_of_not_lt fun h9 => ne_own (n := n') HOLX.out (idx := q) (.inl (by omega)) hq.symm)
          have HB6 : Hid (Below w.heap.size w V6) := by rw [hV6]; exact Lib.hid (hb5.setCell (p := ⟨w3.heap.size, 2, none⟩) (by simp only []; omega) _)
          have oI_6 : Hid (OwnCk V6 V2.heap.size w3.heap.size A1 c1 is) := by rw [hV6]; exact Lib.hid ((ck_grown HOIX.out HOLX.out HGR.out).high (p := ⟨w3.heap.size, 2, none⟩) (Nat.le_refl _) _)
          have oL_6 : Hid (OwnLe V6 V2.heap.size w5.heap.size A5 c5 (ls ++ [(a, lo, hi + b)])) := by rw [hV6]; exact Lib.hid (Own.otherT HO5.out (p := ⟨w3.heap.size, 2, none⟩) bQ_5.out (by decide) _)
          have bR_6 : Hid (V6.heap[w.heap.size + 1]? = some (.cells #[.int .i64 0, .slice none 0 0, .slice none 0 0] 30 (0, 0))) := by rw [hV6]; exact Lib.hid ((Below.heap_setCell _ _ _ _ (by simp only []; omega)).trans bR_5.out)
          have bQ_6 : Hid (V6.heap[w3.heap.size]? = some (.cells #[.int .i64 tm, .slice A1 n c1, .slice A5 (n' + 1) c5] 30 (0, 0))) := by rw [hV6]; exact Lib.hid (set_blkW bQ_5.out)
          rw [← hV6]
          clear hV6 hb5 bQc0 bQc1 bQc2 bQfr bRc0 bRc1 bRc2 bRfr
          have HIF := Lib.hid (l10If_any tm A1 A5 n c1 (n' + 1) c5 is (ls ++ [(a, lo, hi + b)]) V6.heap.size V6 HN.out HNX.out (oI_6.out.cks.mono (by omega)) (oL_6.out.les.mono (by omega)) (Nat.le_refl _))
          rw [G4.out] at HIF
          simp only [cond_false] at HIF
          refine HIF.out.mono ?_
          rintro e w7 ⟨rfl, ha7⟩
          have HB7 := Lib.hid (HB6.out.trans (ha7.mono HB6.out.size))
          have bR_7 := Lib.hid ((ha7.block (w.heap.size + 1) (lt_blk bR_6.out)).trans bR_6.out)
          have bQ_7 := Lib.hid ((ha7.block (w3.heap.size) (lt_blk bQ_6.out)).trans bQ_6.out)
          have oI_7 := Lib.hid (oI_6.out.since ha7 (by omega))
          have oL_7 := Lib.hid (oL_6.out.since ha7 (by omega))
          have hz7 := ha7.size
          clear ha7
          have bR7c0 := cell_blk (i := 0) bR_7.out rfl
          have bR7f0 := free_blk bR_7.out 0
          have bR7c1 := cell_blk (i := 1) bR_7.out rfl
          have bR7f1 := free_blk bR_7.out 1
          have bR7c2 := cell_blk (i := 2) bR_7.out rfl
          have bR7f2 := free_blk bR_7.out 2
          have bR7l := lt_blk bR_7.out
          go_wp2
          exact bodyPost_ret (v := .tuple #[.agg #[.int .i64 0, .slice none 0 0, .slice none 0 0], .bool false]) (by simp [results, Try.results20, go_sem, bR7c0, bR7f0, bR7c1, bR7f1, bR7c2, bR7f2]) rfl (noW_post (bel_put3 HB7.out (by omega)))
        | true =>
          have HN' := Lib.hid hn'
          have HNX := Lib.hid (show (ls ++ [(a, lowW tm (offW is a), highW tm (offW is a) + b)]).length = n' + 1 by rw [List.length_append, hn']; rfl)
          have HN := Lib.hid hn
          have hcn := (fun W (hW : Below w.heap.size w W) => l10Own_any tm A A' n c n' c' is ls B W hn hn' (h.below (hW.mono hB)) (h'.below (hW.mono hB)) (Nat.le_trans hB hW.size) (by omega) (by omega))
          unfold WtV at hcn
          simp only [hn, hn'] at hcn
          have HCN := Lib.hid hcn
          clear hcn
          rw [show askW tm is ls a b = ifW tm is (ls ++ [(a, lowW tm (offW is a), highW tm (offW is a) + b)]) by simp [askW, g1, g2, g3]]
          rw [ifW_some g4]
          rw [g3] at HF
          have G4 := Lib.hid g4
          obtain ⟨lo, hlo⟩ : ∃ lo, lo = lowW tm (offW is a) := ⟨_, rfl⟩
          obtain ⟨hi, hhi⟩ : ∃ hi, hi = highW tm (offW is a) := ⟨_, rfl⟩
          rw [← hlo] at HF HNX G4
          rw [← hhi] at HNX G4
          try rw [← hlo, ← hhi]
          rw [← hlo, ← hhi] at HS
          rw [← hlo] at hlb0 hlb1
          rw [← hhi] at hhb0 hhb1
          have hfd := fldLo lo hi
          obtain ⟨gb0, gb1⟩ := inB_true g2
          clear h h' g1 g2 g3 g4 hlo hhi hub hn hn'
          go_enter Try.func20, Try.ntmps20
          have y0 := bel_cell (cell_blk (i := 0) bK_0.out rfl) (lt_blk bK_0.out)
          have y1 := bel_cell (cell_blk (i := 1) bK_0.out rfl) (lt_blk bK_0.out)
          have y2 := bel_cell (cell_blk (i := 2) bK_0.out rfl) (lt_blk bK_0.out)
          go_upto_region 1 with fail
          refine bel_region (by kernel_rfl) (by kernel_rfl) ?_
          repeat (go_big_quiet_step ((first | (go_at_call 34; exact bel_call (HG.out _ (HB0.out.trans (BelT.below _ |>.mono HB0.out.size)))) | (go_at_call 40; exact bel_same (HI.out _)) | (go_at_call 35; exact bel_call (HS.out _ (HB0.out.trans (BelT.below _ |>.mono HB0.out.size)))) | (go_at_call 41; exact bel_call (HF.out _ (HB0.out.trans (BelT.below _ |>.mono HB0.out.size)))))))
          refine wpQuiet_nil ?_
          intro p
          have ha1 := p.below
          obtain ⟨w1, hw1⟩ : ∃ w1, w1 = p.w := ⟨_, rfl⟩
          rw [← hw1] at ha1 ⊢
          clear hw1 y0 y1 y2
          have HB1 := Lib.hid (HB0.out.trans (ha1.mono HB0.out.size))
          have bK_1 := Lib.hid ((ha1.block (w.heap.size) (lt_blk bK_0.out)).trans bK_0.out)
          have bR_1 := Lib.hid ((ha1.block (w.heap.size + 1) (lt_blk bR_0.out)).trans bR_0.out)
          have hz1 := ha1.size
          simp only [World.size_alloc] at hz1
          clear ha1
          clear hfd
          have bK1c0 := cell_blk (i := 0) bK_1.out rfl
          have bK1f0 := free_blk bK_1.out 0
          have bK1c1 := cell_blk (i := 1) bK_1.out rfl
          have bK1f1 := free_blk bK_1.out 1
          have bK1c2 := cell_blk (i := 2) bK_1.out rfl
          have bK1f2 := free_blk bK_1.out 2
          have bK1l := lt_blk bK_1.out
          go_wp2_with fail
          refine (HS.out _ HB1.out).mono ?_
          rintro e w2 ⟨rfl, ha2⟩
          clear bK1c0 bK1f0 bK1c1 bK1f1 bK1c2 bK1f2 bK1l
          have HB2 := Lib.hid (HB1.out.trans (ha2.mono HB1.out.size))
          have bK_2 := Lib.hid ((ha2.block (w.heap.size) (lt_blk bK_1.out)).trans bK_1.out)
          have bR_2 := Lib.hid ((ha2.block (w.heap.size + 1) (lt_blk bR_1.out)).trans bR_1.out)
          have hz2 := ha2.size
          clear ha2
          have bK2c0 := cell_blk (i := 0) bK_2.out rfl
          have bK2f0 := free_blk bK_2.out 0
          have bK2c1 := cell_blk (i := 1) bK_2.out rfl
          have bK2f1 := free_blk bK_2.out 1
          have bK2c2 := cell_blk (i := 2) bK_2.out rfl
          have bK2f2 := free_blk bK_2.out 2
          have bK2l := lt_blk bK_2.out
          go_wp2_with fail
          obtain ⟨V2, hV2⟩ : ∃ V2, V2 = w2.alloc (.cells #[.int .i64 lo, .int .i64 hi] 58) := ⟨_, rfl⟩
          have haV2 := below1 w2 (.cells #[.int .i64 lo, .int .i64 hi] 58)
          have hnV2 := heap_alloc_new w2 (.cells #[.int .i64 lo, .int .i64 hi] 58)
          rw [← hV2] at haV2 hnV2 ⊢
          have hsVa2 : V2.heap.size ≤ w2.heap.size + 1 := by rw [hV2]; simp
          have hsVb2 : w2.heap.size + 1 ≤ V2.heap.size := by rw [hV2]; simp
          clear bK2c0 bK2f0 bK2c1 bK2f1 bK2c2 bK2f2 bK2l
          have HBV2 := Lib.hid (HB2.out.trans (haV2.mono HB2.out.size))
          have bK_V2 := Lib.hid ((haV2.block (w.heap.size) (lt_blk bK_2.out)).trans bK_2.out)
          have bR_V2 := Lib.hid ((haV2.block (w.heap.size + 1) (lt_blk bR_2.out)).trans bR_2.out)
          have hzV2 := haV2.size
          have bS_V2 := Lib.hid hnV2
          clear hV2 haV2 hnV2
          refine (HCN.out _ HBV2.out).mono ?_
          rintro e w3 ⟨A1, c1, A2, c2, rfl, hoi, hol, ha3⟩
          have HB3 := Lib.hid (HBV2.out.trans (ha3.mono HBV2.out.size))
          have bK_3 := Lib.hid ((ha3.block (w.heap.size) (lt_blk bK_V2.out)).trans bK_V2.out)
          have bR_3 := Lib.hid ((ha3.block (w.heap.size + 1) (lt_blk bR_V2.out)).trans bR_V2.out)
          have bS_3 := Lib.hid ((ha3.block (w2.heap.size) (lt_blk bS_V2.out)).trans bS_V2.out)
          have hz3 := ha3.size
          clear ha3
          try simp only [World.size_alloc] at hoi
          have oI_3 := Lib.hid hoi
          clear hoi
          try simp only [World.size_alloc] at hol
          have oL_3 := Lib.hid hol
          clear hol
          have bK3c0 := cell_blk (i := 0) bK_3.out rfl
          have bK3f0 := free_blk bK_3.out 0
          have bK3c1 := cell_blk (i := 1) bK_3.out rfl
          have bK3f1 := free_blk bK_3.out 1
          have bK3c2 := cell_blk (i := 2) bK_3.out rfl
          have bK3f2 := free_blk bK_3.out 2
          have bK3l := lt_blk bK_3.out
          have bR3c0 := cell_blk (i := 0) bR_3.out rfl
          have bR3f0 := free_blk bR_3.out 0
          have bR3c1 := cell_blk (i := 1) bR_3.out rfl
          have bR3f1 := free_blk bR_3.out 1
          have bR3c2 := cell_blk (i := 2) bR_3.out rfl
          have bR3f2 := free_blk bR_3.out 2
          have bR3l := lt_blk bR_3.out
          have bS3c0 := cell_blk (i := 0) bS_3.out rfl
          have bS3f0 := free_blk bS_3.out 0
          have bS3c1 := cell_blk (i := 1) bS_3.out rfl
          have bS3f1 := free_blk bS_3.out 1
          have bS3l := lt_blk bS_3.out
          go_upto_region 5 with fail
          obtain ⟨V3, hV3⟩ : ∃ V3, V3 = w3.alloc (.cells #[.int .i64 tm, .slice A1 n c1, .slice A2 n' c2] 30) := ⟨_, rfl⟩
          have haV3 := below1 w3 (.cells #[.int .i64 tm, .slice A1 n c1, .slice A2 n' c2] 30)
          have hnV3 := heap_alloc_new w3 (.cells #[.int .i64 tm, .slice A1 n c1, .slice A2 n' c2] 30)
          rw [← hV3] at haV3 hnV3 ⊢
          have hsVa3 : V3.heap.size ≤ w3.heap.size + 1 := by rw [hV3]; simp
          have hsVb3 : w3.heap.size + 1 ≤ V3.heap.size := by rw [hV3]; simp
          clear bK3c0 bK3f0 bK3c1 bK3f1 bK3c2 bK3f2 bK3l bR3c0 bR3f0 bR3c1 bR3f1 bR3c2 bR3f2 bR3l bS3c0 bS3f0 bS3c1 bS3f1 bS3l
          have HBV3 := Lib.hid (HB3.out.trans (haV3.mono HB3.out.size))
          have bK_V3 := Lib.hid ((haV3.block (w.heap.size) (lt_blk bK_3.out)).trans bK_3.out)
          have bR_V3 := Lib.hid ((haV3.block (w.heap.size + 1) (lt_blk bR_3.out)).trans bR_3.out)
          have bS_V3 := Lib.hid ((haV3.block (w2.heap.size) (lt_blk bS_3.out)).trans bS_3.out)
          have oI_V3 := Lib.hid (oI_3.out.since haV3 (by omega))
          have oL_V3 := Lib.hid (oL_3.out.since haV3 (by omega))
          have hzV3 := haV3.size
          have bQ_V3 := Lib.hid hnV3
          clear hV3 haV3 hnV3
          have hx0 := below1 V3 (.cells #[.int .i64 a, .int .i64 lo, .int .i64 (hi + b)] 55)
          have hoLx := oL_V3.out.since hx0 (by omega)
          have hoIx := oI_V3.out.since hx0 (by omega)
          have HROW := Lib.hid (le_row hoLx HN'.out)
          have HNEW := Lib.hid (heap_alloc_new V3 (.cells #[.int .i64 a, .int .i64 lo, .int .i64 (hi + b)] 55))
          have hlx : V2.heap.size ≤ (V3.alloc (.cells #[.int .i64 a, .int .i64 lo, .int .i64 (hi + b)] 55)).heap.size := by simp; omega
          have bK_x := Lib.hid ((hx0.block (w.heap.size) (lt_blk bK_V3.out)).trans bK_V3.out)
          have bKl := lt_blk bK_V3.out
          have bR_x := Lib.hid ((hx0.block (w.heap.size + 1) (lt_blk bR_V3.out)).trans bR_V3.out)
          have bRl := lt_blk bR_V3.out
          have bS_x := Lib.hid ((hx0.block (w2.heap.size) (lt_blk bS_V3.out)).trans bS_V3.out)
          have bSl := lt_blk bS_V3.out
          have bQ_x := Lib.hid ((hx0.block (w3.heap.size) (lt_blk bQ_V3.out)).trans bQ_V3.out)
          have bQl := lt_blk bQ_V3.out
          have HOLX := Lib.hid hoLx
          have HOIX := Lib.hid hoIx
          have HX0 := Lib.hid hx0
          clear hoLx hoIx hx0
          have bQV3c0 := cell_blk (i := 0) bQ_V3.out rfl
          have bQV3f0 := free_blk bQ_V3.out 0
          have bQV3c1 := cell_blk (i := 1) bQ_V3.out rfl
          have bQV3f1 := free_blk bQ_V3.out 1
          have bQV3c2 := cell_blk (i := 2) bQ_V3.out rfl
          have bQV3f2 := free_blk bQ_V3.out 2
          have bQV3l := lt_blk bQ_V3.out
          have bRV3c0 := cell_blk (i := 0) bR_V3.out rfl
          have bRV3f0 := free_blk bR_V3.out 0
          have bRV3c1 := cell_blk (i := 1) bR_V3.out rfl
          have bRV3f1 := free_blk bR_V3.out 1
          have bRV3c2 := cell_blk (i := 2) bR_V3.out rfl
          have bRV3f2 := free_blk bR_V3.out 2
          have bRV3l := lt_blk bR_V3.out
          have bSV3c0 := cell_blk (i := 0) bS_V3.out rfl
          have bSV3f0 := free_blk bS_V3.out 0
          have bSV3c1 := cell_blk (i := 1) bS_V3.out rfl
          have bSV3f1 := free_blk bS_V3.out 1
          have bSV3l := lt_blk bS_V3.out
          go_wp2_with (at_builtin; refine wpList_app rfl (.tmp 36) (.tmp 45) 28 rfl V2.heap.size 55 j0 _ 3 24 Try.underlying28 hj hy0 hy1 hy2 rfl (by decide) (.slice A2 n' c2) n' ((ls.map leCs).flatten) rfl HROW.out (some ⟨V3.heap.size, 0, none⟩) 1 1 (leCs (a, lo, hi + b)) rfl rfl (fun _ => ⟨_, rfl, World.news_of_block (cs := #[.int .i64 a, .int .i64 lo, .int .i64 (hi + b)]) (t := 55) (fr := (0, 0)) HNEW.out⟩) (by simp [leCs, Value.oneCell']) (by unfold maxLen; omega) (by omega) hlx ?_; intro v5 w5 hown hgr _; obtain ⟨A5, c5, rfl, ho5⟩ := le_snoc HOLX.out HN'.out hown; have HGR := Lib.hid hgr; have HO5 := Lib.hid ho5; clear hown hgr ho5 bQV3c0 bQV3f0 bQV3c1 bQV3f1 bQV3c2 bQV3f2 bQV3l bRV3c0 bRV3f0 bRV3c1 bRV3f1 bRV3c2 bRV3f2 bRV3l bSV3c0 bSV3f0 bSV3c1 bSV3f1 bSV3l; have hzg := HGR.out.size; simp only [World.size_alloc] at hzg; have bR_5 := Lib.hid ((HGR.out.block (w.heap.size + 1) (by simp; omega) (ne_own HOLX.out (by omega))).trans bR_x.out); have bRc0 := cell_blk (i := 0) bR_5.out rfl; have bRc1 := cell_blk (i := 1) bR_5.out rfl; have bRc2 := cell_blk (i := 2) bR_5.out rfl; have bRfr := free_blk bR_5.out 2; have bRl5 := lt_blk bR_5.out; have bQ_5 := Lib.hid ((HGR.out.block (w3.heap.size) (by simp; omega) (ne_own HOLX.out (by omega))).trans bQ_x.out); have bQc0 := cell_blk (i := 0) bQ_5.out rfl; have bQc1 := cell_blk (i := 1) bQ_5.out rfl; have bQc2 := cell_blk (i := 2) bQ_5.out rfl; have bQfr := free_blk bQ_5.out 2; have bQl5 := lt_blk bQ_5.out)
          obtain ⟨V6, hV6⟩ : ∃ V6, V6 = w5.setCell ⟨w3.heap.size, 2, none⟩ (.slice A5 (n' + 1) c5) := ⟨_, rfl⟩
          have hsa6 : w5.heap.size ≤ V6.heap.size := by rw [hV6]; simp [World.setCell]
          have hsb6 : V6.heap.size ≤ w5.heap.size := by rw [hV6]; simp [World.setCell]
          have hb5 : Below w.heap.size w w5 := (HBV3.out.trans (HX0.out.mono HBV3.out.size)).grown HGR.out (by simp; omega) (fun q hq => Nat.le_of_not_lt fun h9 => ne_own (n := n') HOLX.out (idx := q) (.inl (by omega)) hq.symm)
          have HB6 : Hid (Below w.heap.size w V6) := by rw [hV6]; exact Lib.hid (hb5.setCell (p := ⟨w3.heap.size, 2, none⟩) (by simp only []; omega) _)
          have oI_6 : Hid (OwnCk V6 V2.heap.size w3.heap.size A1 c1 is) := by rw [hV6]; exact Lib.hid ((ck_grown HOIX.out HOLX.out HGR.out).high (p := ⟨w3.heap.size, 2, none⟩) (Nat.le_refl _) _)
          have oL_6 : Hid (OwnLe V6 V2.heap.size w5.heap.size A5 c5 (ls ++ [(a, lo, hi + b)])) := by rw [hV6]; exact Lib.hid (Own.otherT HO5.out (p := ⟨w3.heap.size, 2, none⟩) bQ_5.out (by decide) _)
          have bR_6 : Hid (V6.heap[w.heap.size + 1]? = some (.cells #[.int .i64 0, .slice none 0 0, .slice none 0 0] 30 (0, 0))) := by rw [hV6]; exact Lib.hid ((Below.heap_setCell _ _ _ _ (by simp only []; omega)).trans bR_5.out)
          have bQ_6 : Hid (V6.heap[w3.heap.size]? = some (.cells #[.int .i64 tm, .slice A1 n c1, .slice A5 (n' + 1) c5] 30 (0, 0))) := by rw [hV6]; exact Lib.hid (set_blkW bQ_5.out)
          rw [← hV6]
          clear hV6 hb5 bQc0 bQc1 bQc2 bQfr bRc0 bRc1 bRc2 bRfr
          have HIF := Lib.hid (l10If_any tm A1 A5 n c1 (n' + 1) c5 is (ls ++ [(a, lo, hi + b)]) V6.heap.size V6 HN.out HNX.out (oI_6.out.cks.mono (by omega)) (oL_6.out.les.mono (by omega)) (Nat.le_refl _))
          rw [G4.out] at HIF
          simp only [cond_true] at HIF
          refine HIF.out.mono ?_
          rintro e w7 ⟨rfl, ha7⟩
          have HB7 := Lib.hid (HB6.out.trans (ha7.mono HB6.out.size))
          have bR_7 := Lib.hid ((ha7.block (w.heap.size + 1) (lt_blk bR_6.out)).trans bR_6.out)
          have bQ_7 := Lib.hid ((ha7.block (w3.heap.size) (lt_blk bQ_6.out)).trans bQ_6.out)
          have oI_7 := Lib.hid (oI_6.out.since ha7 (by omega))
          have oL_7 := Lib.hid (oL_6.out.since ha7 (by omega))
          have hz7 := ha7.size
          clear ha7
          have bR7c0 := cell_blk (i := 0) bR_7.out rfl
          have bR7f0 := free_blk bR_7.out 0
          have bR7c1 := cell_blk (i := 1) bR_7.out rfl
          have bR7f1 := free_blk bR_7.out 1
          have bR7c2 := cell_blk (i := 2) bR_7.out rfl
          have bR7f2 := free_blk bR_7.out 2
          have bR7l := lt_blk bR_7.out
          go_wp2
          exact bodyPost_ret (v := .tuple #[.agg #[.int .i64 tm, .slice A1 n c1, .slice A5 (n' + 1) c5], .bool true]) (by simp [results, Try.results20, go_sem, bR7c0, bR7f0, bR7c1, bR7f1, bR7c2, bR7f2]) rfl (yesW_post HN.out HNX.out ((OwnCk.put3 oI_7.out (by omega)).wider (by omega) (by simp [World.setCell]; omega)) ((OwnLe.put3 oL_7.out (by omega)).wider (by omega) (by simp [World.setCell]; omega)) (bel_put3 HB7.out (by omega)))

set_option maxRecDepth 100000 in
set_option maxHeartbeats 8000000 in
theorem implAskLease_any (tm : Int) (A A' : Option Addr) (n c n' c' : Nat) (is : List Int) (ls : List (Int × Int × Int)) (a b : Int) (B : Nat) (w : World) (hn : is.length = n) (hn' : ls.length = n') (h : CksB w B A is) (h' : LesB w B A' ls) (hB : B ≤ w.heap.size) :
    Calls Try.prog 18 #[.agg #[.int .i64 tm, .slice A n c, .slice A' n' c'], .int .i64 a, .int .i64 b] w (WAPost (askW tm is ls a b) w) := by
  obtain ⟨j0, hj, hy0, hy1, hy2⟩ := info_parts infoLe
  have HB0 := Lib.hid (below2 w (.cells #[.int .i64 tm, .slice A n c, .slice A' n' c'] 30) (.cells #[.int .i64 0, .slice none 0 0, .slice none 0 0] 30))
  have bK_0 := Lib.hid (((below1 (w.alloc (.cells #[.int .i64 tm, .slice A n c, .slice A' n' c'] 30)) (.cells #[.int .i64 0, .slice none 0 0, .slice none 0 0] 30)).block w.heap.size (by simp)).trans (heap_alloc_new w (.cells #[.int .i64 tm, .slice A n c, .slice A' n' c'] 30)))
  have bR_0 := Lib.hid (alloc_snd w (.cells #[.int .i64 tm, .slice A n c, .slice A' n' c'] 30) (.cells #[.int .i64 0, .slice none 0 0, .slice none 0 0] 30))
  cases g1 : hasW tm is ls a with
  | false =>
    rw [show askW tm is ls a b = noW by simp [askW, g1]]
    have HG := Lib.hid (fun W (hW : Below w.heap.size w W) => leaserNo_any tm A A' n c n' c' is ls a B W hn hn' (h.below (hW.mono hB)) (h'.below (hW.mono hB)) (Nat.le_trans hB hW.size) g1)
    clear h h' hn hn' g1
    go_enter Try.func18, Try.ntmps18
    go_wp2_with fail
    refine (HG.out _ HB0.out).mono ?_
    rintro e w1 ⟨rfl, ha1⟩
    have HB1 := Lib.hid (HB0.out.trans (ha1.mono HB0.out.size))
    have bK_1 := Lib.hid ((ha1.block (w.heap.size) (lt_blk bK_0.out)).trans bK_0.out)
    have bR_1 := Lib.hid ((ha1.block (w.heap.size + 1) (lt_blk bR_0.out)).trans bR_0.out)
    have hz1 := ha1.size
    simp only [World.size_alloc] at hz1
    clear ha1
    have bK1c0 := cell_blk (i := 0) bK_1.out rfl
    have bK1f0 := free_blk bK_1.out 0
    have bK1c1 := cell_blk (i := 1) bK_1.out rfl
    have bK1f1 := free_blk bK_1.out 1
    have bK1c2 := cell_blk (i := 2) bK_1.out rfl
    have bK1f2 := free_blk bK_1.out 2
    have bK1l := lt_blk bK_1.out
    have bR1c0 := cell_blk (i := 0) bR_1.out rfl
    have bR1f0 := free_blk bR_1.out 0
    have bR1c1 := cell_blk (i := 1) bR_1.out rfl
    have bR1f1 := free_blk bR_1.out 1
    have bR1c2 := cell_blk (i := 2) bR_1.out rfl
    have bR1f2 := free_blk bR_1.out 2
    have bR1l := lt_blk bR_1.out
    go_wp2
    exact bodyPost_ret (v := .tuple #[.agg #[.int .i64 0, .slice none 0 0, .slice none 0 0], .bool false]) (by simp [results, Try.results18, go_sem, bR1c0, bR1f0, bR1c1, bR1f1, bR1c2, bR1f2, bR1l]) rfl (noW_post (by first | exact bel_put3 (HB1.out.alloc HB1.out.size _) (by omega) | exact (bel_put3 HB1.out (by omega)).alloc (by simp [World.setCell]; omega) _))
  | true =>
    have gl := (wchB_true (hasW_true g1).1).2.2.1
    rw [hn'] at gl
    have gc5 := (wchB_true (hasW_true g1).1).2.1.2
    rw [hn] at gc5
    have hlb := low_small g1
    have hhb := high_small g1
    have hub := lses_until (wchB_true (hasW_true g1).1).2.2.2.2
    obtain ⟨hlb0, hlb1⟩ := hlb
    obtain ⟨hhb0, hhb1⟩ := hhb
    have HG := Lib.hid (fun W (hW : Below w.heap.size w W) => leaserYes_any tm A A' n c n' c' is ls a B W hn hn' (h.below (hW.mono hB)) (h'.below (hW.mono hB)) (Nat.le_trans hB hW.size) g1)
    by_cases hb1 : 1 ≤ b
    · by_cases hb2 : b ≤ 100
      · have g2 : inB b 1 100 = true := inB_mk ⟨hb1, hb2⟩
        have hlb0' := hlb0
        have hlb1' := hlb1
        obtain ⟨lo, hlo⟩ : ∃ lo, lo = lowW tm (offW is a) := ⟨_, rfl⟩
        obtain ⟨hi, hhi⟩ : ∃ hi, hi = highW tm (offW is a) := ⟨_, rfl⟩
        rw [← hlo] at hlb0' hlb1' hlb0 hlb1
        rw [← hhi] at hhb0 hhb1
        rw [← hlo, ← hhi] at HG
        have HST := Lib.hid (fun W (hW : Below w.heap.size w W) => stepsToTurn_any lo hi a A' n' c' ls B W hn' (h'.below (hW.mono hB)) (Nat.le_trans hB hW.size) (by omega) ⟨hlb0, hlb1⟩ hub)
        have HSF := Lib.hid (steps_free (who := a) (lo := lo) ls)
        obtain ⟨st, hst⟩ : ∃ st, st = stepsW a lo ls := ⟨_, rfl⟩
        rw [← hst] at HST HSF
        clear hlb0' hlb1'
        by_cases h3 : st ≤ 0
        · have g3 : freeW a (lowW tm (offW is a)) ls = true := by rw [← hlo, HSF.out, decide_eq_true h3]
          have h3d : decide (0 < st) = false := by simp; omega
          clear hst
          cases g4 : wchB tm is (ls ++ [(a, lowW tm (offW is a), highW tm (offW is a) + b)]) with
          | false =>
            have HN' := Lib.hid hn'
            have HNX := Lib.hid (show (ls ++ [(a, lowW tm (offW is a), highW tm (offW is a) + b)]).length = n' + 1 by rw [List.length_append, hn']; rfl)
            have HN := Lib.hid hn
            have hcn := (fun W (hW : Below w.heap.size w W) => copyWatch_any tm A A' n c n' c' is ls B W hn hn' (h.below (hW.mono hB)) (h'.below (hW.mono hB)) (Nat.le_trans hB hW.size) (by omega) (by omega))
            unfold WtV at hcn
            simp only [hn, hn'] at hcn
            have HCN := Lib.hid hcn
            clear hcn
            rw [show askW tm is ls a b = ifW tm is (ls ++ [(a, lowW tm (offW is a), highW tm (offW is a) + b)]) by simp [askW, g1, g2, g3]]
            rw [ifW_none g4]
            have G4 := Lib.hid g4
            rw [← hlo] at HNX G4
            rw [← hhi] at HNX G4
            try rw [← hlo, ← hhi]
            clear h h' g1 g2 g3 g4 hlo hhi hub hn hn'
            go_enter Try.func18, Try.ntmps18
            go_wp2_with fail
            refine (HG.out _ HB0.out).mono ?_
            rintro e w1 ⟨rfl, ha1⟩
            have HB1 := Lib.hid (HB0.out.trans (ha1.mono HB0.out.size))
            have bK_1 := Lib.hid ((ha1.block (w.heap.size) (lt_blk bK_0.out)).trans bK_0.out)
            have bR_1 := Lib.hid ((ha1.block (w.heap.size + 1) (lt_blk bR_0.out)).trans bR_0.out)
            have hz1 := ha1.size
            simp only [World.size_alloc] at hz1
            clear ha1
            have bK1c0 := cell_blk (i := 0) bK_1.out rfl
            have bK1f0 := free_blk bK_1.out 0
            have bK1c1 := cell_blk (i := 1) bK_1.out rfl
            have bK1f1 := free_blk bK_1.out 1
            have bK1c2 := cell_blk (i := 2) bK_1.out rfl
            have bK1f2 := free_blk bK_1.out 2
            have bK1l := lt_blk bK_1.out
            go_wp2_with fail
            obtain ⟨V1, hV1⟩ : ∃ V1, V1 = w1.alloc (.cells #[.int .i64 lo, .int .i64 hi, .int .i64 a] 60) := ⟨_, rfl⟩
            have haV1 := below1 w1 (.cells #[.int .i64 lo, .int .i64 hi, .int .i64 a] 60)
            have hnV1 := heap_alloc_new w1 (.cells #[.int .i64 lo, .int .i64 hi, .int .i64 a] 60)
            rw [← hV1] at haV1 hnV1 ⊢
            have hsVa1 : V1.heap.size ≤ w1.heap.size + 1 := by rw [hV1]; simp
            have hsVb1 : w1.heap.size + 1 ≤ V1.heap.size := by rw [hV1]; simp
            clear bK1c0 bK1f0 bK1c1 bK1f1 bK1c2 bK1f2 bK1l
            have HBV1 := Lib.hid (HB1.out.trans (haV1.mono HB1.out.size))
            have bK_V1 := Lib.hid ((haV1.block (w.heap.size) (lt_blk bK_1.out)).trans bK_1.out)
            have bR_V1 := Lib.hid ((haV1.block (w.heap.size + 1) (lt_blk bR_1.out)).trans bR_1.out)
            have hzV1 := haV1.size
            have bN_V1 := Lib.hid hnV1
            clear hV1 haV1 hnV1
            refine (HST.out _ HBV1.out).mono ?_
            rintro e w2 ⟨rfl, ha2⟩
            have HB2 := Lib.hid (HBV1.out.trans (ha2.mono HBV1.out.size))
            have bK_2 := Lib.hid ((ha2.block (w.heap.size) (lt_blk bK_V1.out)).trans bK_V1.out)
            have bR_2 := Lib.hid ((ha2.block (w.heap.size + 1) (lt_blk bR_V1.out)).trans bR_V1.out)
            have bN_2 := Lib.hid ((ha2.block (w1.heap.size) (lt_blk bN_V1.out)).trans bN_V1.out)
            have hz2 := ha2.size
            clear ha2
            have bK2c0 := cell_blk (i := 0) bK_2.out rfl
            have bK2f0 := free_blk bK_2.out 0
            have bK2c1 := cell_blk (i := 1) bK_2.out rfl
            have bK2f1 := free_blk bK_2.out 1
            have bK2c2 := cell_blk (i := 2) bK_2.out rfl
            have bK2f2 := free_blk bK_2.out 2
            have bK2l := lt_blk bK_2.out
            have bN2c0 := cell_blk (i := 0) bN_2.out rfl
            have bN2f0 := free_blk bN_2.out 0
            have bN2c1 := cell_blk (i := 1) bN_2.out rfl
            have bN2f1 := free_blk bN_2.out 1
            have bN2c2 := cell_blk (i := 2) bN_2.out rfl
            have bN2f2 := free_blk bN_2.out 2
            have bN2l := lt_blk bN_2.out
            go_wp2_with fail
            refine (HCN.out _ HB2.out).mono ?_
            rintro e w3 ⟨A1, c1, A2, c2, rfl, hoi, hol, ha3⟩
            clear bK2c0 bK2f0 bK2c1 bK2f1 bK2c2 bK2f2 bK2l bN2c0 bN2f0 bN2c1 bN2f1 bN2c2 bN2f2 bN2l
            have HB3 := Lib.hid (HB2.out.trans (ha3.mono HB2.out.size))
            have bK_3 := Lib.hid ((ha3.block (w.heap.size) (lt_blk bK_2.out)).trans bK_2.out)
            have bR_3 := Lib.hid ((ha3.block (w.heap.size + 1) (lt_blk bR_2.out)).trans bR_2.out)
            have bN_3 := Lib.hid ((ha3.block (w1.heap.size) (lt_blk bN_2.out)).trans bN_2.out)
            have hz3 := ha3.size
            clear ha3
            try simp only [World.size_alloc] at hoi
            have oI_3 := Lib.hid hoi
            clear hoi
            try simp only [World.size_alloc] at hol
            have oL_3 := Lib.hid hol
            clear hol
            have bK3c0 := cell_blk (i := 0) bK_3.out rfl
            have bK3f0 := free_blk bK_3.out 0
            have bK3c1 := cell_blk (i := 1) bK_3.out rfl
            have bK3f1 := free_blk bK_3.out 1
            have bK3c2 := cell_blk (i := 2) bK_3.out rfl
            have bK3f2 := free_blk bK_3.out 2
            have bK3l := lt_blk bK_3.out
            have bR3c0 := cell_blk (i := 0) bR_3.out rfl
            have bR3f0 := free_blk bR_3.out 0
            have bR3c1 := cell_blk (i := 1) bR_3.out rfl
            have bR3f1 := free_blk bR_3.out 1
            have bR3c2 := cell_blk (i := 2) bR_3.out rfl
            have bR3f2 := free_blk bR_3.out 2
            have bR3l := lt_blk bR_3.out
            have bN3c0 := cell_blk (i := 0) bN_3.out rfl
            have bN3f0 := free_blk bN_3.out 0
            have bN3c1 := cell_blk (i := 1) bN_3.out rfl
            have bN3f1 := free_blk bN_3.out 1
            have bN3c2 := cell_blk (i := 2) bN_3.out rfl
            have bN3f2 := free_blk bN_3.out 2
            have bN3l := lt_blk bN_3.out
            go_upto_region 5 with fail
            obtain ⟨V3, hV3⟩ : ∃ V3, V3 = w3.alloc (.cells #[.int .i64 tm, .slice A1 n c1, .slice A2 n' c2] 30) := ⟨_, rfl⟩
            have haV3 := below1 w3 (.cells #[.int .i64 tm, .slice A1 n c1, .slice A2 n' c2] 30)
            have hnV3 := heap_alloc_new w3 (.cells #[.int .i64 tm, .slice A1 n c1, .slice A2 n' c2] 30)
            rw [← hV3] at haV3 hnV3 ⊢
            have hsVa3 : V3.heap.size ≤ w3.heap.size + 1 := by rw [hV3]; simp
            have hsVb3 : w3.heap.size + 1 ≤ V3.heap.size := by rw [hV3]; simp
            clear bK3c0 bK3f0 bK3c1 bK3f1 bK3c2 bK3f2 bK3l bR3c0 bR3f0 bR3c1 bR3f1 bR3c2 bR3f2 bR3l bN3c0 bN3f0 bN3c1 bN3f1 bN3c2 bN3f2 bN3l
            have HBV3 := Lib.hid (HB3.out.trans (haV3.mono HB3.out.size))
            have bK_V3 := Lib.hid ((haV3.block (w.heap.size) (lt_blk bK_3.out)).trans bK_3.out)
            have bR_V3 := Lib.hid ((haV3.block (w.heap.size + 1) (lt_blk bR_3.out)).trans bR_3.out)
            have bN_V3 := Lib.hid ((haV3.block (w1.heap.size) (lt_blk bN_3.out)).trans bN_3.out)
            have oI_V3 := Lib.hid (oI_3.out.since haV3 (by omega))
            have oL_V3 := Lib.hid (oL_3.out.since haV3 (by omega))
            have hzV3 := haV3.size
            have bQ_V3 := Lib.hid hnV3
            clear hV3 haV3 hnV3
            have hx0 := below1 V3 (.cells #[.int .i64 a, .int .i64 lo, .int .i64 (hi + b)] 55)
            have hoLx := oL_V3.out.since hx0 (by omega)
            have hoIx := oI_V3.out.since hx0 (by omega)
            have HROW := Lib.hid (le_row hoLx HN'.out)
            have HNEW := Lib.hid (heap_alloc_new V3 (.cells #[.int .i64 a, .int .i64 lo, .int .i64 (hi + b)] 55))
            have hlx : w2.heap.size ≤ (V3.alloc (.cells #[.int .i64 a, .int .i64 lo, .int .i64 (hi + b)] 55)).heap.size := by simp; omega
            have bK_x := Lib.hid ((hx0.block (w.heap.size) (lt_blk bK_V3.out)).trans bK_V3.out)
            have bKl := lt_blk bK_V3.out
            have bR_x := Lib.hid ((hx0.block (w.heap.size + 1) (lt_blk bR_V3.out)).trans bR_V3.out)
            have bRl := lt_blk bR_V3.out
            have bN_x := Lib.hid ((hx0.block (w1.heap.size) (lt_blk bN_V3.out)).trans bN_V3.out)
            have bNl := lt_blk bN_V3.out
            have bQ_x := Lib.hid ((hx0.block (w3.heap.size) (lt_blk bQ_V3.out)).trans bQ_V3.out)
            have bQl := lt_blk bQ_V3.out
            have HOLX := Lib.hid hoLx
            have HOIX := Lib.hid hoIx
            have HX0 := Lib.hid hx0
            clear hoLx hoIx hx0
            have bQV3c0 := cell_blk (i := 0) bQ_V3.out rfl
            have bQV3f0 := free_blk bQ_V3.out 0
            have bQV3c1 := cell_blk (i := 1) bQ_V3.out rfl
            have bQV3f1 := free_blk bQ_V3.out 1
            have bQV3c2 := cell_blk (i := 2) bQ_V3.out rfl
            have bQV3f2 := free_blk bQ_V3.out 2
            have bQV3l := lt_blk bQ_V3.out
            have bRV3c0 := cell_blk (i := 0) bR_V3.out rfl
            have bRV3f0 := free_blk bR_V3.out 0
            have bRV3c1 := cell_blk (i := 1) bR_V3.out rfl
            have bRV3f1 := free_blk bR_V3.out 1
            have bRV3c2 := cell_blk (i := 2) bR_V3.out rfl
            have bRV3f2 := free_blk bR_V3.out 2
            have bRV3l := lt_blk bR_V3.out
            have bNV3c0 := cell_blk (i := 0) bN_V3.out rfl
            have bNV3f0 := free_blk bN_V3.out 0
            have bNV3c1 := cell_blk (i := 1) bN_V3.out rfl
            have bNV3f1 := free_blk bN_V3.out 1
            have bNV3c2 := cell_blk (i := 2) bN_V3.out rfl
            have bNV3f2 := free_blk bN_V3.out 2
            have bNV3l := lt_blk bN_V3.out
            go_wp2_with (at_builtin; refine wpList_app rfl (.tmp 38) (.tmp 49) 28 rfl w2.heap.size 55 j0 _ 3 24 Try.underlying28 hj hy0 hy1 hy2 rfl (by decide) (.slice A2 n' c2) n' ((ls.map leCs).flatten) rfl HROW.out (some ⟨V3.heap.size, 0, none⟩) 1 1 (leCs (a, lo, hi + b)) rfl rfl (fun _ => ⟨_, rfl, World.news_of_block (cs := #[.int .i64 a, .int .i64 lo, .int .i64 (hi + b)]) (t := 55) (fr := (0, 0)) HNEW.out⟩) (by simp [leCs, Value.oneCell']) (by unfold maxLen; omega) (by omega) hlx ?_; intro v5 w5 hown hgr _; obtain ⟨A5, c5, rfl, ho5⟩ := le_snoc HOLX.out HN'.out hown; have HGR := Lib.hid hgr; have HO5 := Lib.hid ho5; clear hown hgr ho5 bQV3c0 bQV3f0 bQV3c1 bQV3f1 bQV3c2 bQV3f2 bQV3l bRV3c0 bRV3f0 bRV3c1 bRV3f1 bRV3c2 bRV3f2 bRV3l bNV3c0 bNV3f0 bNV3c1 bNV3f1 bNV3c2 bNV3f2 bNV3l; have hzg := HGR.out.size; simp only [World.size_alloc] at hzg; have bR_5 := Lib.hid ((HGR.out.block (w.heap.size + 1) (by simp; omega) (ne_own HOLX.out (by omega))).trans bR_x.out); have bRc0 := cell_blk (i := 0) bR_5.out rfl; have bRc1 := cell_blk (i := 1) bR_5.out rfl; have bRc2 := cell_blk (i := 2) bR_5.out rfl; have bRfr := free_blk bR_5.out 2; have bRl5 := lt_blk bR_5.out; have bQ_5 := Lib.hid ((HGR.out.block (w3.heap.size) (by simp; omega) (ne_own HOLX.out (by omega))).trans bQ_x.out); have bQc0 := cell_blk (i := 0) bQ_5.out rfl; have bQc1 := cell_blk (i := 1) bQ_5.out rfl; have bQc2 := cell_blk (i := 2) bQ_5.out rfl; have bQfr := free_blk bQ_5.out 2; have bQl5 := lt_blk bQ_5.out)
            obtain ⟨V6, hV6⟩ : ∃ V6, V6 = w5.setCell ⟨w3.heap.size, 2, none⟩ (.slice A5 (n' + 1) c5) := ⟨_, rfl⟩
            have hsa6 : w5.heap.size ≤ V6.heap.size := by rw [hV6]; simp [World.setCell]
            have hsb6 : V6.heap.size ≤ w5.heap.size := by rw [hV6]; simp [World.setCell]
            have hb5 : Below w.heap.size w w5 := (HBV3.out.trans (HX0.out.mono HBV3.out.size)).grown HGR.out (by simp; omega) (fun q hq => Nat.le_of_not_lt fun h9 => ne_own (n := n') HOLX.out (idx := q) (.inl (by omega)) hq.symm)
            have HB6 : Hid (Below w.heap.size w V6) := by rw [hV6]; exact Lib.hid (hb5.setCell (p := ⟨w3.heap.size, 2, none⟩) (by simp only []; omega) _)
            have oI_6 : Hid (OwnCk V6 w2.heap.size w3.heap.size A1 c1 is) := by rw [hV6]; exact Lib.hid ((ck_grown HOIX.out HOLX.out HGR.out).high (p := ⟨w3.heap.size, 2, none⟩) (Nat.le_refl _) _)
            have oL_6 : Hid (OwnLe V6 w2.heap.size w5.heap.size A5 c5 (ls ++ [(a, lo, hi + b)])) := by rw [hV6]; exact Lib.hid (Own.otherT HO5.out (p := ⟨w3.heap.size, 2, none⟩) bQ_5.out (by decide) _)
            have bR_6 : Hid (V6.heap[w.heap.size + 1]? = some (.cells #[.int .i64 0, .slice none 0 0, .slice none 0 0] 30 (0, 0))) := by rw [hV6]; exact Lib.hid ((Below.heap_setCell _ _ _ _ (by simp only []; omega)).trans bR_5.out)
            have bQ_6 : Hid (V6.heap[w3.heap.size]? = some (.cells #[.int .i64 tm, .slice A1 n c1, .slice A5 (n' + 1) c5] 30 (0, 0))) := by rw [hV6]; exact Lib.hid (set_blkW bQ_5.out)
            rw [← hV6]
            clear hV6 hb5 bQc0 bQc1 bQc2 bQfr bRc0 bRc1 bRc2 bRfr
            have HIF := Lib.hid (implGoodWatch_any tm A1 A5 n c1 (n' + 1) c5 is (ls ++ [(a, lo, hi + b)]) V6.heap.size V6 HN.out HNX.out (oI_6.out.cks.mono (by omega)) (oL_6.out.les.mono (by omega)) (Nat.le_refl _))
            rw [G4.out] at HIF
            refine HIF.out.mono ?_
            rintro e w7 ⟨rfl, ha7⟩
            have HB7 := Lib.hid (HB6.out.trans (ha7.mono HB6.out.size))
            have bR_7 := Lib.hid ((ha7.block (w.heap.size + 1) (lt_blk bR_6.out)).trans bR_6.out)
            have bQ_7 := Lib.hid ((ha7.block (w3.heap.size) (lt_blk bQ_6.out)).trans bQ_6.out)
            have oI_7 := Lib.hid (oI_6.out.since ha7 (by omega))
            have oL_7 := Lib.hid (oL_6.out.since ha7 (by omega))
            have hz7 := ha7.size
            clear ha7
            have bQ7c0 := cell_blk (i := 0) bQ_7.out rfl
            have bQ7f0 := free_blk bQ_7.out 0
            have bQ7c1 := cell_blk (i := 1) bQ_7.out rfl
            have bQ7f1 := free_blk bQ_7.out 1
            have bQ7c2 := cell_blk (i := 2) bQ_7.out rfl
            have bQ7f2 := free_blk bQ_7.out 2
            have bQ7l := lt_blk bQ_7.out
            have bR7c0 := cell_blk (i := 0) bR_7.out rfl
            have bR7f0 := free_blk bR_7.out 0
            have bR7c1 := cell_blk (i := 1) bR_7.out rfl
            have bR7f1 := free_blk bR_7.out 1
            have bR7c2 := cell_blk (i := 2) bR_7.out rfl
            have bR7f2 := free_blk bR_7.out 2
            have bR7l := lt_blk bR_7.out
            go_wp2
            exact bodyPost_ret (v := .tuple #[.agg #[.int .i64 0, .slice none 0 0, .slice none 0 0], .bool false]) (by simp [results, Try.results18, go_sem, bR7c0, bR7f0, bR7c1, bR7f1, bR7c2, bR7f2]) rfl (noW_post (bel_put3 HB7.out (by omega)))
          | true =>
            have HN' := Lib.hid hn'
            have HNX := Lib.hid (show (ls ++ [(a, lowW tm (offW is a), highW tm (offW is a) + b)]).length = n' + 1 by rw [List.length_append, hn']; rfl)
            have HN := Lib.hid hn
            have hcn := (fun W (hW : Below w.heap.size w W) => copyWatch_any tm A A' n c n' c' is ls B W hn hn' (h.below (hW.mono hB)) (h'.below (hW.mono hB)) (Nat.le_trans hB hW.size) (by omega) (by omega))
            unfold WtV at hcn
            simp only [hn, hn'] at hcn
            have HCN := Lib.hid hcn
            clear hcn
            rw [show askW tm is ls a b = ifW tm is (ls ++ [(a, lowW tm (offW is a), highW tm (offW is a) + b)]) by simp [askW, g1, g2, g3]]
            rw [ifW_some g4]
            have G4 := Lib.hid g4
            rw [← hlo] at HNX G4
            rw [← hhi] at HNX G4
            try rw [← hlo, ← hhi]
            clear h h' g1 g2 g3 g4 hlo hhi hub hn hn'
            go_enter Try.func18, Try.ntmps18
            go_wp2_with fail
            refine (HG.out _ HB0.out).mono ?_
            rintro e w1 ⟨rfl, ha1⟩
            have HB1 := Lib.hid (HB0.out.trans (ha1.mono HB0.out.size))
            have bK_1 := Lib.hid ((ha1.block (w.heap.size) (lt_blk bK_0.out)).trans bK_0.out)
            have bR_1 := Lib.hid ((ha1.block (w.heap.size + 1) (lt_blk bR_0.out)).trans bR_0.out)
            have hz1 := ha1.size
            simp only [World.size_alloc] at hz1
            clear ha1
            have bK1c0 := cell_blk (i := 0) bK_1.out rfl
            have bK1f0 := free_blk bK_1.out 0
            have bK1c1 := cell_blk (i := 1) bK_1.out rfl
            have bK1f1 := free_blk bK_1.out 1
            have bK1c2 := cell_blk (i := 2) bK_1.out rfl
            have bK1f2 := free_blk bK_1.out 2
            have bK1l := lt_blk bK_1.out
            go_wp2_with fail
            obtain ⟨V1, hV1⟩ : ∃ V1, V1 = w1.alloc (.cells #[.int .i64 lo, .int .i64 hi, .int .i64 a] 60) := ⟨_, rfl⟩
            have haV1 := below1 w1 (.cells #[.int .i64 lo, .int .i64 hi, .int .i64 a] 60)
            have hnV1 := heap_alloc_new w1 (.cells #[.int .i64 lo, .int .i64 hi, .int .i64 a] 60)
            rw [← hV1] at haV1 hnV1 ⊢
            have hsVa1 : V1.heap.size ≤ w1.heap.size + 1 := by rw [hV1]; simp
            have hsVb1 : w1.heap.size + 1 ≤ V1.heap.size := by rw [hV1]; simp
            clear bK1c0 bK1f0 bK1c1 bK1f1 bK1c2 bK1f2 bK1l
            have HBV1 := Lib.hid (HB1.out.trans (haV1.mono HB1.out.size))
            have bK_V1 := Lib.hid ((haV1.block (w.heap.size) (lt_blk bK_1.out)).trans bK_1.out)
            have bR_V1 := Lib.hid ((haV1.block (w.heap.size + 1) (lt_blk bR_1.out)).trans bR_1.out)
            have hzV1 := haV1.size
            have bN_V1 := Lib.hid hnV1
            clear hV1 haV1 hnV1
            refine (HST.out _ HBV1.out).mono ?_
            rintro e w2 ⟨rfl, ha2⟩
            have HB2 := Lib.hid (HBV1.out.trans (ha2.mono HBV1.out.size))
            have bK_2 := Lib.hid ((ha2.block (w.heap.size) (lt_blk bK_V1.out)).trans bK_V1.out)
            have bR_2 := Lib.hid ((ha2.block (w.heap.size + 1) (lt_blk bR_V1.out)).trans bR_V1.out)
            have bN_2 := Lib.hid ((ha2.block (w1.heap.size) (lt_blk bN_V1.out)).trans bN_V1.out)
            have hz2 := ha2.size
            clear ha2
            have bK2c0 := cell_blk (i := 0) bK_2.out rfl
            have bK2f0 := free_blk bK_2.out 0
            have bK2c1 := cell_blk (i := 1) bK_2.out rfl
            have bK2f1 := free_blk bK_2.out 1
            have bK2c2 := cell_blk (i := 2) bK_2.out rfl
            have bK2f2 := free_blk bK_2.out 2
            have bK2l := lt_blk bK_2.out
            have bN2c0 := cell_blk (i := 0) bN_2.out rfl
            have bN2f0 := free_blk bN_2.out 0
            have bN2c1 := cell_blk (i := 1) bN_2.out rfl
            have bN2f1 := free_blk bN_2.out 1
            have bN2c2 := cell_blk (i := 2) bN_2.out rfl
            have bN2f2 := free_blk bN_2.out 2
            have bN2l := lt_blk bN_2.out
            go_wp2_with fail
            refine (HCN.out _ HB2.out).mono ?_
            rintro e w3 ⟨A1, c1, A2, c2, rfl, hoi, hol, ha3⟩
            clear bK2c0 bK2f0 bK2c1 bK2f1 bK2c2 bK2f2 bK2l bN2c0 bN2f0 bN2c1 bN2f1 bN2c2 bN2f2 bN2l
            have HB3 := Lib.hid (HB2.out.trans (ha3.mono HB2.out.size))
            have bK_3 := Lib.hid ((ha3.block (w.heap.size) (lt_blk bK_2.out)).trans bK_2.out)
            have bR_3 := Lib.hid ((ha3.block (w.heap.size + 1) (lt_blk bR_2.out)).trans bR_2.out)
            have bN_3 := Lib.hid ((ha3.block (w1.heap.size) (lt_blk bN_2.out)).trans bN_2.out)
            have hz3 := ha3.size
            clear ha3
            try simp only [World.size_alloc] at hoi
            have oI_3 := Lib.hid hoi
            clear hoi
            try simp only [World.size_alloc] at hol
            have oL_3 := Lib.hid hol
            clear hol
            have bK3c0 := cell_blk (i := 0) bK_3.out rfl
            have bK3f0 := free_blk bK_3.out 0
            have bK3c1 := cell_blk (i := 1) bK_3.out rfl
            have bK3f1 := free_blk bK_3.out 1
            have bK3c2 := cell_blk (i := 2) bK_3.out rfl
            have bK3f2 := free_blk bK_3.out 2
            have bK3l := lt_blk bK_3.out
            have bR3c0 := cell_blk (i := 0) bR_3.out rfl
            have bR3f0 := free_blk bR_3.out 0
            have bR3c1 := cell_blk (i := 1) bR_3.out rfl
            have bR3f1 := free_blk bR_3.out 1
            have bR3c2 := cell_blk (i := 2) bR_3.out rfl
            have bR3f2 := free_blk bR_3.out 2
            have bR3l := lt_blk bR_3.out
            have bN3c0 := cell_blk (i := 0) bN_3.out rfl
            have bN3f0 := free_blk bN_3.out 0
            have bN3c1 := cell_blk (i := 1) bN_3.out rfl
            have bN3f1 := free_blk bN_3.out 1
            have bN3c2 := cell_blk (i := 2) bN_3.out rfl
            have bN3f2 := free_blk bN_3.out 2
            have bN3l := lt_blk bN_3.out
            go_upto_region 5 with fail
            obtain ⟨V3, hV3⟩ : ∃ V3, V3 = w3.alloc (.cells #[.int .i64 tm, .slice A1 n c1, .slice A2 n' c2] 30) := ⟨_, rfl⟩
            have haV3 := below1 w3 (.cells #[.int .i64 tm, .slice A1 n c1, .slice A2 n' c2] 30)
            have hnV3 := heap_alloc_new w3 (.cells #[.int .i64 tm, .slice A1 n c1, .slice A2 n' c2] 30)
            rw [← hV3] at haV3 hnV3 ⊢
            have hsVa3 : V3.heap.size ≤ w3.heap.size + 1 := by rw [hV3]; simp
            have hsVb3 : w3.heap.size + 1 ≤ V3.heap.size := by rw [hV3]; simp
            clear bK3c0 bK3f0 bK3c1 bK3f1 bK3c2 bK3f2 bK3l bR3c0 bR3f0 bR3c1 bR3f1 bR3c2 bR3f2 bR3l bN3c0 bN3f0 bN3c1 bN3f1 bN3c2 bN3f2 bN3l
            have HBV3 := Lib.hid (HB3.out.trans (haV3.mono HB3.out.size))
            have bK_V3 := Lib.hid ((haV3.block (w.heap.size) (lt_blk bK_3.out)).trans bK_3.out)
            have bR_V3 := Lib.hid ((haV3.block (w.heap.size + 1) (lt_blk bR_3.out)).trans bR_3.out)
            have bN_V3 := Lib.hid ((haV3.block (w1.heap.size) (lt_blk bN_3.out)).trans bN_3.out)
            have oI_V3 := Lib.hid (oI_3.out.since haV3 (by omega))
            have oL_V3 := Lib.hid (oL_3.out.since haV3 (by omega))
            have hzV3 := haV3.size
            have bQ_V3 := Lib.hid hnV3
            clear hV3 haV3 hnV3
            have hx0 := below1 V3 (.cells #[.int .i64 a, .int .i64 lo, .int .i64 (hi + b)] 55)
            have hoLx := oL_V3.out.since hx0 (by omega)
            have hoIx := oI_V3.out.since hx0 (by omega)
            have HROW := Lib.hid (le_row hoLx HN'.out)
            have HNEW := Lib.hid (heap_alloc_new V3 (.cells #[.int .i64 a, .int .i64 lo, .int .i64 (hi + b)] 55))
            have hlx : w2.heap.size ≤ (V3.alloc (.cells #[.int .i64 a, .int .i64 lo, .int .i64 (hi + b)] 55)).heap.size := by simp; omega
            have bK_x := Lib.hid ((hx0.block (w.heap.size) (lt_blk bK_V3.out)).trans bK_V3.out)
            have bKl := lt_blk bK_V3.out
            have bR_x := Lib.hid ((hx0.block (w.heap.size + 1) (lt_blk bR_V3.out)).trans bR_V3.out)
            have bRl := lt_blk bR_V3.out
            have bN_x := Lib.hid ((hx0.block (w1.heap.size) (lt_blk bN_V3.out)).trans bN_V3.out)
            have bNl := lt_blk bN_V3.out
            have bQ_x := Lib.hid ((hx0.block (w3.heap.size) (lt_blk bQ_V3.out)).trans bQ_V3.out)
            have bQl := lt_blk bQ_V3.out
            have HOLX := Lib.hid hoLx
            have HOIX := Lib.hid hoIx
            have HX0 := Lib.hid hx0
            clear hoLx hoIx hx0
            have bQV3c0 := cell_blk (i := 0) bQ_V3.out rfl
            have bQV3f0 := free_blk bQ_V3.out 0
            have bQV3c1 := cell_blk (i := 1) bQ_V3.out rfl
            have bQV3f1 := free_blk bQ_V3.out 1
            have bQV3c2 := cell_blk (i := 2) bQ_V3.out rfl
            have bQV3f2 := free_blk bQ_V3.out 2
            have bQV3l := lt_blk bQ_V3.out
            have bRV3c0 := cell_blk (i := 0) bR_V3.out rfl
            have bRV3f0 := free_blk bR_V3.out 0
            have bRV3c1 := cell_blk (i := 1) bR_V3.out rfl
            have bRV3f1 := free_blk bR_V3.out 1
            have bRV3c2 := cell_blk (i := 2) bR_V3.out rfl
            have bRV3f2 := free_blk bR_V3.out 2
            have bRV3l := lt_blk bR_V3.out
            have bNV3c0 := cell_blk (i := 0) bN_V3.out rfl
            have bNV3f0 := free_blk bN_V3.out 0
            have bNV3c1 := cell_blk (i := 1) bN_V3.out rfl
            have bNV3f1 := free_blk bN_V3.out 1
            have bNV3c2 := cell_blk (i := 2) bN_V3.out rfl
            have bNV3f2 := free_blk bN_V3.out 2
            have bNV3l := lt_blk bN_V3.out
            go_wp2_with (at_builtin; refine wpList_app rfl (.tmp 38) (.tmp 49) 28 rfl w2.heap.size 55 j0 _ 3 24 Try.underlying28 hj hy0 hy1 hy2 rfl (by decide) (.slice A2 n' c2) n' ((ls.map leCs).flatten) rfl HROW.out (some ⟨V3.heap.size, 0, none⟩) 1 1 (leCs (a, lo, hi + b)) rfl rfl (fun _ => ⟨_, rfl, World.news_of_block (cs := #[.int .i64 a, .int .i64 lo, .int .i64 (hi + b)]) (t := 55) (fr := (0, 0)) HNEW.out⟩) (by simp [leCs, Value.oneCell']) (by unfold maxLen; omega) (by omega) hlx ?_; intro v5 w5 hown hgr _; obtain ⟨A5, c5, rfl, ho5⟩ := le_snoc HOLX.out HN'.out hown; have HGR := Lib.hid hgr; have HO5 := Lib.hid ho5; clear hown hgr ho5 bQV3c0 bQV3f0 bQV3c1 bQV3f1 bQV3c2 bQV3f2 bQV3l bRV3c0 bRV3f0 bRV3c1 bRV3f1 bRV3c2 bRV3f2 bRV3l bNV3c0 bNV3f0 bNV3c1 bNV3f1 bNV3c2 bNV3f2 bNV3l; have hzg := HGR.out.size; simp only [World.size_alloc] at hzg; have bR_5 := Lib.hid ((HGR.out.block (w.heap.size + 1) (by simp; omega) (ne_own HOLX.out (by omega))).trans bR_x.out); have bRc0 := cell_blk (i := 0) bR_5.out rfl; have bRc1 := cell_blk (i := 1) bR_5.out rfl; have bRc2 := cell_blk (i := 2) bR_5.out rfl; have bRfr := free_blk bR_5.out 2; have bRl5 := lt_blk bR_5.out; have bQ_5 := Lib.hid ((HGR.out.block (w3.heap.size) (by simp; omega) (ne_own HOLX.out (by omega))).trans bQ_x.out); have bQc0 := cell_blk (i := 0) bQ_5.out rfl; have bQc1 := cell_blk (i := 1) bQ_5.out rfl; have bQc2 := cell_blk (i := 2) bQ_5.out rfl; have bQfr := free_blk bQ_5.out 2; have bQl5 := lt_blk bQ_5.out)
            obtain ⟨V6, hV6⟩ : ∃ V6, V6 = w5.setCell ⟨w3.heap.size, 2, none⟩ (.slice A5 (n' + 1) c5) := ⟨_, rfl⟩
            have hsa6 : w5.heap.size ≤ V6.heap.size := by rw [hV6]; simp [World.setCell]
            have hsb6 : V6.heap.size ≤ w5.heap.size := by rw [hV6]; simp [World.setCell]
            have hb5 : Below w.heap.size w w5 := (HBV3.out.trans (HX0.out.mono HBV3.out.size)).grown HGR.out (by simp; omega) (fun q hq => Nat.le_of_not_lt fun h9 => ne_own (n := n') HOLX.out (idx := q) (.inl (by omega)) hq.symm)
            have HB6 : Hid (Below w.heap.size w V6) := by rw [hV6]; exact Lib.hid (hb5.setCell (p := ⟨w3.heap.size, 2, none⟩) (by simp only []; omega) _)
            have oI_6 : Hid (OwnCk V6 w2.heap.size w3.heap.size A1 c1 is) := by rw [hV6]; exact Lib.hid ((ck_grown HOIX.out HOLX.out HGR.out).high (p := ⟨w3.heap.size, 2, none⟩) (Nat.le_refl _) _)
            have oL_6 : Hid (OwnLe V6 w2.heap.size w5.heap.size A5 c5 (ls ++ [(a, lo, hi + b)])) := by rw [hV6]; exact Lib.hid (Own.otherT HO5.out (p := ⟨w3.heap.size, 2, none⟩) bQ_5.out (by decide) _)
            have bR_6 : Hid (V6.heap[w.heap.size + 1]? = some (.cells #[.int .i64 0, .slice none 0 0, .slice none 0 0] 30 (0, 0))) := by rw [hV6]; exact Lib.hid ((Below.heap_setCell _ _ _ _ (by simp only []; omega)).trans bR_5.out)
            have bQ_6 : Hid (V6.heap[w3.heap.size]? = some (.cells #[.int .i64 tm, .slice A1 n c1, .slice A5 (n' + 1) c5] 30 (0, 0))) := by rw [hV6]; exact Lib.hid (set_blkW bQ_5.out)
            rw [← hV6]
            clear hV6 hb5 bQc0 bQc1 bQc2 bQfr bRc0 bRc1 bRc2 bRfr
            have HIF := Lib.hid (implGoodWatch_any tm A1 A5 n c1 (n' + 1) c5 is (ls ++ [(a, lo, hi + b)]) V6.heap.size V6 HN.out HNX.out (oI_6.out.cks.mono (by omega)) (oL_6.out.les.mono (by omega)) (Nat.le_refl _))
            rw [G4.out] at HIF
            refine HIF.out.mono ?_
            rintro e w7 ⟨rfl, ha7⟩
            have HB7 := Lib.hid (HB6.out.trans (ha7.mono HB6.out.size))
            have bR_7 := Lib.hid ((ha7.block (w.heap.size + 1) (lt_blk bR_6.out)).trans bR_6.out)
            have bQ_7 := Lib.hid ((ha7.block (w3.heap.size) (lt_blk bQ_6.out)).trans bQ_6.out)
            have oI_7 := Lib.hid (oI_6.out.since ha7 (by omega))
            have oL_7 := Lib.hid (oL_6.out.since ha7 (by omega))
            have hz7 := ha7.size
            clear ha7
            have bR7c0 := cell_blk (i := 0) bR_7.out rfl
            have bR7f0 := free_blk bR_7.out 0
            have bR7c1 := cell_blk (i := 1) bR_7.out rfl
            have bR7f1 := free_blk bR_7.out 1
            have bR7c2 := cell_blk (i := 2) bR_7.out rfl
            have bR7f2 := free_blk bR_7.out 2
            have bR7l := lt_blk bR_7.out
            have bQ7c0 := cell_blk (i := 0) bQ_7.out rfl
            have bQ7f0 := free_blk bQ_7.out 0
            have bQ7c1 := cell_blk (i := 1) bQ_7.out rfl
            have bQ7f1 := free_blk bQ_7.out 1
            have bQ7c2 := cell_blk (i := 2) bQ_7.out rfl
            have bQ7f2 := free_blk bQ_7.out 2
            have bQ7l := lt_blk bQ_7.out
            go_wp2
            exact bodyPost_ret (v := .tuple #[.agg #[.int .i64 tm, .slice A1 n c1, .slice A5 (n' + 1) c5], .bool true]) (by simp [results, Try.results18, go_sem, bR7c0, bR7f0, bR7c1, bR7f1, bR7c2, bR7f2]) rfl (yesW_post HN.out HNX.out ((OwnCk.put3 oI_7.out (by omega)).wider (by omega) (by simp [World.setCell]; omega)) ((OwnLe.put3 oL_7.out (by omega)).wider (by omega) (by simp [World.setCell]; omega)) (bel_put3 HB7.out (by omega)))
        · have g3 : freeW a (lowW tm (offW is a)) ls = false := by rw [← hlo, HSF.out, decide_eq_false h3]
          have h3d : (0 : Int) < st := by omega
          rw [show askW tm is ls a b = noW by simp [askW, g1, g2, g3]]
          clear h h' hn hn' g1 g2 g3 hlo hhi hub hst
          go_enter Try.func18, Try.ntmps18
          go_wp2_with fail
          refine (HG.out _ HB0.out).mono ?_
          rintro e w1 ⟨rfl, ha1⟩
          have HB1 := Lib.hid (HB0.out.trans (ha1.mono HB0.out.size))
          have bK_1 := Lib.hid ((ha1.block (w.heap.size) (lt_blk bK_0.out)).trans bK_0.out)
          have bR_1 := Lib.hid ((ha1.block (w.heap.size + 1) (lt_blk bR_0.out)).trans bR_0.out)
          have hz1 := ha1.size
          simp only [World.size_alloc] at hz1
          clear ha1
          have bK1c0 := cell_blk (i := 0) bK_1.out rfl
          have bK1f0 := free_blk bK_1.out 0
          have bK1c1 := cell_blk (i := 1) bK_1.out rfl
          have bK1f1 := free_blk bK_1.out 1
          have bK1c2 := cell_blk (i := 2) bK_1.out rfl
          have bK1f2 := free_blk bK_1.out 2
          have bK1l := lt_blk bK_1.out
          go_wp2_with fail
          obtain ⟨V1, hV1⟩ : ∃ V1, V1 = w1.alloc (.cells #[.int .i64 lo, .int .i64 hi, .int .i64 a] 60) := ⟨_, rfl⟩
          have haV1 := below1 w1 (.cells #[.int .i64 lo, .int .i64 hi, .int .i64 a] 60)
          have hnV1 := heap_alloc_new w1 (.cells #[.int .i64 lo, .int .i64 hi, .int .i64 a] 60)
          rw [← hV1] at haV1 hnV1 ⊢
          have hsVa1 : V1.heap.size ≤ w1.heap.size + 1 := by rw [hV1]; simp
          have hsVb1 : w1.heap.size + 1 ≤ V1.heap.size := by rw [hV1]; simp
          clear bK1c0 bK1f0 bK1c1 bK1f1 bK1c2 bK1f2 bK1l
          have HBV1 := Lib.hid (HB1.out.trans (haV1.mono HB1.out.size))
          have bK_V1 := Lib.hid ((haV1.block (w.heap.size) (lt_blk bK_1.out)).trans bK_1.out)
          have bR_V1 := Lib.hid ((haV1.block (w.heap.size + 1) (lt_blk bR_1.out)).trans bR_1.out)
          have hzV1 := haV1.size
          have bN_V1 := Lib.hid hnV1
          clear hV1 haV1 hnV1
          refine (HST.out _ HBV1.out).mono ?_
          rintro e w2 ⟨rfl, ha2⟩
          have HB2 := Lib.hid (HBV1.out.trans (ha2.mono HBV1.out.size))
          have bK_2 := Lib.hid ((ha2.block (w.heap.size) (lt_blk bK_V1.out)).trans bK_V1.out)
          have bR_2 := Lib.hid ((ha2.block (w.heap.size + 1) (lt_blk bR_V1.out)).trans bR_V1.out)
          have bN_2 := Lib.hid ((ha2.block (w1.heap.size) (lt_blk bN_V1.out)).trans bN_V1.out)
          have hz2 := ha2.size
          clear ha2
          have bK2c0 := cell_blk (i := 0) bK_2.out rfl
          have bK2f0 := free_blk bK_2.out 0
          have bK2c1 := cell_blk (i := 1) bK_2.out rfl
          have bK2f1 := free_blk bK_2.out 1
          have bK2c2 := cell_blk (i := 2) bK_2.out rfl
          have bK2f2 := free_blk bK_2.out 2
          have bK2l := lt_blk bK_2.out
          have bR2c0 := cell_blk (i := 0) bR_2.out rfl
          have bR2f0 := free_blk bR_2.out 0
          have bR2c1 := cell_blk (i := 1) bR_2.out rfl
          have bR2f1 := free_blk bR_2.out 1
          have bR2c2 := cell_blk (i := 2) bR_2.out rfl
          have bR2f2 := free_blk bR_2.out 2
          have bR2l := lt_blk bR_2.out
          go_wp2
          exact bodyPost_ret (v := .tuple #[.agg #[.int .i64 0, .slice none 0 0, .slice none 0 0], .bool false]) (by simp [results, Try.results18, go_sem, bR2c0, bR2f0, bR2c1, bR2f1, bR2c2, bR2f2]) rfl (noW_post (bel_put3 HB2.out (by omega)))
      · have g2 : inB b 1 100 = false := inB_not (by omega)
        rw [show askW tm is ls a b = noW by simp [askW, g1, g2]]
        obtain ⟨lo, hlo⟩ : ∃ lo, lo = lowW tm (offW is a) := ⟨_, rfl⟩
        obtain ⟨hi, hhi⟩ : ∃ hi, hi = highW tm (offW is a) := ⟨_, rfl⟩
        rw [← hlo, ← hhi] at HG
        clear h h' hn hn' g1 g2 hlo hhi hub
        have h3 : (100 : Int) < b := by omega
        go_enter Try.func18, Try.ntmps18
        go_wp2_with fail
        refine (HG.out _ HB0.out).mono ?_
        rintro e w1 ⟨rfl, ha1⟩
        have HB1 := Lib.hid (HB0.out.trans (ha1.mono HB0.out.size))
        have bK_1 := Lib.hid ((ha1.block (w.heap.size) (lt_blk bK_0.out)).trans bK_0.out)
        have bR_1 := Lib.hid ((ha1.block (w.heap.size + 1) (lt_blk bR_0.out)).trans bR_0.out)
        have hz1 := ha1.size
        simp only [World.size_alloc] at hz1
        clear ha1
        have bK1c0 := cell_blk (i := 0) bK_1.out rfl
        have bK1f0 := free_blk bK_1.out 0
        have bK1c1 := cell_blk (i := 1) bK_1.out rfl
        have bK1f1 := free_blk bK_1.out 1
        have bK1c2 := cell_blk (i := 2) bK_1.out rfl
        have bK1f2 := free_blk bK_1.out 2
        have bK1l := lt_blk bK_1.out
        have bR1c0 := cell_blk (i := 0) bR_1.out rfl
        have bR1f0 := free_blk bR_1.out 0
        have bR1c1 := cell_blk (i := 1) bR_1.out rfl
        have bR1f1 := free_blk bR_1.out 1
        have bR1c2 := cell_blk (i := 2) bR_1.out rfl
        have bR1f2 := free_blk bR_1.out 2
        have bR1l := lt_blk bR_1.out
        go_wp2
        exact bodyPost_ret (v := .tuple #[.agg #[.int .i64 0, .slice none 0 0, .slice none 0 0], .bool false]) (by simp [results, Try.results18, go_sem, bR1c0, bR1f0, bR1c1, bR1f1, bR1c2, bR1f2, bR1l]) rfl (noW_post (by first | exact bel_put3 (HB1.out.alloc HB1.out.size _) (by omega) | exact (bel_put3 HB1.out (by omega)).alloc (by simp [World.setCell]; omega) _))
    · have g2 : inB b 1 100 = false := inB_not (by omega)
      rw [show askW tm is ls a b = noW by simp [askW, g1, g2]]
      obtain ⟨lo, hlo⟩ : ∃ lo, lo = lowW tm (offW is a) := ⟨_, rfl⟩
      obtain ⟨hi, hhi⟩ : ∃ hi, hi = highW tm (offW is a) := ⟨_, rfl⟩
      rw [← hlo, ← hhi] at HG
      clear h h' hn hn' g1 g2 hlo hhi hub
      have h3 : b < 1 := by omega
      go_enter Try.func18, Try.ntmps18
      go_wp2_with fail
      refine (HG.out _ HB0.out).mono ?_
      rintro e w1 ⟨rfl, ha1⟩
      have HB1 := Lib.hid (HB0.out.trans (ha1.mono HB0.out.size))
      have bK_1 := Lib.hid ((ha1.block (w.heap.size) (lt_blk bK_0.out)).trans bK_0.out)
      have bR_1 := Lib.hid ((ha1.block (w.heap.size + 1) (lt_blk bR_0.out)).trans bR_0.out)
      have hz1 := ha1.size
      simp only [World.size_alloc] at hz1
      clear ha1
      have bK1c0 := cell_blk (i := 0) bK_1.out rfl
      have bK1f0 := free_blk bK_1.out 0
      have bK1c1 := cell_blk (i := 1) bK_1.out rfl
      have bK1f1 := free_blk bK_1.out 1
      have bK1c2 := cell_blk (i := 2) bK_1.out rfl
      have bK1f2 := free_blk bK_1.out 2
      have bK1l := lt_blk bK_1.out
      have bR1c0 := cell_blk (i := 0) bR_1.out rfl
      have bR1f0 := free_blk bR_1.out 0
      have bR1c1 := cell_blk (i := 1) bR_1.out rfl
      have bR1f1 := free_blk bR_1.out 1
      have bR1c2 := cell_blk (i := 2) bR_1.out rfl
      have bR1f2 := free_blk bR_1.out 2
      have bR1l := lt_blk bR_1.out
      go_wp2
      exact bodyPost_ret (v := .tuple #[.agg #[.int .i64 0, .slice none 0 0, .slice none 0 0], .bool false]) (by simp [results, Try.results18, go_sem, bR1c0, bR1f0, bR1c1, bR1f1, bR1c2, bR1f2, bR1l]) rfl (noW_post (by first | exact bel_put3 (HB1.out.alloc HB1.out.size _) (by omega) | exact (bel_put3 HB1.out (by omega)).alloc (by simp [World.setCell]; omega) _))
end Go.Proofs.Ytpppgihoekfmoaa.Wt
