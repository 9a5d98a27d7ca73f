/-
  GiveBack, of the model and of the program.
-/
import Derived.Test.YtpppgihoekfmoaaWtF5
import Derived.Test.YtpppgihoekfmoaaWtMk
import Derived.Test.YtpppgihoekfmoaaBel
import Derived.Deep.RegionHeld3
import Derived.Deep.DeepCutAuto
import Derived.Deep.QuietTactic
import Derived.BigQuiet
namespace Go.Proofs.Ytpppgihoekfmoaa.Wt
open Go.RowKit
set_option linter.unusedVariables false
set_option linter.unusedSimpArgs false

theorem OwnLe.upto {w : World} {lo hi g cap k : Nat} {ds t : List (Int × Int × Int)} {x : (Int × Int × Int)} (h : OwnLe w lo hi (some ⟨g, 0, none⟩) cap (ds ++ x :: t)) (hk : ds.length = k) (v : Int) : OwnLe (w.setCell ⟨g, k * 3 + 2, none⟩ (.int .i64 v)) lo hi (some ⟨g, 0, none⟩) cap (ds ++ (x.1, x.2.1, v) :: t) := by
  subst hk
  have h1 := Own.put h ds.length 2 (by simp) (by decide) (by simp [leCs]) (.int .i64 v)
  have e : ((ds ++ x :: t).map leCs).set ds.length ((((ds ++ x :: t).map leCs)[ds.length]'(by simp)).set 2 (.int .i64 v)) = (ds ++ (x.1, x.2.1, v) :: t).map leCs := by
    simp [leCs, List.set_append]
  rw [e] at h1
  exact h1
theorem les_mid {w : World} {B k : Nat} {A : Option Addr} {ds t : List (Int × Int × Int)} {x : (Int × Int × Int)} (h : LesB w B A (ds ++ x :: t)) (hk : ds.length = k) : ∃ b off, A = some ⟨b, off, none⟩ ∧ b < B ∧ w.cell? ⟨b, off + k * 3, none⟩ = some (.int .i64 x.1) ∧ w.cell? ⟨b, off + k * 3 + 1, none⟩ = some (.int .i64 x.2.1) ∧ w.cell? ⟨b, off + k * 3 + 2, none⟩ = some (.int .i64 x.2.2) := by
  subst hk
  obtain ⟨b, off, hA, hlt, hc⟩ := h.get (by simp; omega)
  have h1 := hc ds.length (by simp)
  simp only [List.getElem_append_right (Nat.le_refl _), Nat.sub_self, List.getElem_cons_zero] at h1
  exact ⟨b, off, hA, hlt, h1⟩
theorem hold_pos {a hi : Int} {ls : List (Int × Int × Int)} {n : Nat} (hn : ls.length = n) (hg : holdW a hi ls = true) : 0 < n := by
  rcases Nat.eq_zero_or_pos n with h0 | h0
  · rw [List.eq_nil_of_length_eq_zero (hn.trans h0)] at hg
    simp [holdW] at hg
  · exact h0
theorem back_yes {a lo : Int} {x : (Int × Int × Int)} (h1 : x.1 = a) (h2 : lo ≤ x.2.2) : backL a lo x = (x.1, x.2.1, lo - 1) := by simp [backL, h1, h2]
theorem back_no {a lo : Int} {x : (Int × Int × Int)} (h : ¬ (x.1 = a ∧ lo ≤ x.2.2)) : backL a lo x = x := by simp only [backL, h, if_false]
theorem le_block {w : World} {lo hi cap : Nat} {g o : Nat} {L : List (Int × Int × Int)} (h : OwnLe w lo hi (some ⟨g, o, none⟩) cap L) : lo ≤ g ∧ g < hi ∧ ∃ cur, w.heap[g]? = some (.cells cur 55 (0, 0)) := Own.block h _ rfl

set_option maxRecDepth 100000 in
set_option maxHeartbeats 8000000 in
theorem specGiveBack_any (tm : Int) (A A' : Option Addr) (n c n' c' : Nat) (is : List Int) (ls : List (Int × Int × Int)) (a : Int) (B : Nat) (w : World) (hn : is.length = n) (hn' : ls.length = n') (h : CksB w B A is) (h' : LesB w B A' ls) (hB : B ≤ w.heap.size) :
    Calls Try.prog 52 #[.agg #[.int .i64 tm, .slice A n c, .slice A' n' c'], .int .i64 a] w (WAPost (giveW tm is ls a) w) := by
  have HB0 := Lib.hid (below2 w (.cells #[.int .i64 tm, .slice A n c, .slice A' n' c'] 30) (.cells #[.int .i64 0, .slice none 0 0, .slice none 0 0] 30))
  have bK_0 := Lib.hid (((below1 (w.alloc (.cells #[.int .i64 tm, .slice A n c, .slice A' n' c'] 30)) (.cells #[.int .i64 0, .slice none 0 0, .slice none 0 0] 30)).block w.heap.size (by simp)).trans (heap_alloc_new w (.cells #[.int .i64 tm, .slice A n c, .slice A' n' c'] 30)))
  have bR_0 := Lib.hid (alloc_snd w (.cells #[.int .i64 tm, .slice A n c, .slice A' n' c'] 30) (.cells #[.int .i64 0, .slice none 0 0, .slice none 0 0] 30))
  cases g1 : hasW tm is ls a with
  | false =>
    rw [show giveW tm is ls a = noW by simp [giveW, g1]]
    have HG := Lib.hid (fun W (hW : Below w.heap.size w W) => l10Has_any tm A A' n c n' c' is ls a B W hn hn' (h.below (hW.mono hB)) (h'.below (hW.mono hB)) (Nat.le_trans hB hW.size))
    rw [g1] at HG
    clear h h' hn hn' g1
    go_enter Try.func52, Try.ntmps52
    go_wp2_with fail
    refine (HG.out _ HB0.out).mono ?_
    rintro e w1 ⟨rfl, ha1⟩
    have HB1 := Lib.hid (HB0.out.trans (ha1.mono HB0.out.size))
    have bK_1 := Lib.hid ((ha1.block (w.heap.size) (lt_blk bK_0.out)).trans bK_0.out)
    have bR_1 := Lib.hid ((ha1.block (w.heap.size + 1) (lt_blk bR_0.out)).trans bR_0.out)
    have hz1 := ha1.size
    simp only [World.size_alloc] at hz1
    clear ha1
    have bK1c0 := cell_blk (i := 0) bK_1.out rfl
    have bK1f0 := free_blk bK_1.out 0
    have bK1c1 := cell_blk (i := 1) bK_1.out rfl
    have bK1f1 := free_blk bK_1.out 1
    have bK1c2 := cell_blk (i := 2) bK_1.out rfl
    have bK1f2 := free_blk bK_1.out 2
    have bK1l := lt_blk bK_1.out
    have bR1c0 := cell_blk (i := 0) bR_1.out rfl
    have bR1f0 := free_blk bR_1.out 0
    have bR1c1 := cell_blk (i := 1) bR_1.out rfl
    have bR1f1 := free_blk bR_1.out 1
    have bR1c2 := cell_blk (i := 2) bR_1.out rfl
    have bR1f2 := free_blk bR_1.out 2
    have bR1l := lt_blk bR_1.out
    go_wp2
    exact bodyPost_ret (v := .tuple #[.agg #[.int .i64 0, .slice none 0 0, .slice none 0 0], .bool false]) (by simp [results, Try.results52, go_sem, bR1c0, bR1f0, bR1c1, bR1f1, bR1c2, bR1f2, bR1l]) rfl (noW_post (by first | exact bel_put3 HB1.out (by omega) | exact (bel_put3 HB1.out (by omega)).alloc (by simp [World.setCell]; omega) _))
  | true =>
    have gl := (wchB_true (hasW_true g1).1).2.2.1
    rw [hn'] at gl
    have gc5 := (wchB_true (hasW_true g1).1).2.1.2
    rw [hn] at gc5
    have hlb := low_small g1
    obtain ⟨hlb0, hlb1⟩ := hlb
    have HHK := Lib.hid (fun (hg : holdW a (highW tm (offW is a)) ls = true) => hold_pos hn' hg)
    have HG := Lib.hid (fun W (hW : Below w.heap.size w W) => l10Has_any tm A A' n c n' c' is ls a B W hn hn' (h.below (hW.mono hB)) (h'.below (hW.mono hB)) (Nat.le_trans hB hW.size))
    rw [g1] at HG
    have HO := Lib.hid (fun W (hW : Below w.heap.size w W) => l10Holds_any tm A A' n c n' c' is ls a B W hn hn' (h.below (hW.mono hB)) (h'.below (hW.mono hB)) (Nat.le_trans hB hW.size) g1)
    have HS := Lib.hid (fun W (hW : Below w.heap.size w W) => l10Span_any tm A A' n c n' c' is ls a B W hn hn' (h.below (hW.mono hB)) (h'.below (hW.mono hB)) (Nat.le_trans hB hW.size) g1)
    cases g2 : holdW a (highW tm (offW is a)) ls with
    | false =>
      rw [show giveW tm is ls a = noW by simp [giveW, g1, g2]]
      rw [g2] at HO
      obtain ⟨lo, hlo⟩ : ∃ lo, lo = lowW tm (offW is a) := ⟨_, rfl⟩
      obtain ⟨hi, hhi⟩ : ∃ hi, hi = highW tm (offW is a) := ⟨_, rfl⟩
      clear h h' hn hn' g1 g2 hlo hhi
      go_enter Try.func52, Try.ntmps52
      go_wp2_with fail
      refine (HG.out _ HB0.out).mono ?_
      rintro e w1 ⟨rfl, ha1⟩
      have HB1 := Lib.hid (HB0.out.trans (ha1.mono HB0.out.size))
      have bK_1 := Lib.hid ((ha1.block (w.heap.size) (lt_blk bK_0.out)).trans bK_0.out)
      have bR_1 := Lib.hid ((ha1.block (w.heap.size + 1) (lt_blk bR_0.out)).trans bR_0.out)
      have hz1 := ha1.size
      simp only [World.size_alloc] at hz1
      clear ha1
      have bK1c0 := cell_blk (i := 0) bK_1.out rfl
      have bK1f0 := free_blk bK_1.out 0
      have bK1c1 := cell_blk (i := 1) bK_1.out rfl
      have bK1f1 := free_blk bK_1.out 1
      have bK1c2 := cell_blk (i := 2) bK_1.out rfl
      have bK1f2 := free_blk bK_1.out 2
      have bK1l := lt_blk bK_1.out
      go_wp2_with fail
      refine (HO.out _ HB1.out).mono ?_
      rintro e w2 ⟨rfl, ha2⟩
      clear bK1c0 bK1f0 bK1c1 bK1f1 bK1c2 bK1f2 bK1l
      have HB2 := Lib.hid (HB1.out.trans (ha2.mono HB1.out.size))
      have bK_2 := Lib.hid ((ha2.block (w.heap.size) (lt_blk bK_1.out)).trans bK_1.out)
      have bR_2 := Lib.hid ((ha2.block (w.heap.size + 1) (lt_blk bR_1.out)).trans bR_1.out)
      have hz2 := ha2.size
      clear ha2
      have bK2c0 := cell_blk (i := 0) bK_2.out rfl
      have bK2f0 := free_blk bK_2.out 0
      have bK2c1 := cell_blk (i := 1) bK_2.out rfl
      have bK2f1 := free_blk bK_2.out 1
      have bK2c2 := cell_blk (i := 2) bK_2.out rfl
      have bK2f2 := free_blk bK_2.out 2
      have bK2l := lt_blk bK_2.out
      have bR2c0 := cell_blk (i := 0) bR_2.out rfl
      have bR2f0 := free_blk bR_2.out 0
      have bR2c1 := cell_blk (i := 1) bR_2.out rfl
      have bR2f1 := free_blk bR_2.out 1
      have bR2c2 := cell_blk (i := 2) bR_2.out rfl
      have bR2f2 := free_blk bR_2.out 2
      have bR2l := lt_blk bR_2.out
      go_wp2
      exact bodyPost_ret (v := .tuple #[.agg #[.int .i64 0, .slice none 0 0, .slice none 0 0], .bool false]) (by simp [results, Try.results52, go_sem, bR2c0, bR2f0, bR2c1, bR2f1, bR2c2, bR2f2, bR2l]) rfl (noW_post (by first | exact bel_put3 HB2.out (by omega) | exact (bel_put3 HB2.out (by omega)).alloc (by simp [World.setCell]; omega) _))
    | true =>
      have hn0 := HHK.out g2
      have hcn := (fun W (hW : Below w.heap.size w W) => l10Own_any tm A A' n c n' c' is ls B W hn hn' (h.below (hW.mono hB)) (h'.below (hW.mono hB)) (Nat.le_trans hB hW.size) (by omega) (by omega))
      unfold WtV at hcn
      simp only [hn, hn'] at hcn
      have HCN := Lib.hid hcn
      clear hcn
      rw [show giveW tm is ls a = (tm, is, ls.map (backL a (lowW tm (offW is a))), true) by simp [giveW, g1, g2]]
      rw [g2] at HO
      obtain ⟨lo, hlo⟩ : ∃ lo, lo = lowW tm (offW is a) := ⟨_, rfl⟩
      obtain ⟨hi, hhi⟩ : ∃ hi, hi = highW tm (offW is a) := ⟨_, rfl⟩
      rw [← hlo] at hlb0 hlb1 ⊢
      rw [← hlo, ← hhi] at HS
      have hfd := fldLo lo hi
      have HN := Lib.hid hn
      have HN' := Lib.hid (show (ls.map (backL a lo)).length = n' by rw [List.length_map]; exact hn')
      have HL := Lib.hid hn'
      clear h h' hn hn' g1 g2 hlo hhi HHK
      go_enter Try.func52, Try.ntmps52
      go_wp2_with fail
      refine (HG.out _ HB0.out).mono ?_
      rintro e w1 ⟨rfl, ha1⟩
      have HB1 := Lib.hid (HB0.out.trans (ha1.mono HB0.out.size))
      have bK_1 := Lib.hid ((ha1.block (w.heap.size) (lt_blk bK_0.out)).trans bK_0.out)
      have bR_1 := Lib.hid ((ha1.block (w.heap.size + 1) (lt_blk bR_0.out)).trans bR_0.out)
      have hz1 := ha1.size
      simp only [World.size_alloc] at hz1
      clear ha1
      have bK1c0 := cell_blk (i := 0) bK_1.out rfl
      have bK1f0 := free_blk bK_1.out 0
      have bK1c1 := cell_blk (i := 1) bK_1.out rfl
      have bK1f1 := free_blk bK_1.out 1
      have bK1c2 := cell_blk (i := 2) bK_1.out rfl
      have bK1f2 := free_blk bK_1.out 2
      have bK1l := lt_blk bK_1.out
      go_wp2_with fail
      refine (HO.out _ HB1.out).mono ?_
      rintro e w2 ⟨rfl, ha2⟩
      clear bK1c0 bK1f0 bK1c1 bK1f1 bK1c2 bK1f2 bK1l
      have HB2 := Lib.hid (HB1.out.trans (ha2.mono HB1.out.size))
      have bK_2 := Lib.hid ((ha2.block (w.heap.size) (lt_blk bK_1.out)).trans bK_1.out)
      have bR_2 := Lib.hid ((ha2.block (w.heap.size + 1) (lt_blk bR_1.out)).trans bR_1.out)
      have hz2 := ha2.size
      clear ha2
      have bK2c0 := cell_blk (i := 0) bK_2.out rfl
      have bK2f0 := free_blk bK_2.out 0
      have bK2c1 := cell_blk (i := 1) bK_2.out rfl
      have bK2f1 := free_blk bK_2.out 1
      have bK2c2 := cell_blk (i := 2) bK_2.out rfl
      have bK2f2 := free_blk bK_2.out 2
      have bK2l := lt_blk bK_2.out
      go_wp2_with fail
      refine (HCN.out _ HB2.out).mono ?_
      rintro e w3 ⟨A1, c1, A2, c2, rfl, hoi, hol, ha3⟩
      clear bK2c0 bK2f0 bK2c1 bK2f1 bK2c2 bK2f2 bK2l
      have HB3 := Lib.hid (HB2.out.trans (ha3.mono HB2.out.size))
      have bK_3 := Lib.hid ((ha3.block (w.heap.size) (lt_blk bK_2.out)).trans bK_2.out)
      have bR_3 := Lib.hid ((ha3.block (w.heap.size + 1) (lt_blk bR_2.out)).trans bR_2.out)
      have hz3 := ha3.size
      clear ha3
      obtain ⟨g, cur, rfl, hg1, hg2, hgh, hgc, hgs⟩ := Own.form hol (by simp; have := HL.out; omega)
      clear hgh hgc hgs
      try simp only [World.size_alloc] at hoi
      have oI_3 := Lib.hid hoi
      clear hoi
      try simp only [World.size_alloc] at hol
      have oL_3 := Lib.hid hol
      clear hol
      have bK3c0 := cell_blk (i := 0) bK_3.out rfl
      have bK3f0 := free_blk bK_3.out 0
      have bK3c1 := cell_blk (i := 1) bK_3.out rfl
      have bK3f1 := free_blk bK_3.out 1
      have bK3c2 := cell_blk (i := 2) bK_3.out rfl
      have bK3f2 := free_blk bK_3.out 2
      have bK3l := lt_blk bK_3.out
      have bR3c0 := cell_blk (i := 0) bR_3.out rfl
      have bR3f0 := free_blk bR_3.out 0
      have bR3c1 := cell_blk (i := 1) bR_3.out rfl
      have bR3f1 := free_blk bR_3.out 1
      have bR3c2 := cell_blk (i := 2) bR_3.out rfl
      have bR3f2 := free_blk bR_3.out 2
      have bR3l := lt_blk bR_3.out
      go_wp2_with fail
      obtain ⟨V3, hV3⟩ : ∃ V3, V3 = w3.alloc (.cells #[.int .i64 tm, .slice A1 n c1, .slice (some ⟨g, 0, none⟩) n' c2] 30) := ⟨_, rfl⟩
      have haV3 := below1 w3 (.cells #[.int .i64 tm, .slice A1 n c1, .slice (some ⟨g, 0, none⟩) n' c2] 30)
      have hnV3 := heap_alloc_new w3 (.cells #[.int .i64 tm, .slice A1 n c1, .slice (some ⟨g, 0, none⟩) n' c2] 30)
      rw [← hV3] at haV3 hnV3 ⊢
      have hsVa3 : V3.heap.size ≤ w3.heap.size + 1 := by rw [hV3]; simp
      have hsVb3 : w3.heap.size + 1 ≤ V3.heap.size := by rw [hV3]; simp
      clear bK3c0 bK3f0 bK3c1 bK3f1 bK3c2 bK3f2 bK3l bR3c0 bR3f0 bR3c1 bR3f1 bR3c2 bR3f2 bR3l
      have HBV3 := Lib.hid (HB3.out.trans (haV3.mono HB3.out.size))
      have bK_V3 := Lib.hid ((haV3.block (w.heap.size) (lt_blk bK_3.out)).trans bK_3.out)
      have bR_V3 := Lib.hid ((haV3.block (w.heap.size + 1) (lt_blk bR_3.out)).trans bR_3.out)
      have oI_V3 := Lib.hid (oI_3.out.since haV3 (by omega))
      have oL_V3 := Lib.hid (oL_3.out.since haV3 (by omega))
      have hzV3 := haV3.size
      have bQ_V3 := Lib.hid hnV3
      clear hV3 haV3 hnV3
      refine (HS.out _ HBV3.out).mono ?_
      rintro e w4 ⟨rfl, ha4⟩
      have HB4 := Lib.hid (HBV3.out.trans (ha4.mono HBV3.out.size))
      have bK_4 := Lib.hid ((ha4.block (w.heap.size) (lt_blk bK_V3.out)).trans bK_V3.out)
      have bR_4 := Lib.hid ((ha4.block (w.heap.size + 1) (lt_blk bR_V3.out)).trans bR_V3.out)
      have bQ_4 := Lib.hid ((ha4.block (w3.heap.size) (lt_blk bQ_V3.out)).trans bQ_V3.out)
      have oI_4 := Lib.hid (oI_V3.out.since ha4 (by omega))
      have oL_4 := Lib.hid (oL_V3.out.since ha4 (by omega))
      have hz4 := ha4.size
      clear ha4
      have hfd := hfd
      have bQ4c0 := cell_blk (i := 0) bQ_4.out rfl
      have bQ4f0 := free_blk bQ_4.out 0
      have bQ4c1 := cell_blk (i := 1) bQ_4.out rfl
      have bQ4f1 := free_blk bQ_4.out 1
      have bQ4c2 := cell_blk (i := 2) bQ_4.out rfl
      have bQ4f2 := free_blk bQ_4.out 2
      have bQ4l := lt_blk bQ_4.out
      have bR4c0 := cell_blk (i := 0) bR_4.out rfl
      have bR4f0 := free_blk bR_4.out 0
      have bR4c1 := cell_blk (i := 1) bR_4.out rfl
      have bR4f1 := free_blk bR_4.out 1
      have bR4c2 := cell_blk (i := 2) bR_4.out rfl
      have bR4f2 := free_blk bR_4.out 2
      have bR4l := lt_blk bR_4.out
      go_wp2
      clear hfd
      clear bQ4c0 bQ4f0 bQ4c1 bQ4f1 bQ4c2 bQ4f2 bQ4l bR4c0 bR4f0 bR4c1 bR4f1 bR4c2 bR4f2 bR4l
      go_loopw [8] (fun i wr => ∃ (ds rt : List (Int × Int × Int)) (k : Nat), Hid (ls = ds ++ rt) ∧ Hid (ds.length = k) ∧ i = .int .i64 k ∧ Hid (OwnLe wr w2.heap.size w3.heap.size (some ⟨g, 0, none⟩) c2 (ds.map (backL a lo) ++ rt)) ∧ Hid (OwnCk wr w2.heap.size w3.heap.size A1 c1 is) ∧ Hid (Below w.heap.size w wr) ∧ w4.heap.size ≤ wr.heap.size ∧ Hid (wr.heap[w.heap.size + 1]? = some (.cells #[.int .i64 0, .slice none 0 0, .slice none 0 0] 30 (0, 0))) ∧ Hid (wr.heap[w3.heap.size]? = some (.cells #[.int .i64 tm, .slice A1 n c1, .slice (some ⟨g, 0, none⟩) n' c2] 30 (0, 0)))) (fun i _ => n' - (intOf i).toNat)
      case atStart => exact ⟨[], ls, 0, Lib.hid rfl, Lib.hid rfl, rfl, Lib.hid (show OwnLe w4 _ _ _ _ ([] ++ ls) from oL_4.out), oI_4.out, HB4.out, Nat.le_refl _, bR_4.out, bQ_4.out⟩
      case round =>
        obtain ⟨ds, rt, k, HS2, HK, rfl, HO2, HI2, HB, hzr, HR, HQ⟩ := hrel
        have hlen : k + rt.length = n' := by rw [← HK.out, ← HL.out, HS2.out, List.length_append]
        have q0 := cell_blk (i := 0) HQ.out rfl
        have q1 := cell_blk (i := 1) HQ.out rfl
        have q2 := cell_blk (i := 2) HQ.out rfl
        have r0 := cell_blk (i := 0) HR.out rfl
        have r1 := cell_blk (i := 1) HR.out rfl
        have r2 := cell_blk (i := 2) HR.out rfl
        have rf0 := free_blk HR.out 0
        have rf1 := free_blk HR.out 1
        have rf2 := free_blk HR.out 2
        have hlr := lt_blk HR.out
        have hlq := lt_blk HQ.out
        cases rt with
        | nil =>
          have hkn : k = n' := by simpa using hlen
          subst hkn
          have HOF := Lib.hid (show OwnLe wr w2.heap.size w3.heap.size (some ⟨g, 0, none⟩) c2 (ls.map (backL a lo)) from by have h9 := HO2.out; rw [List.append_nil] at h9; rw [HS2.out, List.append_nil]; exact h9)
          go_wp2
          exact bodyPost_ret (v := .tuple #[.agg #[.int .i64 tm, .slice A1 n c1, .slice (some ⟨g, 0, none⟩) k c2], .bool true]) (by simp [results, Try.results52, go_sem, r0, r1, r2, rf0, rf1, rf2]) rfl (yesW_post HN.out HN'.out ((OwnCk.put3 HI2.out (by omega)).wider (by omega) (by simp [World.setCell]; omega)) ((OwnLe.put3 HOF.out (by omega)).wider (by omega) (by simp [World.setCell]; omega)) (bel_put3 HB.out (by omega)))
        | cons x t =>
          obtain ⟨s0, s1, s2⟩ := x
          have hkn : (k : Int) < (n' : Int) := by simp at hlen; omega
          have hk0 : (0 : Int) ≤ (k : Int) := by omega
          have HDK := Lib.hid (show (ds.map (backL a lo)).length = k by rw [List.length_map]; exact HK.out)
          obtain ⟨b9, o9, e9, hb9, c0, c1', c2'⟩ := les_mid HO2.out.les HDK.out
          injection e9 with e9
          injection e9 with e1 e2
          subst e1 e2
          simp only [Nat.zero_add] at c0 c1' c2'
          obtain ⟨_, _, cur9, hcur⟩ := le_block HO2.out
          have fr2 := free_blk hcur (k * 3 + 2)
          have hgl := lt_blk hcur
          have HCUR := Lib.hid hcur
          have HST := Lib.hid (show ls = (ds ++ [(s0, s1, s2)]) ++ t by rw [HS2.out]; simp)
          have HK1 := Lib.hid (show (ds ++ [(s0, s1, s2)]).length = k + 1 by rw [List.length_append, HK.out]; rfl)
          have hz3r : w3.heap.size ≤ wr.heap.size := by omega
          have HBKN := Lib.hid (fun (W : World) (hW : Below wr.heap.size wr W) (hno : ¬ (s0 = a ∧ lo ≤ s2)) => show OwnLe W w2.heap.size w3.heap.size (some ⟨g, 0, none⟩) c2 ((ds ++ [(s0, s1, s2)]).map (backL a lo) ++ t) from by
            have h9 := HO2.out.since hW hz3r
            rw [List.map_append, List.append_assoc]
            show OwnLe _ _ _ _ _ (_ ++ ([backL a lo (s0, s1, s2)] ++ t))
            rw [back_no hno]; exact h9)
          have HBKY := Lib.hid (fun (W : World) (hW : Below wr.heap.size wr W) (h1 : s0 = a) (h2 : lo ≤ s2) => show OwnLe (W.setCell ⟨g, k * 3 + 2, none⟩ (.int .i64 (lo - 1))) w2.heap.size w3.heap.size (some ⟨g, 0, none⟩) c2 ((ds ++ [(s0, s1, s2)]).map (backL a lo) ++ t) from by
            have h9 := OwnLe.upto (HO2.out.since hW hz3r) HDK.out (lo - 1)
            rw [List.map_append, List.append_assoc]
            show OwnLe _ _ _ _ _ (_ ++ ([backL a lo (s0, s1, s2)] ++ t))
            rw [back_yes h1 h2]; exact h9)
          clear hcur
          by_cases h1 : s0 = a
          · by_cases h2 : lo ≤ s2
            · have HNX := Lib.hid (HBKY.out wr (Below.refl _ _) h1 h2)
              have h1d : decide (s0 = a) = true := by simp [h1]
              have h2d : decide (s2 < lo) = false := by simp; omega
              go_wp2
              go_roundw
              case rel => exact ⟨ds ++ [(s0, s1, s2)], t, k + 1, HST, HK1, by go_num, HNX, Lib.hid (Own.otherT HI2.out (p := ⟨g, k * 3 + 2, none⟩) HCUR.out (by decide) _), Lib.hid (HB.out.setCell (p := ⟨g, k * 3 + 2, none⟩) (by simp only []; omega) _), by simp [World.setCell]; omega, Lib.hid ((Below.heap_setCell _ _ _ _ (by simp only []; omega)).trans HR.out), Lib.hid ((Below.heap_setCell _ _ _ _ (by simp only []; omega)).trans HQ.out)⟩
              case measure => simp [intOf]; omega
            · have HNX := Lib.hid (HBKN.out wr (Below.refl _ _) (fun h9 => absurd h9.2 (by omega)))
              have h1d : decide (s0 = a) = true := by simp [h1]
              have h2d : decide (s2 < lo) = true := by simp; omega
              have h2e : decide (lo ≤ s2) = false := by simp; omega
              go_wp2
              go_roundw
              case rel => exact ⟨ds ++ [(s0, s1, s2)], t, k + 1, HST, HK1, by go_num, HNX, HI2, HB, hzr, HR, HQ⟩
              case measure => simp [intOf]; omega
          · have HNX := Lib.hid (HBKN.out wr (Below.refl _ _) (fun h9 => absurd h9.1 (by omega)))
            have h1d : decide (s0 = a) = false := by simp [h1]
            have h1b : (s0 == a) = false := by simp [h1]
            go_wp2
            go_roundw
            case rel => exact ⟨ds ++ [(s0, s1, s2)], t, k + 1, HST, HK1, by go_num, HNX, HI2, HB, hzr, HR, HQ⟩
            case measure => simp [intOf]; omega

set_option maxRecDepth 100000 in
set_option maxHeartbeats 8000000 in
theorem implGiveBack_any (tm : Int) (A A' : Option Addr) (n c n' c' : Nat) (is : List Int) (ls : List (Int × Int × Int)) (a : Int) (B : Nat) (w : World) (hn : is.length = n) (hn' : ls.length = n') (h : CksB w B A is) (h' : LesB w B A' ls) (hB : B ≤ w.heap.size) :
    Calls Try.prog 22 #[.agg #[.int .i64 tm, .slice A n c, .slice A' n' c'], .int .i64 a] w (WAPost (giveW tm is ls a) w) := by
  have HB0 := Lib.hid (below2 w (.cells #[.int .i64 tm, .slice A n c, .slice A' n' c'] 30) (.cells #[.int .i64 0, .slice none 0 0, .slice none 0 0] 30))
  have bK_0 := Lib.hid (((below1 (w.alloc (.cells #[.int .i64 tm, .slice A n c, .slice A' n' c'] 30)) (.cells #[.int .i64 0, .slice none 0 0, .slice none 0 0] 30)).block w.heap.size (by simp)).trans (heap_alloc_new w (.cells #[.int .i64 tm, .slice A n c, .slice A' n' c'] 30)))
  have bR_0 := Lib.hid (alloc_snd w (.cells #[.int .i64 tm, .slice A n c, .slice A' n' c'] 30) (.cells #[.int .i64 0, .slice none 0 0, .slice none 0 0] 30))
  cases g1 : hasW tm is ls a with
  | false =>
    rw [show giveW tm is ls a = noW by simp [giveW, g1]]
    have HG := Lib.hid (fun W (hW : Below w.heap.size w W) => leaserNo_any tm A A' n c n' c' is ls a B W hn hn' (h.below (hW.mono hB)) (h'.below (hW.mono hB)) (Nat.le_trans hB hW.size) g1)
    clear h h' hn hn' g1
    go_enter Try.func22, Try.ntmps22
    go_wp2_with fail
    refine (HG.out _ HB0.out).mono ?_
    rintro e w1 ⟨rfl, ha1⟩
    have HB1 := Lib.hid (HB0.out.trans (ha1.mono HB0.out.size))
    have bK_1 := Lib.hid ((ha1.block (w.heap.size) (lt_blk bK_0.out)).trans bK_0.out)
    have bR_1 := Lib.hid ((ha1.block (w.heap.size + 1) (lt_blk bR_0.out)).trans bR_0.out)
    have hz1 := ha1.size
    simp only [World.size_alloc] at hz1
    clear ha1
    have bK1c0 := cell_blk (i := 0) bK_1.out rfl
    have bK1f0 := free_blk bK_1.out 0
    have bK1c1 := cell_blk (i := 1) bK_1.out rfl
    have bK1f1 := free_blk bK_1.out 1
    have bK1c2 := cell_blk (i := 2) bK_1.out rfl
    have bK1f2 := free_blk bK_1.out 2
    have bK1l := lt_blk bK_1.out
    have bR1c0 := cell_blk (i := 0) bR_1.out rfl
    have bR1f0 := free_blk bR_1.out 0
    have bR1c1 := cell_blk (i := 1) bR_1.out rfl
    have bR1f1 := free_blk bR_1.out 1
    have bR1c2 := cell_blk (i := 2) bR_1.out rfl
    have bR1f2 := free_blk bR_1.out 2
    have bR1l := lt_blk bR_1.out
    go_wp2
    exact bodyPost_ret (v := .tuple #[.agg #[.int .i64 0, .slice none 0 0, .slice none 0 0], .bool false]) (by simp [results, Try.results22, go_sem, bR1c0, bR1f0, bR1c1, bR1f1, bR1c2, bR1f2, bR1l]) rfl (noW_post (by first | exact bel_put3 HB1.out (by omega) | exact (bel_put3 HB1.out (by omega)).alloc (by simp [World.setCell]; omega) _))
  | true =>
    have gl := (wchB_true (hasW_true g1).1).2.2.1
    rw [hn'] at gl
    have gc5 := (wchB_true (hasW_true g1).1).2.1.2
    rw [hn] at gc5
    have hlb := low_small g1
    obtain ⟨hlb0, hlb1⟩ := hlb
    have HHK := Lib.hid (fun (hg : holdW a (highW tm (offW is a)) ls = true) => hold_pos hn' hg)
    have HG := Lib.hid (fun W (hW : Below w.heap.size w W) => leaserYes_any tm A A' n c n' c' is ls a B W hn hn' (h.below (hW.mono hB)) (h'.below (hW.mono hB)) (Nat.le_trans hB hW.size) g1)
    have HO := Lib.hid (fun W (hW : Below w.heap.size w W) => holdsAny_any (lowW tm (offW is a)) (highW tm (offW is a)) a A' n' c' ls B W hn' (h'.below (hW.mono hB)) (Nat.le_trans hB hW.size) (by omega))
    cases g2 : holdW a (highW tm (offW is a)) ls with
    | false =>
      rw [show giveW tm is ls a = noW by simp [giveW, g1, g2]]
      rw [g2] at HO
      obtain ⟨lo, hlo⟩ : ∃ lo, lo = lowW tm (offW is a) := ⟨_, rfl⟩
      obtain ⟨hi, hhi⟩ : ∃ hi, hi = highW tm (offW is a) := ⟨_, rfl⟩
      rw [← hlo, ← hhi] at HO HG
      clear h h' hn hn' g1 g2 hlo hhi
      go_enter Try.func22, Try.ntmps22
      go_wp2_with fail
      refine (HG.out _ HB0.out).mono ?_
      rintro e w1 ⟨rfl, ha1⟩
      have HB1 := Lib.hid (HB0.out.trans (ha1.mono HB0.out.size))
      have bK_1 := Lib.hid ((ha1.block (w.heap.size) (lt_blk bK_0.out)).trans bK_0.out)
      have bR_1 := Lib.hid ((ha1.block (w.heap.size + 1) (lt_blk bR_0.out)).trans bR_0.out)
      have hz1 := ha1.size
      simp only [World.size_alloc] at hz1
      clear ha1
      have bK1c0 := cell_blk (i := 0) bK_1.out rfl
      have bK1f0 := free_blk bK_1.out 0
      have bK1c1 := cell_blk (i := 1) bK_1.out rfl
      have bK1f1 := free_blk bK_1.out 1
      have bK1c2 := cell_blk (i := 2) bK_1.out rfl
      have bK1f2 := free_blk bK_1.out 2
      have bK1l := lt_blk bK_1.out
      go_wp2_with fail
      obtain ⟨V1, hV1⟩ : ∃ V1, V1 = w1.alloc (.cells #[.int .i64 lo, .int .i64 hi, .int .i64 a] 60) := ⟨_, rfl⟩
      have haV1 := below1 w1 (.cells #[.int .i64 lo, .int .i64 hi, .int .i64 a] 60)
      have hnV1 := heap_alloc_new w1 (.cells #[.int .i64 lo, .int .i64 hi, .int .i64 a] 60)
      rw [← hV1] at haV1 hnV1 ⊢
      have hsVa1 : V1.heap.size ≤ w1.heap.size + 1 := by rw [hV1]; simp
      have hsVb1 : w1.heap.size + 1 ≤ V1.heap.size := by rw [hV1]; simp
      clear bK1c0 bK1f0 bK1c1 bK1f1 bK1c2 bK1f2 bK1l
      have HBV1 := Lib.hid (HB1.out.trans (haV1.mono HB1.out.size))
      have bK_V1 := Lib.hid ((haV1.block (w.heap.size) (lt_blk bK_1.out)).trans bK_1.out)
      have bR_V1 := Lib.hid ((haV1.block (w.heap.size + 1) (lt_blk bR_1.out)).trans bR_1.out)
      have hzV1 := haV1.size
      have bN_V1 := Lib.hid hnV1
      clear hV1 haV1 hnV1
      refine (HO.out _ HBV1.out).mono ?_
      rintro e w2 ⟨rfl, ha2⟩
      have HB2 := Lib.hid (HBV1.out.trans (ha2.mono HBV1.out.size))
      have bK_2 := Lib.hid ((ha2.block (w.heap.size) (lt_blk bK_V1.out)).trans bK_V1.out)
      have bR_2 := Lib.hid ((ha2.block (w.heap.size + 1) (lt_blk bR_V1.out)).trans bR_V1.out)
      have bN_2 := Lib.hid ((ha2.block (w1.heap.size) (lt_blk bN_V1.out)).trans bN_V1.out)
      have hz2 := ha2.size
      clear ha2
      have bK2c0 := cell_blk (i := 0) bK_2.out rfl
      have bK2f0 := free_blk bK_2.out 0
      have bK2c1 := cell_blk (i := 1) bK_2.out rfl
      have bK2f1 := free_blk bK_2.out 1
      have bK2c2 := cell_blk (i := 2) bK_2.out rfl
      have bK2f2 := free_blk bK_2.out 2
      have bK2l := lt_blk bK_2.out
      have bR2c0 := cell_blk (i := 0) bR_2.out rfl
      have bR2f0 := free_blk bR_2.out 0
      have bR2c1 := cell_blk (i := 1) bR_2.out rfl
      have bR2f1 := free_blk bR_2.out 1
      have bR2c2 := cell_blk (i := 2) bR_2.out rfl
      have bR2f2 := free_blk bR_2.out 2
      have bR2l := lt_blk bR_2.out
      go_wp2
      exact bodyPost_ret (v := .tuple #[.agg #[.int .i64 0, .slice none 0 0, .slice none 0 0], .bool false]) (by simp [results, Try.results22, go_sem, bR2c0, bR2f0, bR2c1, bR2f1, bR2c2, bR2f2, bR2l]) rfl (noW_post (by first | exact bel_put3 HB2.out (by omega) | exact (bel_put3 HB2.out (by omega)).alloc (by simp [World.setCell]; omega) _))
    | true =>
      have hn0 := HHK.out g2
      have hcn := (fun W (hW : Below w.heap.size w W) => copyWatch_any tm A A' n c n' c' is ls B W hn hn' (h.below (hW.mono hB)) (h'.below (hW.mono hB)) (Nat.le_trans hB hW.size) (by omega) (by omega))
      unfold WtV at hcn
      simp only [hn, hn'] at hcn
      have HCN := Lib.hid hcn
      clear hcn
      rw [show giveW tm is ls a = (tm, is, ls.map (backL a (lowW tm (offW is a))), true) by simp [giveW, g1, g2]]
      rw [g2] at HO
      obtain ⟨lo, hlo⟩ : ∃ lo, lo = lowW tm (offW is a) := ⟨_, rfl⟩
      obtain ⟨hi, hhi⟩ : ∃ hi, hi = highW tm (offW is a) := ⟨_, rfl⟩
      rw [← hlo] at hlb0 hlb1 ⊢
      rw [← hlo, ← hhi] at HO HG
      have HN := Lib.hid hn
      have HN' := Lib.hid (show (ls.map (backL a lo)).length = n' by rw [List.length_map]; exact hn')
      have HL := Lib.hid hn'
      clear h h' hn hn' g1 g2 hlo hhi HHK
      go_enter Try.func22, Try.ntmps22
      go_wp2_with fail
      refine (HG.out _ HB0.out).mono ?_
      rintro e w1 ⟨rfl, ha1⟩
      have HB1 := Lib.hid (HB0.out.trans (ha1.mono HB0.out.size))
      have bK_1 := Lib.hid ((ha1.block (w.heap.size) (lt_blk bK_0.out)).trans bK_0.out)
      have bR_1 := Lib.hid ((ha1.block (w.heap.size + 1) (lt_blk bR_0.out)).trans bR_0.out)
      have hz1 := ha1.size
      simp only [World.size_alloc] at hz1
      clear ha1
      have bK1c0 := cell_blk (i := 0) bK_1.out rfl
      have bK1f0 := free_blk bK_1.out 0
      have bK1c1 := cell_blk (i := 1) bK_1.out rfl
      have bK1f1 := free_blk bK_1.out 1
      have bK1c2 := cell_blk (i := 2) bK_1.out rfl
      have bK1f2 := free_blk bK_1.out 2
      have bK1l := lt_blk bK_1.out
      go_wp2_with fail
      obtain ⟨V1, hV1⟩ : ∃ V1, V1 = w1.alloc (.cells #[.int .i64 lo, .int .i64 hi, .int .i64 a] 60) := ⟨_, rfl⟩
      have haV1 := below1 w1 (.cells #[.int .i64 lo, .int .i64 hi, .int .i64 a] 60)
      have hnV1 := heap_alloc_new w1 (.cells #[.int .i64 lo, .int .i64 hi, .int .i64 a] 60)
      rw [← hV1] at haV1 hnV1 ⊢
      have hsVa1 : V1.heap.size ≤ w1.heap.size + 1 := by rw [hV1]; simp
      have hsVb1 : w1.heap.size + 1 ≤ V1.heap.size := by rw [hV1]; simp
      clear bK1c0 bK1f0 bK1c1 bK1f1 bK1c2 bK1f2 bK1l
      have HBV1 := Lib.hid (HB1.out.trans (haV1.mono HB1.out.size))
      have bK_V1 := Lib.hid ((haV1.block (w.heap.size) (lt_blk bK_1.out)).trans bK_1.out)
      have bR_V1 := Lib.hid ((haV1.block (w.heap.size + 1) (lt_blk bR_1.out)).trans bR_1.out)
      have hzV1 := haV1.size
      have bN_V1 := Lib.hid hnV1
      clear hV1 haV1 hnV1
      refine (HO.out _ HBV1.out).mono ?_
      rintro e w2 ⟨rfl, ha2⟩
      have HB2 := Lib.hid (HBV1.out.trans (ha2.mono HBV1.out.size))
      have bK_2 := Lib.hid ((ha2.block (w.heap.size) (lt_blk bK_V1.out)).trans bK_V1.out)
      have bR_2 := Lib.hid ((ha2.block (w.heap.size + 1) (lt_blk bR_V1.out)).trans bR_V1.out)
      have bN_2 := Lib.hid ((ha2.block (w1.heap.size) (lt_blk bN_V1.out)).trans bN_V1.out)
      have hz2 := ha2.size
      clear ha2
      have bK2c0 := cell_blk (i := 0) bK_2.out rfl
      have bK2f0 := free_blk bK_2.out 0
      have bK2c1 := cell_blk (i := 1) bK_2.out rfl
      have bK2f1 := free_blk bK_2.out 1
      have bK2c2 := cell_blk (i := 2) bK_2.out rfl
      have bK2f2 := free_blk bK_2.out 2
      have bK2l := lt_blk bK_2.out
      have bN2c0 := cell_blk (i := 0) bN_2.out rfl
      have bN2f0 := free_blk bN_2.out 0
      have bN2c1 := cell_blk (i := 1) bN_2.out rfl
      have bN2f1 := free_blk bN_2.out 1
      have bN2c2 := cell_blk (i := 2) bN_2.out rfl
      have bN2f2 := free_blk bN_2.out 2
      have bN2l := lt_blk bN_2.out
      go_wp2_with fail
      refine (HCN.out _ HB2.out).mono ?_
      rintro e w3 ⟨A1, c1, A2, c2, rfl, hoi, hol, ha3⟩
      clear bK2c0 bK2f0 bK2c1 bK2f1 bK2c2 bK2f2 bK2l bN2c0 bN2f0 bN2c1 bN2f1 bN2c2 bN2f2 bN2l
      have HB3 := Lib.hid (HB2.out.trans (ha3.mono HB2.out.size))
      have bK_3 := Lib.hid ((ha3.block (w.heap.size) (lt_blk bK_2.out)).trans bK_2.out)
      have bR_3 := Lib.hid ((ha3.block (w.heap.size + 1) (lt_blk bR_2.out)).trans bR_2.out)
      have bN_3 := Lib.hid ((ha3.block (w1.heap.size) (lt_blk bN_2.out)).trans bN_2.out)
      have hz3 := ha3.size
      clear ha3
      obtain ⟨g, cur, rfl, hg1, hg2, hgh, hgc, hgs⟩ := Own.form hol (by simp; have := HL.out; omega)
      clear hgh hgc hgs
      try simp only [World.size_alloc] at hoi
      have oI_3 := Lib.hid hoi
      clear hoi
      try simp only [World.size_alloc] at hol
      have oL_3 := Lib.hid hol
      clear hol
      have bK3c0 := cell_blk (i := 0) bK_3.out rfl
      have bK3f0 := free_blk bK_3.out 0
      have bK3c1 := cell_blk (i := 1) bK_3.out rfl
      have bK3f1 := free_blk bK_3.out 1
      have bK3c2 := cell_blk (i := 2) bK_3.out rfl
      have bK3f2 := free_blk bK_3.out 2
      have bK3l := lt_blk bK_3.out
      have bR3c0 := cell_blk (i := 0) bR_3.out rfl
      have bR3f0 := free_blk bR_3.out 0
      have bR3c1 := cell_blk (i := 1) bR_3.out rfl
      have bR3f1 := free_blk bR_3.out 1
      have bR3c2 := cell_blk (i := 2) bR_3.out rfl
      have bR3f2 := free_blk bR_3.out 2
      have bR3l := lt_blk bR_3.out
      have bN3c0 := cell_blk (i := 0) bN_3.out rfl
      have bN3f0 := free_blk bN_3.out 0
      have bN3c1 := cell_blk (i := 1) bN_3.out rfl
      have bN3f1 := free_blk bN_3.out 1
      have bN3c2 := cell_blk (i := 2) bN_3.out rfl
      have bN3f2 := free_blk bN_3.out 2
      have bN3l := lt_blk bN_3.out
      go_upto_region 5 with fail
      obtain ⟨V3, hV3⟩ : ∃ V3, V3 = w3.alloc (.cells #[.int .i64 tm, .slice A1 n c1, .slice (some ⟨g, 0, none⟩) n' c2] 30) := ⟨_, rfl⟩
      have haV3 := below1 w3 (.cells #[.int .i64 tm, .slice A1 n c1, .slice (some ⟨g, 0, none⟩) n' c2] 30)
      have hnV3 := heap_alloc_new w3 (.cells #[.int .i64 tm, .slice A1 n c1, .slice (some ⟨g, 0, none⟩) n' c2] 30)
      rw [← hV3] at haV3 hnV3 ⊢
      have hsVa3 : V3.heap.size ≤ w3.heap.size + 1 := by rw [hV3]; simp
      have hsVb3 : w3.heap.size + 1 ≤ V3.heap.size := by rw [hV3]; simp
      clear bK3c0 bK3f0 bK3c1 bK3f1 bK3c2 bK3f2 bK3l bR3c0 bR3f0 bR3c1 bR3f1 bR3c2 bR3f2 bR3l bN3c0 bN3f0 bN3c1 bN3f1 bN3c2 bN3f2 bN3l
      have HBV3 := Lib.hid (HB3.out.trans (haV3.mono HB3.out.size))
      have bK_V3 := Lib.hid ((haV3.block (w.heap.size) (lt_blk bK_3.out)).trans bK_3.out)
      have bR_V3 := Lib.hid ((haV3.block (w.heap.size + 1) (lt_blk bR_3.out)).trans bR_3.out)
      have bN_V3 := Lib.hid ((haV3.block (w1.heap.size) (lt_blk bN_3.out)).trans bN_3.out)
      have oI_V3 := Lib.hid (oI_3.out.since haV3 (by omega))
      have oL_V3 := Lib.hid (oL_3.out.since haV3 (by omega))
      have hzV3 := haV3.size
      have bQ_V3 := Lib.hid hnV3
      clear hV3 haV3 hnV3
      have bQV3c0 := cell_blk (i := 0) bQ_V3.out rfl
      have bQV3f0 := free_blk bQ_V3.out 0
      have bQV3c1 := cell_blk (i := 1) bQ_V3.out rfl
      have bQV3f1 := free_blk bQ_V3.out 1
      have bQV3c2 := cell_blk (i := 2) bQ_V3.out rfl
      have bQV3f2 := free_blk bQ_V3.out 2
      have bQV3l := lt_blk bQ_V3.out
      have bRV3c0 := cell_blk (i := 0) bR_V3.out rfl
      have bRV3f0 := free_blk bR_V3.out 0
      have bRV3c1 := cell_blk (i := 1) bR_V3.out rfl
      have bRV3f1 := free_blk bR_V3.out 1
      have bRV3c2 := cell_blk (i := 2) bR_V3.out rfl
      have bRV3f2 := free_blk bR_V3.out 2
      have bRV3l := lt_blk bR_V3.out
      have bNV3c0 := cell_blk (i := 0) bN_V3.out rfl
      have bNV3f0 := free_blk bN_V3.out 0
      have bNV3c1 := cell_blk (i := 1) bN_V3.out rfl
      have bNV3f1 := free_blk bN_V3.out 1
      have bNV3c2 := cell_blk (i := 2) bN_V3.out rfl
      have bNV3f2 := free_blk bN_V3.out 2
      have bNV3l := lt_blk bN_V3.out
      go_wp2
      clear bQV3c0 bQV3f0 bQV3c1 bQV3f1 bQV3c2 bQV3f2 bQV3l bRV3c0 bRV3f0 bRV3c1 bRV3f1 bRV3c2 bRV3f2 bRV3l bNV3c0 bNV3f0 bNV3c1 bNV3f1 bNV3c2 bNV3f2 bNV3l
      go_loopw [32] (fun i wr => ∃ (ds rt : List (Int × Int × Int)) (k : Nat), Hid (ls = ds ++ rt) ∧ Hid (ds.length = k) ∧ i = .int .i64 k ∧ Hid (OwnLe wr w2.heap.size w3.heap.size (some ⟨g, 0, none⟩) c2 (ds.map (backL a lo) ++ rt)) ∧ Hid (OwnCk wr w2.heap.size w3.heap.size A1 c1 is) ∧ Hid (Below w.heap.size w wr) ∧ V3.heap.size ≤ wr.heap.size ∧ Hid (wr.heap[w.heap.size + 1]? = some (.cells #[.int .i64 0, .slice none 0 0, .slice none 0 0] 30 (0, 0))) ∧ Hid (wr.heap[w3.heap.size]? = some (.cells #[.int .i64 tm, .slice A1 n c1, .slice (some ⟨g, 0, none⟩) n' c2] 30 (0, 0))) ∧ Hid (wr.heap[w1.heap.size]? = some (.cells #[.int .i64 lo, .int .i64 hi, .int .i64 a] 60 (0, 0)))) (fun i _ => n' - (intOf i).toNat)
      case atStart => exact ⟨[], ls, 0, Lib.hid rfl, Lib.hid rfl, rfl, Lib.hid (show OwnLe V3 _ _ _ _ ([] ++ ls) from oL_V3.out), oI_V3.out, HBV3.out, Nat.le_refl _, bR_V3.out, bQ_V3.out, bN_V3.out⟩
      case round =>
        obtain ⟨ds, rt, k, HS2, HK, rfl, HO2, HI2, HB, hzr, HR, HQ, HN9⟩ := hrel
        have hlen : k + rt.length = n' := by rw [← HK.out, ← HL.out, HS2.out, List.length_append]
        have q0 := cell_blk (i := 0) HQ.out rfl
        have q1 := cell_blk (i := 1) HQ.out rfl
        have q2 := cell_blk (i := 2) HQ.out rfl
        have r0 := cell_blk (i := 0) HR.out rfl
        have r1 := cell_blk (i := 1) HR.out rfl
        have r2 := cell_blk (i := 2) HR.out rfl
        have rf0 := free_blk HR.out 0
        have rf1 := free_blk HR.out 1
        have rf2 := free_blk HR.out 2
        have hlr := lt_blk HR.out
        have hlq := lt_blk HQ.out
        have n0 := cell_blk (i := 0) HN9.out rfl
        have n1 := cell_blk (i := 1) HN9.out rfl
        have n2 := cell_blk (i := 2) HN9.out rfl
        have hln := lt_blk HN9.out
        cases rt with
        | nil =>
          have hkn : k = n' := by simpa using hlen
          subst hkn
          have HOF := Lib.hid (show OwnLe wr w2.heap.size w3.heap.size (some ⟨g, 0, none⟩) c2 (ls.map (backL a lo)) from by have h9 := HO2.out; rw [List.append_nil] at h9; rw [HS2.out, List.append_nil]; exact h9)
          go_wp2
          exact bodyPost_ret (v := .tuple #[.agg #[.int .i64 tm, .slice A1 n c1, .slice (some ⟨g, 0, none⟩) k c2], .bool true]) (by simp [results, Try.results22, go_sem, r0, r1, r2, rf0, rf1, rf2]) rfl (yesW_post HN.out HN'.out ((OwnCk.put3 HI2.out (by omega)).wider (by omega) (by simp [World.setCell]; omega)) ((OwnLe.put3 HOF.out (by omega)).wider (by omega) (by simp [World.setCell]; omega)) (bel_put3 HB.out (by omega)))
        | cons x t =>
          obtain ⟨s0, s1, s2⟩ := x
          have hkn : (k : Int) < (n' : Int) := by simp at hlen; omega
          have hk0 : (0 : Int) ≤ (k : Int) := by omega
          have HDK := Lib.hid (show (ds.map (backL a lo)).length = k by rw [List.length_map]; exact HK.out)
          obtain ⟨b9, o9, e9, hb9, c0, c1', c2'⟩ := les_mid HO2.out.les HDK.out
          injection e9 with e9
          injection e9 with e1 e2
          subst e1 e2
          simp only [Nat.zero_add] at c0 c1' c2'
          obtain ⟨_, _, cur9, hcur⟩ := le_block HO2.out
          have fr2 := free_blk hcur (k * 3 + 2)
          have hgl := lt_blk hcur
          have HCUR := Lib.hid hcur
          have HST := Lib.hid (show ls = (ds ++ [(s0, s1, s2)]) ++ t by rw [HS2.out]; simp)
          have HK1 := Lib.hid (show (ds ++ [(s0, s1, s2)]).length = k + 1 by rw [List.length_append, HK.out]; rfl)
          have hz3r : w3.heap.size ≤ wr.heap.size := by omega
          have HBKN := Lib.hid (fun (W : World) (hW : Below wr.heap.size wr W) (hno : ¬ (s0 = a ∧ lo ≤ s2)) => show OwnLe W w2.heap.size w3.heap.size (some ⟨g, 0, none⟩) c2 ((ds ++ [(s0, s1, s2)]).map (backL a lo) ++ t) from by
            have h9 := HO2.out.since hW hz3r
            rw [List.map_append, List.append_assoc]
            show OwnLe _ _ _ _ _ (_ ++ ([backL a lo (s0, s1, s2)] ++ t))
            rw [back_no hno]; exact h9)
          have HBKY := Lib.hid (fun (W : World) (hW : Below wr.heap.size wr W) (h1 : s0 = a) (h2 : lo ≤ s2) => show OwnLe (W.setCell ⟨g, k * 3 + 2, none⟩ (.int .i64 (lo - 1))) w2.heap.size w3.heap.size (some ⟨g, 0, none⟩) c2 ((ds ++ [(s0, s1, s2)]).map (backL a lo) ++ t) from by
            have h9 := OwnLe.upto (HO2.out.since hW hz3r) HDK.out (lo - 1)
            rw [List.map_append, List.append_assoc]
            show OwnLe _ _ _ _ _ (_ ++ ([backL a lo (s0, s1, s2)] ++ t))
            rw [back_yes h1 h2]; exact h9)
          clear hcur
          by_cases h1 : s0 = a
          · by_cases h2 : lo ≤ s2
            · skip
              have h1d : decide (s0 = a) = true := by simp [h1]
              have h2d : decide (s2 < lo) = false := by simp; omega
              have y0 := bel_cell n0 hln
              have y1 := bel_cell n1 hln
              have y2 := bel_cell n2 hln
              have x0 := bel_cell c0 hgl
              have x2 := bel_cell c2' hgl
              have HP := Lib.hid (fun W => isPastW_any lo hi s2 W)
              go_wp2_with fail
              refine bel_region (by kernel_rfl) (by kernel_rfl) ?_
              repeat (go_big_quiet_step ((go_at_call 43; exact bel_call (HP.out _))))
              refine wpQuiet_nil ?_
              intro p
              have hbx := p.below
              obtain ⟨wx, hwx⟩ : ∃ wx, wx = p.w := ⟨_, rfl⟩
              rw [← hwx] at hbx ⊢
              have hzx := hbx.size
              have HI2x := Lib.hid (HI2.out.since hbx (by omega))
              have HBx := Lib.hid (HB.out.trans (hbx.mono HB.out.size))
              have HRx := Lib.hid ((hbx.block (w.heap.size + 1) hlr).trans HR.out)
              have HQx := Lib.hid ((hbx.block w3.heap.size hlq).trans HQ.out)
              have HN9x := Lib.hid ((hbx.block w1.heap.size hln).trans HN9.out)
              have HCURx := Lib.hid ((hbx.block g hgl).trans HCUR.out)
              have HBX := Lib.hid hbx
              have n0 := cell_blk (i := 0) HN9x.out rfl
              have n1 := cell_blk (i := 1) HN9x.out rfl
              have n2 := cell_blk (i := 2) HN9x.out rfl
              have hlnx := lt_blk HN9x.out
              have hglx := lt_blk HCURx.out
              have frx := free_blk HCURx.out (k * 3 + 2)
              have c2x := kept2 hbx c2' hgl
              clear hwx hbx
              have HNX := Lib.hid (HBKY.out wx HBX.out h1 h2)
              go_wp2
              go_roundw
              case rel => exact ⟨ds ++ [(s0, s1, s2)], t, k + 1, HST, HK1, by go_num, HNX, Lib.hid (Own.otherT HI2x.out (p := ⟨g, k * 3 + 2, none⟩) HCURx.out (by decide) _), Lib.hid (HBx.out.setCell (p := ⟨g, k * 3 + 2, none⟩) (by simp only []; omega) _), by simp [World.setCell]; omega, Lib.hid ((Below.heap_setCell _ _ _ _ (by simp only []; omega)).trans HRx.out), Lib.hid ((Below.heap_setCell _ _ _ _ (by simp only []; omega)).trans HQx.out), Lib.hid ((Below.heap_setCell _ _ _ _ (by simp only []; omega)).trans HN9x.out)⟩
              case measure => simp [intOf]; omega
            · skip
              have h1d : decide (s0 = a) = true := by simp [h1]
              have h2d : decide (s2 < lo) = true := by simp; omega
              have h2e : decide (lo ≤ s2) = false := by simp; omega
              have y0 := bel_cell n0 hln
              have y1 := bel_cell n1 hln
              have y2 := bel_cell n2 hln
              have x0 := bel_cell c0 hgl
              have x2 := bel_cell c2' hgl
              have HP := Lib.hid (fun W => isPastW_any lo hi s2 W)
              go_wp2_with fail
              refine bel_region (by kernel_rfl) (by kernel_rfl) ?_
              repeat (go_big_quiet_step ((go_at_call 43; exact bel_call (HP.out _))))
              refine wpQuiet_nil ?_
              intro p
              have hbx := p.below
              obtain ⟨wx, hwx⟩ : ∃ wx, wx = p.w := ⟨_, rfl⟩
              rw [← hwx] at hbx ⊢
              have hzx := hbx.size
              have HI2x := Lib.hid (HI2.out.since hbx (by omega))
              have HBx := Lib.hid (HB.out.trans (hbx.mono HB.out.size))
              have HRx := Lib.hid ((hbx.block (w.heap.size + 1) hlr).trans HR.out)
              have HQx := Lib.hid ((hbx.block w3.heap.size hlq).trans HQ.out)
              have HN9x := Lib.hid ((hbx.block w1.heap.size hln).trans HN9.out)
              have HCURx := Lib.hid ((hbx.block g hgl).trans HCUR.out)
              have HBX := Lib.hid hbx
              have n0 := cell_blk (i := 0) HN9x.out rfl
              have n1 := cell_blk (i := 1) HN9x.out rfl
              have n2 := cell_blk (i := 2) HN9x.out rfl
              have hlnx := lt_blk HN9x.out
              have hglx := lt_blk HCURx.out
              have frx := free_blk HCURx.out (k * 3 + 2)
              have c2x := kept2 hbx c2' hgl
              clear hwx hbx
              have HNX := Lib.hid (HBKN.out wx HBX.out (fun h9 => absurd h9.2 (by omega)))
              go_wp2
              go_roundw
              case rel => exact ⟨ds ++ [(s0, s1, s2)], t, k + 1, HST, HK1, by go_num, HNX, HI2x, HBx, (by omega), HRx, HQx, HN9x⟩
              case measure => simp [intOf]; omega
          · skip
            have h1d : decide (s0 = a) = false := by simp [h1]
            have h1b : (s0 == a) = false := by simp [h1]
            have y0 := bel_cell n0 hln
            have y1 := bel_cell n1 hln
            have y2 := bel_cell n2 hln
            have x0 := bel_cell c0 hgl
            have x2 := bel_cell c2' hgl
            have HP := Lib.hid (fun W => isPastW_any lo hi s2 W)
            go_wp2_with fail
            refine bel_region (by kernel_rfl) (by kernel_rfl) ?_
            repeat (go_big_quiet_step ((go_at_call 43; exact bel_call (HP.out _))))
            refine wpQuiet_nil ?_
            intro p
            have hbx := p.below
            obtain ⟨wx, hwx⟩ : ∃ wx, wx = p.w := ⟨_, rfl⟩
            rw [← hwx] at hbx ⊢
            have hzx := hbx.size
            have HI2x := Lib.hid (HI2.out.since hbx (by omega))
            have HBx := Lib.hid (HB.out.trans (hbx.mono HB.out.size))
            have HRx := Lib.hid ((hbx.block (w.heap.size + 1) hlr).trans HR.out)
            have HQx := Lib.hid ((hbx.block w3.heap.size hlq).trans HQ.out)
            have HN9x := Lib.hid ((hbx.block w1.heap.size hln).trans HN9.out)
            have HCURx := Lib.hid ((hbx.block g hgl).trans HCUR.out)
            have HBX := Lib.hid hbx
            have n0 := cell_blk (i := 0) HN9x.out rfl
            have n1 := cell_blk (i := 1) HN9x.out rfl
            have n2 := cell_blk (i := 2) HN9x.out rfl
            have hlnx := lt_blk HN9x.out
            have hglx := lt_blk HCURx.out
            have frx := free_blk HCURx.out (k * 3 + 2)
            have c2x := kept2 hbx c2' hgl
            clear hwx hbx
            have HNX := Lib.hid (HBKN.out wx HBX.out (fun h9 => absurd h9.1 (by omega)))
            go_wp2
            go_roundw
            case rel => exact ⟨ds ++ [(s0, s1, s2)], t, k + 1, HST, HK1, by go_num, HNX, HI2x, HBx, (by omega), HRx, HQx, HN9x⟩
            case measure => simp [intOf]; omega
end Go.Proofs.Ytpppgihoekfmoaa.Wt
