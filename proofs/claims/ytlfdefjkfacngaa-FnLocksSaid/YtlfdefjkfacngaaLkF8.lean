/-
  TakeLock of the program.
-/
import Derived.Test.YtlfdefjkfacngaaLkF7
namespace Go.Proofs.Ytlfdefjkfacngaa.Lk
open Go.RowKit CM Nt
set_option linter.unusedVariables false
set_option linter.unusedSimpArgs false

/-- What with leaves is what taking asks. -/
theorem with_take {ls : List LK} {s : ByteArray} {t : Int} {g : Bool} {w w' : World} {e : Ending} (hg : goodB ls = true) (hl : lkB (s, t, g) = true) (h0 : (txnsL ls (s, t, g)).length = 0) (h : withA ls (s, t, g || ls.any (sameB (s, t, true))) w e w') : KAPost (takeA ls (s, t, g)) w e w' := by
  have h60 := (good_free hg).1
  have hh : ∀ y g1, heldB (s, t, g1) y = heldB (s, t, g) y := fun y g1 => rfl
  have ha : ∀ l : List LK, l.any (heldB (s, t, g || ls.any (sameB (s, t, true)))) = l.any (heldB (s, t, g)) := fun l => rfl
  rcases h with ⟨k, hk, h1, h2, h3⟩ | ⟨h1, h2, h3⟩ | ⟨h1, h2, h3⟩
  · rw [hh] at h1
    rw [ha] at h2
    have e1 := take_at (x := (s, t, g)) hk h2 h1
    have e2 := held_eq h1
    have e3 := has_write hg hk h1
    have e4 : takeL ls (s, t, g) = ls.set k (s, t, g || ls.any (sameB (s, t, true))) := by
      rw [e1, e3, e2.1, e2.2, Bool.or_comm]
    have e5 : (takeL ls (s, t, g)).length ≤ 60 := by rw [e4, List.length_set]; exact h60
    have e6 : takeA ls (s, t, g) = (ls.set k (s, t, g || ls.any (sameB (s, t, true))), true) := by
      unfold takeA
      rw [hg, hl]
      simp only [h0, e5, decide_true, Bool.and_self, if_true]
      rw [e4]
    rw [e6]; exact h3
  · rw [ha] at h1
    have e1 := take_end h1
    have e6 : takeA ls (s, t, g) = ([], false) := by
      unfold takeA
      rw [show decide ((takeL ls (s, t, g)).length ≤ 60) = false by rw [e1, List.length_append, h2]; rfl]
      simp
    rw [e6]; exact h3
  · rw [ha] at h1
    have e1 := take_end h1
    have e5 : (takeL ls (s, t, g)).length ≤ 60 := by rw [e1, List.length_append]; simp; omega
    have e6 : takeA ls (s, t, g) = (ls ++ [(s, t, g || ls.any (sameB (s, t, true)))], true) := by
      unfold takeA
      rw [hg, hl]
      simp only [h0, e5, decide_true, Bool.and_self, if_true]
      rw [e1, has_none h1, Bool.or_false]
    rw [e6]; exact h3
set_option maxRecDepth 100000 in
set_option maxHeartbeats 8000000 in
theorem implTakeLock_any (s : ByteArray) (t : Int) (g : Bool) (A : Option Addr) (n c : Nat) (ls : List LK) (B : Nat) (w : World) (hn : ls.length = n) (hcp : n ≤ c) (h : LksB w B A ls) (hB : B ≤ w.heap.size) (hm : KSmall ls) (hs : s.size ≤ 1048576) :
    Calls Try.prog 22 #[.slice A n c, .agg #[.string s, .int .i64 t, .bool g]] w (KAPost (takeA ls (s, t, g)) w) := by
  have HW := Lib.hid (fun W (hW : Below w.heap.size w W) => implWaitsFor_any s t g A n c ls B W hn hcp (h.below (hW.mono hB)) (Nat.le_trans hB hW.size) hm hs)
  unfold IAPost waitA at HW
  have HTB := Lib.hid (fun W => lockTable_any A n c W)
  have HCO := Lib.hid (fun W (hW : Below w.heap.size w W) => containsL_any s t true A n c ls B W hn hcp (h.below (hW.mono hB)) (Nat.le_trans hB hW.size) hm)
  have HWI0 := Lib.hid (fun g1 W (hW : Below w.heap.size w W) => with_any s t g1 A n c ls B W hn hcp (h.below (hW.mono hB)) (Nat.le_trans hB hW.size) hm)
  have HB0 := Lib.hid (below1 w (.cells #[.string s, .int .i64 t, .bool g] 27))
  have hk0 := heap_alloc_new w (.cells #[.string s, .int .i64 t, .bool g] 27)
  have HWZ := Lib.hid (waits_zero (ls := ls) (x := (s, t, g)))
  have hm1 := hm.1
  have HTLN := Lib.hid (txns_len ls (s, t, g))
  cases r1 : (goodB ls && lkB (s, t, g)) with
  | false =>
    have ht : takeA ls (s, t, g) = ([], false) := by
      unfold takeA
      rw [← Bool.and_assoc, r1]; rfl
    rw [ht]
    simp only [r1, Bool.false_eq_true, if_false] at HW
    clear h hn hm r1
    go_enter Try.func22, Try.ntmps22
    go_wp2_with fail
    refine (HW.out _ HB0.out).mono ?_
    rintro e w1 ⟨A1, c1, rfl, ho1, hb1⟩
    clear ho1
    have HB1 := Lib.hid (HB0.out.trans (hb1.mono HB0.out.size))
    have hk1 := (hb1.block w.heap.size (lt_blk hk0)).trans hk0
    have x0 : w1.cell? ⟨w.heap.size, 0, none⟩ = some (.string s) := cell_blk (i := 0) hk1 rfl
    have x1 : w1.cell? ⟨w.heap.size, 1, none⟩ = some (.int .i64 t) := cell_blk (i := 1) hk1 rfl
    have x2 : w1.cell? ⟨w.heap.size, 2, none⟩ = some (.bool g) := cell_blk (i := 2) hk1 rfl
    have xl := lt_blk hk1
    have xf := free_blk hk1 2
    clear hb1
    go_wp2
    exact bodyPost_ret (v := .tuple #[.slice none 0 0, .bool false]) (by simp [results, Try.results22, go_sem]) rfl ⟨none, 0, rfl, own_nil _ _ _, HB1.out⟩
  | true =>
    simp only [r1, if_true, HWZ.out] at HW
    simp only [Bool.and_eq_true] at r1
    obtain ⟨r1, r2⟩ := r1
    obtain ⟨tl, htl⟩ : ∃ tl, tl = (txnsL ls (s, t, g)).length := ⟨_, rfl⟩
    rw [← htl] at HW
    by_cases h0 : tl = 0
    · subst h0
      have HWI1 := Lib.hid (fun W (hW : Below w.heap.size w W) => (HWI0.out (g || ls.any (sameB (s, t, true))) W hW).mono fun e w' hh => with_take r1 r2 htl.symm hh)
      obtain ⟨g1, hg1⟩ : ∃ g1, g1 = (g || ls.any (sameB (s, t, true))) := ⟨_, rfl⟩
      rw [← hg1] at HWI1
      obtain ⟨⟨al, ok⟩, hr⟩ : ∃ r, r = takeA ls (s, t, g) := ⟨_, rfl⟩
      simp only [← hr, KAPost_un] at HWI1
      rw [← hr, KAPost_un]
      obtain ⟨m, hmm⟩ : ∃ m, m = al.length := ⟨_, rfl⟩
      simp only [← hmm] at HWI1
      rw [← hmm]
      have HWI := HWI1
      clear HWI1 HWI0 hr hmm htl r1 r2 h hn hm
      cases g with
      | true =>
        have hg2 : g1 = true := by rw [hg1]; rfl
        subst hg2
        clear hg1
        go_enter Try.func22, Try.ntmps22
        go_wp2_with fail
        refine (HW.out _ HB0.out).mono ?_
        rintro e w1 ⟨A1, c1, rfl, ho1, hb1⟩
        clear ho1
        have HB1 := Lib.hid (HB0.out.trans (hb1.mono HB0.out.size))
        have hk1 := (hb1.block w.heap.size (lt_blk hk0)).trans hk0
        have x0 : w1.cell? ⟨w.heap.size, 0, none⟩ = some (.string s) := cell_blk (i := 0) hk1 rfl
        have x1 : w1.cell? ⟨w.heap.size, 1, none⟩ = some (.int .i64 t) := cell_blk (i := 1) hk1 rfl
        have x2 : w1.cell? ⟨w.heap.size, 2, none⟩ = some (.bool true) := cell_blk (i := 2) hk1 rfl
        have xl := lt_blk hk1
        have xf := free_blk hk1 2
        clear hb1
        have HBP := Lib.hid (HB1.out.setCell (p := ⟨w.heap.size, 2, none⟩) (Nat.le_refl _) (.bool true))
        have HBS := Lib.hid (HBP.out.trans ((below1 (w1.setCell ⟨w.heap.size, 2, none⟩ (.bool true)) (.cells #[.string s, .int .i64 t, .bool true] 27)).mono HBP.out.size))
        have hkP : (w1.setCell ⟨w.heap.size, 2, none⟩ (.bool true)).heap[w.heap.size]? = some (.cells #[.string s, .int .i64 t, .bool true] 27 (0, 0)) := by
          simp [World.setCell, Array.getElem?_modify, hk1]
        have hkS := ((below1 (w1.setCell ⟨w.heap.size, 2, none⟩ (.bool true)) (.cells #[.string s, .int .i64 t, .bool true] 27)).block w.heap.size (lt_blk hkP)).trans hkP
        obtain ⟨wS, hwS⟩ : ∃ wS, wS = (w1.setCell ⟨w.heap.size, 2, none⟩ (.bool true)).alloc (.cells #[.string s, .int .i64 t, .bool true] 27) := ⟨_, rfl⟩
        rw [← hwS] at HBS hkS
        have y0 : wS.cell? ⟨w.heap.size, 0, none⟩ = some (.string s) := cell_blk (i := 0) hkS rfl
        have y1 : wS.cell? ⟨w.heap.size, 1, none⟩ = some (.int .i64 t) := cell_blk (i := 1) hkS rfl
        have y2 : wS.cell? ⟨w.heap.size, 2, none⟩ = some (.bool true) := cell_blk (i := 2) hkS rfl
        have yl := lt_blk hkS
        have hbel := Below.refl wS.heap.size wS
        have HS0 : wS.drew.cell? ⟨w.heap.size, 0, none⟩ = some (.string s) ∧ wS.drew.cell? ⟨w.heap.size, 1, none⟩ = some (.int .i64 t) ∧ wS.drew.cell? ⟨w.heap.size, 2, none⟩ = some (.bool true) := ⟨y0, y1, y2⟩
        go_wp2_with fail
        rw [← hwS]
        clear hwS
        go_region_held3 (fun w' => w'.cell? ⟨w.heap.size, 0, none⟩ = some (.string s) ∧ w'.cell? ⟨w.heap.size, 1, none⟩ = some (.int .i64 t) ∧ w'.cell? ⟨w.heap.size, 2, none⟩ = some (.bool true))
          (first | with_reducible exact HS0 | with_reducible exact ⟨kept2 hQ1 y0 yl, kept2 hQ1 y1 yl, kept2 hQ1 y2 yl⟩ | with_reducible exact ⟨kept2 hQ2 y0 yl, kept2 hQ2 y1 yl, kept2 hQ2 y2 yl⟩ | fail)
          (first
            | (go_at_call 64; (with_reducible refine (HTB.out _).mono ?_); rintro e v1 ⟨rfl, hv1⟩; have hQ1 : Below wS.heap.size wS v1 := below_drewL hv1)
            | (go_at_call 73; (with_reducible refine (HWI.out v1 (HBS.out.trans (hQ1.mono HBS.out.size))).mono ?_); rintro e w4 ⟨A4, c4, rfl, ho4, hv4⟩; have hQ2 : Below wS.heap.size wS w4 := hQ1.trans (hv4.mono hQ1.size))
            | fail)
        all_goals (
          have HF := Lib.hid (show ∃ A c, (Ending.returned (.tuple #[.slice A4 m c4, .bool ok])) = .returned (.tuple #[.slice A m c, .bool ok]) ∧ OwnK w4 w.heap.size w4.heap.size A c al ∧ Below w.heap.size w w4 from ⟨A4, c4, rfl, OwnK.wider ho4 (Nat.le_trans HBS.out.size hQ1.size) (Nat.le_refl _), HBS.out.trans (hQ2.mono HBS.out.size)⟩)
          clear hQ1 hQ2 hv1 hv4 ho4 HS0 y0 y1 y2 hbel
          go_wp2
          exact bodyPost_ret (v := .tuple #[.slice A4 m c4, .bool ok]) (by simp [results, Try.results22, go_sem]) rfl HF.out)
      | false =>
        simp only [Bool.false_or] at hg1
        rw [← hg1] at HCO
        clear hg1
        go_enter Try.func22, Try.ntmps22
        go_wp2_with fail
        refine (HW.out _ HB0.out).mono ?_
        rintro e w1 ⟨A1, c1, rfl, ho1, hb1⟩
        clear ho1
        have HB1 := Lib.hid (HB0.out.trans (hb1.mono HB0.out.size))
        have hk1 := (hb1.block w.heap.size (lt_blk hk0)).trans hk0
        have x0 : w1.cell? ⟨w.heap.size, 0, none⟩ = some (.string s) := cell_blk (i := 0) hk1 rfl
        have x1 : w1.cell? ⟨w.heap.size, 1, none⟩ = some (.int .i64 t) := cell_blk (i := 1) hk1 rfl
        have x2 : w1.cell? ⟨w.heap.size, 2, none⟩ = some (.bool false) := cell_blk (i := 2) hk1 rfl
        have xl := lt_blk hk1
        have xf := free_blk hk1 2
        clear hb1
        have HBP := Lib.hid (HB1.out.trans ((below1 w1 (.cells #[.string s, .int .i64 t, .bool true] 27)).mono HB1.out.size))
        have hkP := ((below1 w1 (.cells #[.string s, .int .i64 t, .bool true] 27)).block w.heap.size xl).trans hk1
        have hfP := heap_alloc_new w1 (.cells #[.string s, .int .i64 t, .bool true] 27)
        go_wp2_with fail
        refine (HCO.out _ HBP.out).mono ?_
        rintro e w2 ⟨rfl, hb2⟩
        have HB2 := Lib.hid (HBP.out.trans (hb2.mono HBP.out.size))
        have hk2 := (hb2.block w.heap.size (lt_blk hkP)).trans hkP
        have z2 := cell_blk (i := 2) hk2 rfl
        have zl := lt_blk hk2
        have zf := free_blk hk2 2
        clear hb2 x0 x1 x2 xl xf
        have HBS := Lib.hid (HB2.out.setCell (p := ⟨w.heap.size, 2, none⟩) (Nat.le_refl _) (.bool g1))
        have hkS : (w2.setCell ⟨w.heap.size, 2, none⟩ (.bool g1)).heap[w.heap.size]? = some (.cells #[.string s, .int .i64 t, .bool g1] 27 (0, 0)) := by
          simp [World.setCell, Array.getElem?_modify, hk2]
        obtain ⟨wS, hwS⟩ : ∃ wS, wS = w2.setCell ⟨w.heap.size, 2, none⟩ (.bool g1) := ⟨_, rfl⟩
        rw [← hwS] at HBS hkS
        have y0 : wS.cell? ⟨w.heap.size, 0, none⟩ = some (.string s) := cell_blk (i := 0) hkS rfl
        have y1 : wS.cell? ⟨w.heap.size, 1, none⟩ = some (.int .i64 t) := cell_blk (i := 1) hkS rfl
        have y2 : wS.cell? ⟨w.heap.size, 2, none⟩ = some (.bool g1) := cell_blk (i := 2) hkS rfl
        have yl := lt_blk hkS
        have hbel := Below.refl wS.heap.size wS
        have HS0 : wS.drew.cell? ⟨w.heap.size, 0, none⟩ = some (.string s) ∧ wS.drew.cell? ⟨w.heap.size, 1, none⟩ = some (.int .i64 t) ∧ wS.drew.cell? ⟨w.heap.size, 2, none⟩ = some (.bool g1) := ⟨y0, y1, y2⟩
        go_wp2_with fail
        rw [← hwS]
        clear hwS
        go_region_held3 (fun w' => w'.cell? ⟨w.heap.size, 0, none⟩ = some (.string s) ∧ w'.cell? ⟨w.heap.size, 1, none⟩ = some (.int .i64 t) ∧ w'.cell? ⟨w.heap.size, 2, none⟩ = some (.bool g1))
          (first | with_reducible exact HS0 | with_reducible exact ⟨kept2 hQ1 y0 yl, kept2 hQ1 y1 yl, kept2 hQ1 y2 yl⟩ | with_reducible exact ⟨kept2 hQ2 y0 yl, kept2 hQ2 y1 yl, kept2 hQ2 y2 yl⟩ | fail)
          (first
            | (go_at_call 64; (with_reducible refine (HTB.out _).mono ?_); rintro e v1 ⟨rfl, hv1⟩; have hQ1 : Below wS.heap.size wS v1 := below_drewL hv1)
            | (go_at_call 73; (with_reducible refine (HWI.out v1 (HBS.out.trans (hQ1.mono HBS.out.size))).mono ?_); rintro e w4 ⟨A4, c4, rfl, ho4, hv4⟩; have hQ2 : Below wS.heap.size wS w4 := hQ1.trans (hv4.mono hQ1.size))
            | fail)
        all_goals (
          have HF := Lib.hid (show ∃ A c, (Ending.returned (.tuple #[.slice A4 m c4, .bool ok])) = .returned (.tuple #[.slice A m c, .bool ok]) ∧ OwnK w4 w.heap.size w4.heap.size A c al ∧ Below w.heap.size w w4 from ⟨A4, c4, rfl, OwnK.wider ho4 (Nat.le_trans HBS.out.size hQ1.size) (Nat.le_refl _), HBS.out.trans (hQ2.mono HBS.out.size)⟩)
          clear hQ1 hQ2 hv1 hv4 ho4 HS0 y0 y1 y2 hbel
          go_wp2
          exact bodyPost_ret (v := .tuple #[.slice A4 m c4, .bool ok]) (by simp [results, Try.results22, go_sem]) rfl HF.out)
    · have h0i : (0 : Int) < (tl : Int) := by omega
      have htb : tl ≤ 1048576 := by have := HTLN.out; omega
      have ht : takeA ls (s, t, g) = ([], false) := by
        unfold takeA
        rw [← htl]
        simp [h0]
      rw [ht]
      clear h hn hm htl r1 r2
      go_enter Try.func22, Try.ntmps22
      go_wp2_with fail
      refine (HW.out _ HB0.out).mono ?_
      rintro e w1 ⟨A1, c1, rfl, ho1, hb1⟩
      clear ho1
      have HB1 := Lib.hid (HB0.out.trans (hb1.mono HB0.out.size))
      have hk1 := (hb1.block w.heap.size (lt_blk hk0)).trans hk0
      have x0 : w1.cell? ⟨w.heap.size, 0, none⟩ = some (.string s) := cell_blk (i := 0) hk1 rfl
      have x1 : w1.cell? ⟨w.heap.size, 1, none⟩ = some (.int .i64 t) := cell_blk (i := 1) hk1 rfl
      have x2 : w1.cell? ⟨w.heap.size, 2, none⟩ = some (.bool g) := cell_blk (i := 2) hk1 rfl
      have xl := lt_blk hk1
      have xf := free_blk hk1 2
      clear hb1
      go_wp2
      exact bodyPost_ret (v := .tuple #[.slice none 0 0, .bool false]) (by simp [results, Try.results22, go_sem]) rfl ⟨none, 0, rfl, own_nil _ _ _, HB1.out⟩
end Go.Proofs.Ytlfdefjkfacngaa.Lk
