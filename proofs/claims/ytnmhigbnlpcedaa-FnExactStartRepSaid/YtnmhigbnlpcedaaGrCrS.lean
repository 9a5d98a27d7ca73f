/-
  Contracts for CrashRep and StartRep of the model.
-/
import Derived.Test.YtnmhigbnlpcedaaGrUp
import Derived.Test.YtnmhigbnlpcedaaGrOw
namespace Go.Proofs.Ytnmhigbnlpcedaa.Gr
open Go.RowKit CM
set_option linter.unusedVariables false
set_option linter.unusedSimpArgs false

set_option maxRecDepth 100000 in
set_option maxHeartbeats 4000000 in
theorem specCrashRep_any (A : Option Addr) (n c : Nat) (tm ld r : Int) (hs : List RH) (B : Nat) (w : World) (hn : hs.length = n) (h : RowsB KR w B A hs) (hB : B ≤ w.heap.size) (hm : RpSmall (hs.map rdat)) :
    Calls Try.prog 22 #[.agg #[.slice A n c, .int .i64 tm, .int .i64 ld], .int .i64 r] w (GAPost (crashA tm ld (hs.map rdat) r) w) := by
  have hb0 := below2 w (.cells #[.slice A n c, .int .i64 tm, .int .i64 ld] 24) (.cells #[.slice none 0 0, .int .i64 0, .int .i64 0] 24)
  have ka0 := alloc2_a w (.cells #[.slice A n c, .int .i64 tm, .int .i64 ld] 24) (.cells #[.slice none 0 0, .int .i64 0, .int .i64 0] 24)
  have kb0 := alloc2_b w (.cells #[.slice A n c, .int .i64 tm, .int .i64 ld] 24) (.cells #[.slice none 0 0, .int .i64 0, .int .i64 0] 24)
  have HUP := Lib.hid (l9Up_any A n c tm ld r true hs B _ hn (h.below (hb0.mono hB)) (Nat.le_trans hB hb0.size) hm)
  have HOW := Lib.hid (fun W (hW : Below w.heap.size w W) => l9Own_any A n c tm ld hs B W hn (h.below (hW.mono hB)) (Nat.le_trans hB hW.size) hm)
  have HB0 := Lib.hid hb0
  have HKA := Lib.hid ka0
  have HKB := Lib.hid kb0
  have hza : w.heap.size < ((w.alloc (.cells #[.slice A n c, .int .i64 tm, .int .i64 ld] 24)).alloc (.cells #[.slice none 0 0, .int .i64 0, .int .i64 0] 24)).heap.size := by simp; omega
  have hzb : w.heap.size + 1 < ((w.alloc (.cells #[.slice A n c, .int .i64 tm, .int .i64 ld] 24)).alloc (.cells #[.slice none 0 0, .int .i64 0, .int .i64 0] 24)).heap.size := by simp
  clear hb0 ka0 kb0
  by_cases hg : grpB tm ld (hs.map rdat) = true ∧ isUpB (hs.map rdat) r = true
  · have hx := hg.2
    unfold isUpB at hx
    rw [List.length_map, hn] at hx
    simp only [Bool.and_eq_true] at hx
    rw [show (grpB tm ld (hs.map rdat) && (hasB n r && (upAt (hs.map rdat) r.toNat == true))) = true by rw [hg.1, hx.1, hx.2]; rfl] at HUP
    rw [crashA, if_pos hg, GAPost_un]
    obtain ⟨q, hq, hqn⟩ := hasB_nat hx.1
    subst hq
    rw [Int.toNat_natCast]
    have HN := Lib.hid hn
    obtain ⟨lv, hlv⟩ : ∃ lv, lv = if ld = (q : Int) then -1 else ld := ⟨_, rfl⟩
    rw [← hlv]
    have HLV := Lib.hid hlv
    clear hlv
    have HSL := Lib.hid (show (setUp (hs.map rdat) q false).length = n by rw [setUp_len, List.length_map]; exact hn)
    have hq0 : (0 : Int) ≤ (q : Int) := by omega
    have hq1 : (q : Int) < (n : Int) := by omega
    clear hg hx h hm hn
    go_enter Try.func22, Try.ntmps22
    go_wp2_with fail
    (with_reducible refine HUP.out.mono ?_)
    rintro e w1 ⟨rfl, ha1⟩
    have HB1 := Lib.hid (HB0.out.trans (ha1.mono HB0.out.size))
    have ka1 := (ha1.block w.heap.size hza).trans HKA.out
    have kb1 := (ha1.block (w.heap.size + 1) hzb).trans HKB.out
    have hz1 : w.heap.size + 1 < w1.heap.size := Nat.lt_of_lt_of_le hzb ha1.size
    have hz0 : w.heap.size < w1.heap.size := by omega
    have a0 := cell_blk (i := 0) ka1 rfl
    have a1 := cell_blk (i := 1) ka1 rfl
    have a2 := cell_blk (i := 2) ka1 rfl
    have HKA1 := Lib.hid ka1
    have HKB1 := Lib.hid kb1
    clear ha1 ka1 kb1
    go_wp2_with fail
    (with_reducible refine (HOW.out _ HB1.out).mono ?_)
    rintro e w2 ⟨A2, c2, gs, rfl, hd2, ho2, ha2⟩
    have hgl : gs.length = n := (dats_len hd2).trans HN.out
    obtain ⟨g, cur, rfl, hg1, hg2, hgh, _⟩ := ho2.form (by omega)
    have hqg : q < gs.length := by omega
    have hcell : w2.cell? ⟨g, q * 3, none⟩ = some (.bool (gs[q]'hqg).up) := OwnK.cell ho2 q hqg 0 (by decide)
    have hfree := OwnK.free ho2 (by omega) (q * 3)
    have hz2 := ha2.size
    have hgz : g < w2.heap.size := hg2
    have hz02 : w.heap.size < w2.heap.size := by omega
    have hz12 : w.heap.size + 1 < w2.heap.size := by omega
    obtain ⟨U, hU⟩ : ∃ U, U = w2.setCell ⟨g, q * 3, none⟩ (.bool false) := ⟨_, rfl⟩
    have hzU : U.heap.size = w2.heap.size := by rw [hU]; simp [World.setCell]
    have hsu := own_upH ho2 q hqg false
    have kau := (Below.heap_setCell (w := w2) ⟨g, q * 3, none⟩ (.bool false) w.heap.size (by simp; omega)).trans ((ha2.block _ hz0).trans HKA1.out)
    have kbu := (Below.heap_setCell (w := w2) ⟨g, q * 3, none⟩ (.bool false) (w.heap.size + 1) (by simp; omega)).trans ((ha2.block _ hz1).trans HKB1.out)
    have hbu : Below w.heap.size w (w2.setCell ⟨g, q * 3, none⟩ (.bool false)) := (HB1.out.trans (ha2.mono HB1.out.size)).setCell (p := ⟨g, q * 3, none⟩) (show w.heap.size ≤ g by omega) _
    rw [← hU] at hsu kau kbu hbu
    have hbx := below1 U (.cells #[.slice (some ⟨g, 0, none⟩) n c2, .int .i64 tm, .int .i64 ld] 24)
    have hso := hsu.since hbx
    have ka3 := (hbx.block _ (lt_blk kau)).trans kau
    have kb3 := (hbx.block _ (lt_blk kbu)).trans kbu
    have k63 := heap_alloc_new U (.cells #[.slice (some ⟨g, 0, none⟩) n c2, .int .i64 tm, .int .i64 ld] 24)
    rw [hzU] at k63
    have hb3 := hbu.trans (hbx.mono (by omega))
    go_upto_region 5 with fail
    rw [← hU]
    obtain ⟨V, hV⟩ : ∃ V, V = U.alloc (.cells #[.slice (some ⟨g, 0, none⟩) n c2, .int .i64 tm, .int .i64 ld] 24) := ⟨_, rfl⟩
    rw [← hV] at hso ka3 kb3 k63 hb3 ⊢
    have hzV : V.heap.size = w2.heap.size + 1 := by rw [hV, ← hzU]; simp
    have HZV := Lib.hid hzV
    have HSO := Lib.hid hso
    have HB3 := Lib.hid hb3
    have HDD := Lib.hid (show (upH gs q false).map rdat = setUp (hs.map rdat) q false by rw [upH_map, hd2])
    have HZZ := Lib.hid (show w.heap.size + 1 < w1.heap.size ∧ w1.heap.size ≤ w2.heap.size from ⟨hz1, hz2⟩)
    have s2 := cell_blk (i := 2) ka3 rfl
    have t0 := cell_blk (i := 0) k63 rfl
    have t1 := cell_blk (i := 1) k63 rfl
    have t2 := cell_blk (i := 2) k63 rfl
    have ft := free_all k63
    have b0 := cell_blk (i := 0) kb3 rfl
    have b1 := cell_blk (i := 1) kb3 rfl
    have b2 := cell_blk (i := 2) kb3 rfl
    have fb := free_all kb3
    have n1 : w.heap.size + 1 ≠ w2.heap.size := by omega
    have n2 : w2.heap.size ≠ w.heap.size + 1 := by omega
    have l1 : w.heap.size + 1 < V.heap.size := by omega
    have l2 : w2.heap.size < V.heap.size := by omega
    have hlen : (upH gs q false).length = n := by rw [upH_len]; exact hgl
    clear hV hzV hso ka3 kb3 k63 hb3 hbx hU hzU hsu kau kbu hbu hcell hfree hgh hd2 ho2 ha2 a0 a1 a2 hz2 hgz
    by_cases hlr : ld = (q : Int)
    · have e1 : (ld == (q : Int)) = true := by simp [hlr]
      have hl2 := HLV.out
      rw [if_pos hlr] at hl2
      have HF := Lib.hid hl2
      clear hlr hl2
      go_wp2
      exact bodyPost_ret (v := .tuple #[.agg #[.slice (some ⟨g, 0, none⟩) n c2, .int .i64 tm, .int .i64 (-1)], .bool true]) (by simp [results, Try.results22, go_sem, *]) rfl ⟨some ⟨g, 0, none⟩, c2, upH gs q false, by rw [HSL.out, HF.out], HDD.out,
        (HSO.out.keep ((keep_set (p := ⟨w2.heap.size, 2, none⟩) (.inr (Nat.le_refl _)) _).trans (keep_putN (g := w.heap.size + 1) (.inl HZZ.out.1) 0 [.slice (some ⟨g, 0, none⟩) n c2, .int .i64 tm, .int .i64 (-1)]) (by simp [World.setCell]))).wider (by have := HZZ.out; omega) (by simp [World.setCell]; have := HZV.out; omega),
        below_putN (HB3.out.setCell (p := ⟨w2.heap.size, 2, none⟩) (show w.heap.size ≤ w2.heap.size by omega) (.int .i64 (-1))) (show w.heap.size ≤ w.heap.size + 1 by omega) 0 [.slice (some ⟨g, 0, none⟩) n c2, .int .i64 tm, .int .i64 (-1)]⟩
    · have e1 : (ld == (q : Int)) = false := by simp [hlr]
      have hl2 := HLV.out
      rw [if_neg hlr] at hl2
      have HF := Lib.hid hl2
      clear hlr hl2
      go_wp2
      exact bodyPost_ret (v := .tuple #[.agg #[.slice (some ⟨g, 0, none⟩) n c2, .int .i64 tm, .int .i64 ld], .bool true]) (by simp [results, Try.results22, go_sem, *]) rfl ⟨some ⟨g, 0, none⟩, c2, upH gs q false, by rw [HSL.out, HF.out], HDD.out,
        (HSO.out.keep (keep_putN (g := w.heap.size + 1) (.inl HZZ.out.1) 0 [.slice (some ⟨g, 0, none⟩) n c2, .int .i64 tm, .int .i64 ld])).wider (by have := HZZ.out; omega) (by simp [World.setCell]; have := HZV.out; omega),
        below_putN HB3.out (show w.heap.size ≤ w.heap.size + 1 by omega) 0 [.slice (some ⟨g, 0, none⟩) n c2, .int .i64 tm, .int .i64 ld]⟩
  · rw [show (grpB tm ld (hs.map rdat) && (hasB n r && (upAt (hs.map rdat) r.toNat == true))) = false by
      rw [Bool.eq_false_iff]
      intro hc
      simp only [Bool.and_eq_true] at hc
      exact hg ⟨hc.1, by unfold isUpB; rw [List.length_map, hn, hc.2.1]; simpa using hc.2.2⟩] at HUP
    rw [crashA, if_neg hg]
    clear hg h hm hn
    go_enter Try.func22, Try.ntmps22
    go_wp2_with fail
    (with_reducible refine HUP.out.mono ?_)
    rintro e w1 ⟨rfl, ha1⟩
    have HB1 := Lib.hid (HB0.out.trans (ha1.mono HB0.out.size))
    have ka1 := (ha1.block w.heap.size hza).trans HKA.out
    have kb1 := (ha1.block (w.heap.size + 1) hzb).trans HKB.out
    have hz1 : w.heap.size + 1 < w1.heap.size := Nat.lt_of_lt_of_le hzb ha1.size
    have hz0 : w.heap.size < w1.heap.size := by omega
    have b0 := cell_blk (i := 0) kb1 rfl
    have b1 := cell_blk (i := 1) kb1 rfl
    have b2 := cell_blk (i := 2) kb1 rfl
    have fb := free_all kb1
    clear ha1 ka1 kb1
    go_wp2
    exact bodyPost_ret (v := .tuple #[.agg #[.slice none 0 0, .int .i64 0, .int .i64 0], .bool false]) (by simp [results, Try.results22, go_sem, *]) rfl (noGA_post (below_putN HB1.out (show w.heap.size ≤ w.heap.size + 1 by omega) 0 [.slice none 0 0, .int .i64 0, .int .i64 0]))

set_option maxRecDepth 100000 in
set_option maxHeartbeats 4000000 in
theorem specStartRep_any (A : Option Addr) (n c : Nat) (tm ld r : Int) (hs : List RH) (B : Nat) (w : World) (hn : hs.length = n) (h : RowsB KR w B A hs) (hB : B ≤ w.heap.size) (hm : RpSmall (hs.map rdat)) :
    Calls Try.prog 24 #[.agg #[.slice A n c, .int .i64 tm, .int .i64 ld], .int .i64 r] w (GAPost (startA tm ld (hs.map rdat) r) w) := by
  have hb0 := below2 w (.cells #[.slice A n c, .int .i64 tm, .int .i64 ld] 24) (.cells #[.slice none 0 0, .int .i64 0, .int .i64 0] 24)
  have ka0 := alloc2_a w (.cells #[.slice A n c, .int .i64 tm, .int .i64 ld] 24) (.cells #[.slice none 0 0, .int .i64 0, .int .i64 0] 24)
  have kb0 := alloc2_b w (.cells #[.slice A n c, .int .i64 tm, .int .i64 ld] 24) (.cells #[.slice none 0 0, .int .i64 0, .int .i64 0] 24)
  have HUP := Lib.hid (l9Up_any A n c tm ld r false hs B _ hn (h.below (hb0.mono hB)) (Nat.le_trans hB hb0.size) hm)
  have HOW := Lib.hid (fun W (hW : Below w.heap.size w W) => l9Own_any A n c tm ld hs B W hn (h.below (hW.mono hB)) (Nat.le_trans hB hW.size) hm)
  have HB0 := Lib.hid hb0
  have HKA := Lib.hid ka0
  have HKB := Lib.hid kb0
  have hza : w.heap.size < ((w.alloc (.cells #[.slice A n c, .int .i64 tm, .int .i64 ld] 24)).alloc (.cells #[.slice none 0 0, .int .i64 0, .int .i64 0] 24)).heap.size := by simp; omega
  have hzb : w.heap.size + 1 < ((w.alloc (.cells #[.slice A n c, .int .i64 tm, .int .i64 ld] 24)).alloc (.cells #[.slice none 0 0, .int .i64 0, .int .i64 0] 24)).heap.size := by simp
  clear hb0 ka0 kb0
  by_cases hg : grpB tm ld (hs.map rdat) = true ∧ (hasB (hs.map rdat).length r && !upAt (hs.map rdat) r.toNat) = true
  · have hx := hg.2
    rw [List.length_map, hn] at hx
    simp only [Bool.and_eq_true] at hx
    rw [show (grpB tm ld (hs.map rdat) && (hasB n r && (upAt (hs.map rdat) r.toNat == false))) = true by rw [hg.1, hx.1]; simpa using hx.2] at HUP
    rw [startA, if_pos hg, GAPost_un]
    obtain ⟨q, hq, hqn⟩ := hasB_nat hx.1
    subst hq
    rw [Int.toNat_natCast]
    have HN := Lib.hid hn
    have HSL := Lib.hid (show (setUp (hs.map rdat) q true).length = n by rw [setUp_len, List.length_map]; exact hn)
    have hq0 : (0 : Int) ≤ (q : Int) := by omega
    have hq1 : (q : Int) < (n : Int) := by omega
    clear hg hx h hm hn
    go_enter Try.func24, Try.ntmps24
    go_wp2_with fail
    (with_reducible refine HUP.out.mono ?_)
    rintro e w1 ⟨rfl, ha1⟩
    have HB1 := Lib.hid (HB0.out.trans (ha1.mono HB0.out.size))
    have ka1 := (ha1.block w.heap.size hza).trans HKA.out
    have kb1 := (ha1.block (w.heap.size + 1) hzb).trans HKB.out
    have hz1 : w.heap.size + 1 < w1.heap.size := Nat.lt_of_lt_of_le hzb ha1.size
    have hz0 : w.heap.size < w1.heap.size := by omega
    have a0 := cell_blk (i := 0) ka1 rfl
    have a1 := cell_blk (i := 1) ka1 rfl
    have a2 := cell_blk (i := 2) ka1 rfl
    have HKA1 := Lib.hid ka1
    have HKB1 := Lib.hid kb1
    clear ha1 ka1 kb1
    go_wp2_with fail
    (with_reducible refine (HOW.out _ HB1.out).mono ?_)
    rintro e w2 ⟨A2, c2, gs, rfl, hd2, ho2, ha2⟩
    have hgl : gs.length = n := (dats_len hd2).trans HN.out
    obtain ⟨g, cur, rfl, hg1, hg2, hgh, _⟩ := ho2.form (by omega)
    have hqg : q < gs.length := by omega
    have hcell : w2.cell? ⟨g, q * 3, none⟩ = some (.bool (gs[q]'hqg).up) := OwnK.cell ho2 q hqg 0 (by decide)
    have hfree := OwnK.free ho2 (by omega) (q * 3)
    have hz2 := ha2.size
    have hgz : g < w2.heap.size := hg2
    have hz02 : w.heap.size < w2.heap.size := by omega
    have hz12 : w.heap.size + 1 < w2.heap.size := by omega
    obtain ⟨U, hU⟩ : ∃ U, U = w2.setCell ⟨g, q * 3, none⟩ (.bool true) := ⟨_, rfl⟩
    have hzU : U.heap.size = w2.heap.size := by rw [hU]; simp [World.setCell]
    have hsu := own_upH ho2 q hqg true
    have kau := (Below.heap_setCell (w := w2) ⟨g, q * 3, none⟩ (.bool true) w.heap.size (by simp; omega)).trans ((ha2.block _ hz0).trans HKA1.out)
    have kbu := (Below.heap_setCell (w := w2) ⟨g, q * 3, none⟩ (.bool true) (w.heap.size + 1) (by simp; omega)).trans ((ha2.block _ hz1).trans HKB1.out)
    have hbu : Below w.heap.size w (w2.setCell ⟨g, q * 3, none⟩ (.bool true)) := (HB1.out.trans (ha2.mono HB1.out.size)).setCell (p := ⟨g, q * 3, none⟩) (show w.heap.size ≤ g by omega) _
    rw [← hU] at hsu kau kbu hbu
    have hbx := below1 U (.cells #[.slice (some ⟨g, 0, none⟩) n c2, .int .i64 tm, .int .i64 ld] 24)
    have hso := hsu.since hbx
    have ka3 := (hbx.block _ (lt_blk kau)).trans kau
    have kb3 := (hbx.block _ (lt_blk kbu)).trans kbu
    have k63 := heap_alloc_new U (.cells #[.slice (some ⟨g, 0, none⟩) n c2, .int .i64 tm, .int .i64 ld] 24)
    rw [hzU] at k63
    have hb3 := hbu.trans (hbx.mono (by omega))
    go_upto_region 5 with fail
    rw [← hU]
    obtain ⟨V, hV⟩ : ∃ V, V = U.alloc (.cells #[.slice (some ⟨g, 0, none⟩) n c2, .int .i64 tm, .int .i64 ld] 24) := ⟨_, rfl⟩
    rw [← hV] at hso ka3 kb3 k63 hb3 ⊢
    have hzV : V.heap.size = w2.heap.size + 1 := by rw [hV, ← hzU]; simp
    have HZV := Lib.hid hzV
    have HSO := Lib.hid hso
    have HB3 := Lib.hid hb3
    have HDD := Lib.hid (show (upH gs q true).map rdat = setUp (hs.map rdat) q true by rw [upH_map, hd2])
    have HZZ := Lib.hid (show w.heap.size + 1 < w1.heap.size ∧ w1.heap.size ≤ w2.heap.size from ⟨hz1, hz2⟩)
    have s2 := cell_blk (i := 2) ka3 rfl
    have t0 := cell_blk (i := 0) k63 rfl
    have t1 := cell_blk (i := 1) k63 rfl
    have t2 := cell_blk (i := 2) k63 rfl
    have ft := free_all k63
    have b0 := cell_blk (i := 0) kb3 rfl
    have b1 := cell_blk (i := 1) kb3 rfl
    have b2 := cell_blk (i := 2) kb3 rfl
    have fb := free_all kb3
    have n1 : w.heap.size + 1 ≠ w2.heap.size := by omega
    have n2 : w2.heap.size ≠ w.heap.size + 1 := by omega
    have l1 : w.heap.size + 1 < V.heap.size := by omega
    have l2 : w2.heap.size < V.heap.size := by omega
    have hlen : (upH gs q true).length = n := by rw [upH_len]; exact hgl
    clear hV hzV hso ka3 kb3 k63 hb3 hbx hU hzU hsu kau kbu hbu hcell hfree hgh hd2 ho2 ha2 a0 a1 a2 hz2 hgz
    go_wp2
    exact bodyPost_ret (v := .tuple #[.agg #[.slice (some ⟨g, 0, none⟩) n c2, .int .i64 tm, .int .i64 ld], .bool true]) (by simp [results, Try.results24, go_sem, *]) rfl ⟨some ⟨g, 0, none⟩, c2, upH gs q true, by rw [HSL.out], HDD.out,
      (HSO.out.keep (keep_putN (g := w.heap.size + 1) (.inl HZZ.out.1) 0 [.slice (some ⟨g, 0, none⟩) n c2, .int .i64 tm, .int .i64 ld])).wider (by have := HZZ.out; omega) (by simp [World.setCell]; have := HZV.out; omega),
      below_putN HB3.out (show w.heap.size ≤ w.heap.size + 1 by omega) 0 [.slice (some ⟨g, 0, none⟩) n c2, .int .i64 tm, .int .i64 ld]⟩
  · rw [show (grpB tm ld (hs.map rdat) && (hasB n r && (upAt (hs.map rdat) r.toNat == false))) = false by
      rw [Bool.eq_false_iff]
      intro hc
      simp only [Bool.and_eq_true] at hc
      exact hg ⟨hc.1, by rw [List.length_map, hn, hc.2.1]; simpa using hc.2.2⟩] at HUP
    rw [startA, if_neg hg]
    clear hg h hm hn
    go_enter Try.func24, Try.ntmps24
    go_wp2_with fail
    (with_reducible refine HUP.out.mono ?_)
    rintro e w1 ⟨rfl, ha1⟩
    have HB1 := Lib.hid (HB0.out.trans (ha1.mono HB0.out.size))
    have ka1 := (ha1.block w.heap.size hza).trans HKA.out
    have kb1 := (ha1.block (w.heap.size + 1) hzb).trans HKB.out
    have hz1 : w.heap.size + 1 < w1.heap.size := Nat.lt_of_lt_of_le hzb ha1.size
    have hz0 : w.heap.size < w1.heap.size := by omega
    have b0 := cell_blk (i := 0) kb1 rfl
    have b1 := cell_blk (i := 1) kb1 rfl
    have b2 := cell_blk (i := 2) kb1 rfl
    have fb := free_all kb1
    clear ha1 ka1 kb1
    go_wp2
    exact bodyPost_ret (v := .tuple #[.agg #[.slice none 0 0, .int .i64 0, .int .i64 0], .bool false]) (by simp [results, Try.results24, go_sem, *]) rfl (noGA_post (below_putN HB1.out (show w.heap.size ≤ w.heap.size + 1 by omega) 0 [.slice none 0 0, .int .i64 0, .int .i64 0]))
end Go.Proofs.Ytnmhigbnlpcedaa.Gr
