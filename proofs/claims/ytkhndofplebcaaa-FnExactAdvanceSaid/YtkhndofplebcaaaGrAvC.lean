/-
  Contracts for Advance of the program.
-/
import Derived.Test.YtkhndofplebcaaaGrAvI
import Derived.Test.YtkhndofplebcaaaGrOw
import Derived.Test.YtkhndofplebcaaaGrCrI
import Derived.Deep.RegionHeld3
import Derived.Deep.RegionWith
namespace Go.Proofs.Ytkhndofplebcaaa.Gr
open Go.RowKit CM
set_option linter.unusedVariables false
set_option linter.unusedSimpArgs false

set_option maxRecDepth 100000 in
set_option maxHeartbeats 8000000 in
theorem advance_any (A : Option Addr) (n c b0 lo hi : Nat) (tm ld : Int) (gs : List RH) (w : World) (hn : gs.length = n) (ho : OwnK KR w lo hi A c gs) (hk : w.heap[b0]? = some (.cells #[.slice A n c, .int .i64 tm, .int .i64 ld] 45 (0, 0))) (hlo : lo ≤ w.heap.size) (hb : hi ≤ b0) (hlh : lo ≤ hi) (hl : n ≤ 1048576) (hm : RpSmall (gs.map rdat)) (hg : grpB tm ld (gs.map rdat) = true) :
    Calls Try.prog 80 #[.pointer (some ⟨b0, 0, none⟩)] w (ChPost (decide (ld ≠ -1)) (setSu (gs.map rdat) ld.toNat (advV tm (gs.map rdat) ld.toNat : Nat)) tm ld b0 lo hi n c A w) := by
  have hbw := lt_blk hk
  have hhi : hi ≤ w.heap.size := by omega
  have k0 := cell_blk (i := 0) hk rfl
  have k1 := cell_blk (i := 1) hk rfl
  have k2 := cell_blk (i := 2) hk rfl
  have HHL := Lib.hid (fun W => hasLeader_any A n c tm ld W)
  by_cases hld : ld = -1
  · subst hld
    unfold ChPost
    simp only [ne_eq, not_true_eq_false, decide_false, Bool.false_eq_true, false_implies, and_true]
    rw [show ((-1 : Int) != -1) = false from rfl] at HHL
    clear ho hk hm hg hn
    go_enter Try.func80, Try.ntmps80
    go_wp2_with fail
    refine (HHL.out _).mono ?_
    rintro e w1 ⟨rfl, ha1⟩
    have HLB := Lib.hid (ha1.mono hlo)
    clear ha1 k0 k1 k2
    go_wp2
    go_ret
    exact ⟨rfl, HLB.out⟩
  · obtain ⟨q, hq, hqn⟩ := lead_of hg hld
    rw [List.length_map] at hqn
    subst hq
    rw [Int.toNat_natCast, decide_eq_true hld]
    unfold ChPost
    obtain ⟨g, cur, rfl, hg1, hg2, _⟩ := ho.form (by omega)
    have hq0 : (0 : Int) ≤ (q : Int) := by omega
    have hq1 : (q : Int) < (n : Int) := by omega
    have hsu := sure_of hg q (by simpa using hqn)
    rw [r_at hqn] at hsu
    have hlg := lead_log hg q (by simpa using hqn)
    rw [logOf_map hqn] at hlg
    obtain ⟨v, hv⟩ : ∃ v, v = advV tm (gs.map rdat) q := ⟨_, rfl⟩
    rw [← hv]
    have HCM := Lib.hid (fun W (hW : Below w.heap.size w W) => committed_any (some ⟨g, 0, none⟩) n c tm q gs hi W hn (ho.rows.below (hW.mono hhi)) (Nat.le_trans hhi hW.size) hm hqn (by simpa [rdat] using hsu) hlg v hv)
    have HO := Lib.hid ho
    have HK := Lib.hid hk
    have HQ := Lib.hid hqn
    have r2 : w.cell? ⟨g, q * 3 + 2, none⟩ = some (.int .i64 gs[q].su) := ho.cell q hqn 2 (by decide)
    have R2 := Lib.hid r2
    have FR := Lib.hid (fun i => ho.free (by omega) i)
    have hgl : g < w.heap.size := ho.bounds.2.2
    obtain ⟨su, hsu'⟩ : ∃ su, su = gs[q].su := ⟨_, rfl⟩
    rw [← hsu'] at R2
    rw [show ((q : Int) != -1) = true by simp] at HHL
    clear ho hk hm hg hn hld hqn hsu hlg hv r2 hsu'
    go_enter Try.func80, Try.ntmps80
    go_wp2_with fail
    refine (HHL.out _).mono ?_
    rintro e w1 ⟨rfl, ha1⟩
    have kk := (ha1.block b0 hbw).trans HK.out
    have x0 := cell_blk (i := 0) kk rfl
    have x1 := cell_blk (i := 1) kk rfl
    have x2 := cell_blk (i := 2) kk rfl
    have xl := lt_blk kk
    have r2 := (ha1.cell (p := ⟨g, q * 3 + 2, none⟩) hgl).trans R2.out
    have hgl1 : g < w1.heap.size := Nat.lt_of_lt_of_le hgl ha1.size
    have HCC := Lib.hid (fun W (hW : Below w1.heap.size w1 W) => HCM.out W (ha1.trans (hW.mono ha1.size)))
    have HA1 := Lib.hid ha1
    clear k0 k1 k2 kk ha1
    go_wp2_with fail
    go_region_law (go_simp; go_at_call 125; (with_reducible refine (HCC.out _ ?_).mono ?_); (exact ((Below.refl _ _).drew)); rintro e w2 ⟨rfl, hb2⟩; have hb3 : Below w1.heap.size w1 w2 := ⟨hb2.os, hb2.tape, hb2.output, hb2.size, hb2.block⟩; have hb4 := HA1.out.trans (hb3.mono HA1.out.size); have kk := (hb4.block b0 hbw).trans HK.out; have y0 := cell_blk (i := 0) kk rfl; have y1 := cell_blk (i := 1) kk rfl; have y2 := cell_blk (i := 2) kk rfl; have yl := lt_blk kk; have r3 := (hb4.cell (p := ⟨g, q * 3 + 2, none⟩) hgl).trans R2.out; have ow := HO.out.since hb4; have fr := fun i => ow.free (by have := HQ.out; omega) i; have hgl2 : g < w2.heap.size := Nat.lt_of_lt_of_le hgl hb4.size; have HB4 := Lib.hid hb4; have HKK := Lib.hid kk; have HOW := Lib.hid ow; clear hb2 hb3 hb4 kk ow)
    all_goals (
      go_wp2
      go_ret
      refine ⟨rfl, (HB4.out.mono hlo).setCell (p := ⟨g, q * 3 + 2, none⟩) hg1 _, fun _ => ⟨suH gs q v, suH_map gs q v, own_suH HOW.out q HQ.out v, ?_⟩⟩
      exact (Below.heap_setCell _ _ _ _ (by show b0 ≠ g; omega)).trans HKK.out)

set_option maxRecDepth 100000 in
set_option maxHeartbeats 4000000 in
theorem changeAdvance_any (A : Option Addr) (n c : Nat) (tm ld : Int) (hs : List RH) (B : Nat) (w : World) (hn : hs.length = n) (h : RowsB KR w B A hs) (hB : B ≤ w.heap.size) (hm : RpSmall (hs.map rdat)) :
    Calls Try.prog 64 #[.agg #[.slice A n c, .int .i64 tm, .int .i64 ld], .func (Fn.func 80) #[] #[]] w (GAPost (advA tm ld (hs.map rdat)) w) := by
  have hb0 := below2 w (.cells #[.slice A n c, .int .i64 tm, .int .i64 ld] 45) (.cells #[.slice none 0 0, .int .i64 0, .int .i64 0] 45)
  have ka0 := alloc2_a w (.cells #[.slice A n c, .int .i64 tm, .int .i64 ld] 45) (.cells #[.slice none 0 0, .int .i64 0, .int .i64 0] 45)
  have kb0 := alloc2_b w (.cells #[.slice A n c, .int .i64 tm, .int .i64 ld] 45) (.cells #[.slice none 0 0, .int .i64 0, .int .i64 0] 45)
  have hl : n ≤ 1048576 := by have := hm.1; simp at this; omega
  have HGG := Lib.hid (implGoodGroup_any A n c tm ld hs B _ hn (h.below (hb0.mono hB)) (Nat.le_trans hB hb0.size) hm)
  have HCG := Lib.hid (fun W (hW : Below w.heap.size w W) => copyGroup_any A n c tm ld hs B W hn (h.below (hW.mono hB)) (Nat.le_trans hB hW.size) hm)
  have HB0 := Lib.hid hb0
  have HKA := Lib.hid ka0
  have HKB := Lib.hid kb0
  have HN := Lib.hid hn
  have hza : w.heap.size < ((w.alloc (.cells #[.slice A n c, .int .i64 tm, .int .i64 ld] 45)).alloc (.cells #[.slice none 0 0, .int .i64 0, .int .i64 0] 45)).heap.size := by simp; omega
  have hzb : w.heap.size + 1 < ((w.alloc (.cells #[.slice A n c, .int .i64 tm, .int .i64 ld] 45)).alloc (.cells #[.slice none 0 0, .int .i64 0, .int .i64 0] 45)).heap.size := by simp
  clear hb0 ka0 kb0
  cases hg : grpB tm ld (hs.map rdat) with
  | false =>
    rw [hg] at HGG
    rw [advA_no (.inl hg)]
    clear hg h hm hn
    go_enter Try.func64, Try.ntmps64
    go_wp2_with fail
    (with_reducible refine HGG.out.mono ?_)
    rintro e w1 ⟨rfl, ha1⟩
    have HB1 := Lib.hid (HB0.out.trans (ha1.mono HB0.out.size))
    have ka1 := (ha1.block w.heap.size hza).trans HKA.out
    have kb1 := (ha1.block (w.heap.size + 1) hzb).trans HKB.out
    have hz1 : w.heap.size + 1 < w1.heap.size := Nat.lt_of_lt_of_le hzb ha1.size
    have hz0 : w.heap.size < w1.heap.size := by omega
    have b0 := cell_blk (i := 0) kb1 rfl
    have b1 := cell_blk (i := 1) kb1 rfl
    have b2 := cell_blk (i := 2) kb1 rfl
    have fb := free_all kb1
    clear ha1 ka1 kb1
    go_wp2
    exact bodyPost_ret (v := .tuple #[.agg #[.slice none 0 0, .int .i64 0, .int .i64 0], .bool false]) (by simp [results, Try.results64, go_sem, *]) rfl (noGA_post (below_putN HB1.out (show w.heap.size ≤ w.heap.size + 1 by omega) 0 [.slice none 0 0, .int .i64 0, .int .i64 0]))
  | true =>
    rw [hg] at HGG
    have HTM := Lib.hid (fun (gs : List RH) (hd2 : gs.map rdat = hs.map rdat) => (show grpB tm ld (gs.map rdat) = true by rw [hd2]; exact hg))
    have HLZ := Lib.hid (fun (gs : List RH) (hd2 : gs.map rdat = hs.map rdat) => (show RpSmall (gs.map rdat) by rw [hd2]; exact hm))
    cases hy : (decide (ld ≠ -1)) with
    | false =>
      rw [advA_no (.inr (by simpa using hy))]
      have HYES := Lib.hid hy
      clear hg hy h hm hn
      go_enter Try.func64, Try.ntmps64
      go_wp2_with fail
      (with_reducible refine HGG.out.mono ?_)
      rintro e w1 ⟨rfl, ha1⟩
      have HB1 := Lib.hid (HB0.out.trans (ha1.mono HB0.out.size))
      have ka1 := (ha1.block w.heap.size hza).trans HKA.out
      have kb1 := (ha1.block (w.heap.size + 1) hzb).trans HKB.out
      have hz1 : w.heap.size + 1 < w1.heap.size := Nat.lt_of_lt_of_le hzb ha1.size
      have hz0 : w.heap.size < w1.heap.size := by omega
      have a0 := cell_blk (i := 0) ka1 rfl
      have a1 := cell_blk (i := 1) ka1 rfl
      have a2 := cell_blk (i := 2) ka1 rfl
      have HKB1 := Lib.hid kb1
      clear ha1 ka1 kb1
      go_wp2_with fail
      (with_reducible refine (HCG.out _ HB1.out).mono ?_)
      rintro e w2 ⟨A2, c2, gs, rfl, hd2, ho2, ha2⟩
      have hgl : gs.length = n := (dats_len hd2).trans HN.out
      have hbx := below1 w2 (.cells #[.slice A2 n c2, .int .i64 tm, .int .i64 ld] 45)
      have hz2 := ha2.size
      have k6 := heap_alloc_new w2 (.cells #[.slice A2 n c2, .int .i64 tm, .int .i64 ld] 45)
      have hb2 := HB1.out.trans (ha2.mono HB1.out.size)
      have hb3 := hb2.trans (hbx.mono hb2.size)
      have HCL := Lib.hid (advance_any A2 n c2 w2.heap.size w1.heap.size w2.heap.size tm ld gs (w2.alloc (.cells #[.slice A2 n c2, .int .i64 tm, .int .i64 ld] 45)) hgl (ho2.since hbx) k6 (by simp; omega) (Nat.le_refl _) hz2 hl (HLZ.out gs hd2) (HTM.out gs hd2))
      rw [hd2, HYES.out] at HCL
      unfold ChPost at HCL
      have HKB3 := Lib.hid ((hbx.block _ (Nat.lt_of_lt_of_le hz1 hz2)).trans ((ha2.block _ hz1).trans HKB1.out))
      have HB3 := Lib.hid hb3
      have HZZ := Lib.hid (show w.heap.size + 1 < w1.heap.size ∧ w1.heap.size ≤ w2.heap.size ∧ w2.heap.size < (w2.alloc (.cells #[.slice A2 n c2, .int .i64 tm, .int .i64 ld] 45)).heap.size from ⟨hz1, hz2, by simp⟩)
      clear a0 a1 a2 hgl hbx k6 hb2 hb3 hd2 ho2 ha2
      go_wp2_with fail
      (with_reducible refine HCL.out.mono ?_)
      rintro e w3 ⟨rfl, hb3, h3⟩
      have kb3 := (hb3.block (w.heap.size + 1) HZZ.out.1).trans HKB3.out
      have b0 := cell_blk (i := 0) kb3 rfl
      have b1 := cell_blk (i := 1) kb3 rfl
      have b2 := cell_blk (i := 2) kb3 rfl
      have fb := free_all kb3
      have lb := lt_blk kb3
      have hzz3 := hb3.size
      have HB4 := Lib.hid (show Below w.heap.size w w3 from HB3.out.trans (hb3.mono (by omega)))
      clear hb3 kb3 h3
      go_wp2
      exact bodyPost_ret (v := .tuple #[.agg #[.slice none 0 0, .int .i64 0, .int .i64 0], .bool false]) (by simp [results, Try.results64, go_sem, *]) rfl (noGA_post (below_putN HB4.out (show w.heap.size ≤ w.heap.size + 1 by omega) 0 [.slice none 0 0, .int .i64 0, .int .i64 0]))
    | true =>
      have hyy : advA tm ld (hs.map rdat) = (setSu (hs.map rdat) ld.toNat (advV tm (hs.map rdat) ld.toNat : Nat), tm, ld, true) := by unfold advA; rw [if_pos ⟨hg, by simpa using hy⟩]
      rw [hyy, GAPost_un]
      rw [setSu_len]
      have HSL := Lib.hid (show (hs.map rdat).length = n by rw [List.length_map]; exact hn)
      have HYES := Lib.hid hy
      skip
      skip
      clear hyy hg hy h hm hn
      go_enter Try.func64, Try.ntmps64
      go_wp2_with fail
      (with_reducible refine HGG.out.mono ?_)
      rintro e w1 ⟨rfl, ha1⟩
      have HB1 := Lib.hid (HB0.out.trans (ha1.mono HB0.out.size))
      have ka1 := (ha1.block w.heap.size hza).trans HKA.out
      have kb1 := (ha1.block (w.heap.size + 1) hzb).trans HKB.out
      have hz1 : w.heap.size + 1 < w1.heap.size := Nat.lt_of_lt_of_le hzb ha1.size
      have hz0 : w.heap.size < w1.heap.size := by omega
      have a0 := cell_blk (i := 0) ka1 rfl
      have a1 := cell_blk (i := 1) ka1 rfl
      have a2 := cell_blk (i := 2) ka1 rfl
      have HKB1 := Lib.hid kb1
      clear ha1 ka1 kb1
      go_wp2_with fail
      (with_reducible refine (HCG.out _ HB1.out).mono ?_)
      rintro e w2 ⟨A2, c2, gs, rfl, hd2, ho2, ha2⟩
      have hgl : gs.length = n := (dats_len hd2).trans HN.out
      have hbx := below1 w2 (.cells #[.slice A2 n c2, .int .i64 tm, .int .i64 ld] 45)
      have hz2 := ha2.size
      have k6 := heap_alloc_new w2 (.cells #[.slice A2 n c2, .int .i64 tm, .int .i64 ld] 45)
      have hb2 := HB1.out.trans (ha2.mono HB1.out.size)
      have hb3 := hb2.trans (hbx.mono hb2.size)
      have HCL := Lib.hid (advance_any A2 n c2 w2.heap.size w1.heap.size w2.heap.size tm ld gs (w2.alloc (.cells #[.slice A2 n c2, .int .i64 tm, .int .i64 ld] 45)) hgl (ho2.since hbx) k6 (by simp; omega) (Nat.le_refl _) hz2 hl (HLZ.out gs hd2) (HTM.out gs hd2))
      rw [hd2, HYES.out] at HCL
      unfold ChPost at HCL
      have HKB3 := Lib.hid ((hbx.block _ (Nat.lt_of_lt_of_le hz1 hz2)).trans ((ha2.block _ hz1).trans HKB1.out))
      have HB3 := Lib.hid hb3
      have HZZ := Lib.hid (show w.heap.size + 1 < w1.heap.size ∧ w1.heap.size ≤ w2.heap.size ∧ w2.heap.size < (w2.alloc (.cells #[.slice A2 n c2, .int .i64 tm, .int .i64 ld] 45)).heap.size from ⟨hz1, hz2, by simp⟩)
      clear a0 a1 a2 hgl hbx k6 hb2 hb3 hd2 ho2 ha2
      go_wp2_with fail
      (with_reducible refine HCL.out.mono ?_)
      rintro e w3 ⟨rfl, hb3, h3⟩
      have kb3 := (hb3.block (w.heap.size + 1) HZZ.out.1).trans HKB3.out
      have b0 := cell_blk (i := 0) kb3 rfl
      have b1 := cell_blk (i := 1) kb3 rfl
      have b2 := cell_blk (i := 2) kb3 rfl
      have fb := free_all kb3
      have lb := lt_blk kb3
      have hzz3 := hb3.size
      obtain ⟨gs3, hd3, ho3, k63⟩ := h3 (by trivial)
      skip
      have t0 := cell_blk (i := 0) k63 rfl
      have t1 := cell_blk (i := 1) k63 rfl
      have t2 := cell_blk (i := 2) k63 rfl
      have tl := lt_blk k63
      have HD3 := Lib.hid hd3
      have HO3 := Lib.hid ho3
      have HB4 := Lib.hid (show Below w.heap.size w w3 from HB3.out.trans (hb3.mono (by omega)))
      clear hb3 kb3 h3 hd3 ho3 k63
      go_wp2
      exact bodyPost_ret (v := .tuple #[.agg #[.slice A2 n c2, .int .i64 tm, .int .i64 ld], .bool true]) (by simp [results, Try.results64, go_sem, *]) rfl ⟨A2, c2, gs3, by rw [HSL.out], HD3.out,
        (HO3.out.keep (keep_putN (g := w.heap.size + 1) (.inl HZZ.out.1) 0 [.slice A2 n c2, .int .i64 tm, .int .i64 ld])).wider (by have := HZZ.out; omega) (by simp [World.setCell]; have := HZZ.out; omega),
        below_putN HB4.out (show w.heap.size ≤ w.heap.size + 1 by omega) 0 [.slice A2 n c2, .int .i64 tm, .int .i64 ld]⟩
set_option maxRecDepth 100000 in
set_option maxHeartbeats 4000000 in
theorem implAdvance_any (A : Option Addr) (n c : Nat) (tm ld : Int) (hs : List RH) (B : Nat) (w : World) (hn : hs.length = n) (h : RowsB KR w B A hs) (hB : B ≤ w.heap.size) (hm : RpSmall (hs.map rdat)) :
    Calls Try.prog 37 #[.agg #[.slice A n c, .int .i64 tm, .int .i64 ld]] w (GAPost (advA tm ld (hs.map rdat)) w) := by
  have hb0 := below2 w (.cells #[.slice A n c, .int .i64 tm, .int .i64 ld] 45) (.cells #[.slice none 0 0, .int .i64 0, .int .i64 0] 45)
  have kz := alloc2_b w (.cells #[.slice A n c, .int .i64 tm, .int .i64 ld] 45) (.cells #[.slice none 0 0, .int .i64 0, .int .i64 0] 45)
  have HC := Lib.hid (changeAdvance_any A n c tm ld hs B _ hn (h.below (hb0.mono hB)) (Nat.le_trans hB hb0.size) hm)
  obtain ⟨⟨l, at_, al, ok⟩, hans⟩ : ∃ a, a = advA tm ld (hs.map rdat) := ⟨_, rfl⟩
  rw [← hans] at HC ⊢
  rw [GAPost_un] at HC ⊢
  have HB0 := Lib.hid hb0
  have HKZ := Lib.hid kz
  have hzz : w.heap.size + 1 < ((w.alloc (.cells #[.slice A n c, .int .i64 tm, .int .i64 ld] 45)).alloc (.cells #[.slice none 0 0, .int .i64 0, .int .i64 0] 45)).heap.size := by simp
  clear hb0 kz hans h hm hn
  go_enter Try.func37, Try.ntmps37
  go_wp2_with fail
  (with_reducible refine HC.out.mono ?_)
  rintro e w1 ⟨A1, c1, gs, rfl, hd1, ho1, ha1⟩
  have kz1 := (ha1.block (w.heap.size + 1) hzz).trans HKZ.out
  have z0 := cell_blk (i := 0) kz1 rfl
  have z1 := cell_blk (i := 1) kz1 rfl
  have z2 := cell_blk (i := 2) kz1 rfl
  have fz := free_all kz1
  have zl := lt_blk kz1
  have HB1 := Lib.hid (HB0.out.trans (ha1.mono HB0.out.size))
  have HO1 := Lib.hid ho1
  have HD1 := Lib.hid hd1
  obtain ⟨nl, hnl⟩ : ∃ nl, nl = l.length := ⟨_, rfl⟩
  rw [← hnl]
  have HNL := Lib.hid hnl
  clear kz1 ha1 ho1 hd1 hnl
  go_wp2
  exact bodyPost_ret (v := .tuple #[.agg #[.slice A1 nl c1, .int .i64 at_, .int .i64 al], .bool ok]) (by simp [results, Try.results37, go_sem, *]) rfl ⟨A1, c1, gs, by rw [HNL.out], HD1.out,
    (HO1.out.keep (keep_putN (g := w.heap.size + 1) (.inl hzz) 0 [.slice A1 nl c1, .int .i64 at_, .int .i64 al])).wider HB0.out.size (by simp [World.setCell]),
    below_putN HB1.out (show w.heap.size ≤ w.heap.size + 1 by omega) 0 [.slice A1 nl c1, .int .i64 at_, .int .i64 al]⟩
end Go.Proofs.Ytkhndofplebcaaa.Gr
