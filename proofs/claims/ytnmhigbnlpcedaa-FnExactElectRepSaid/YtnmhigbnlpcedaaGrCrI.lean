/-
  Contracts for CrashRep and StartRep of the program: the change through a pointer, its closure, changeGroup.
-/
import Derived.Test.YtnmhigbnlpcedaaGrChM
import Derived.Test.YtnmhigbnlpcedaaGrOw
import Derived.Test.YtnmhigbnlpcedaaGrGd
namespace Go.Proofs.Ytnmhigbnlpcedaa.Gr
open Go.RowKit CM
set_option linter.unusedVariables false
set_option linter.unusedSimpArgs false

/-- What a change through a pointer leaves: refused, or done. -/
def ChPost (yes : Bool) (vs : List RD) (tm ld' : Int) (b0 lo hi n c : Nat) (A : Option Addr) (w : World) (e : Ending) (w' : World) : Prop :=
  e = .returned (.bool yes) ∧ Below lo w w' ∧ (yes = true → ∃ gs', gs'.map rdat = vs ∧ OwnK KR w' lo hi A c gs' ∧ w'.heap[b0]? = some (.cells #[.slice A n c, .int .i64 tm, .int .i64 ld'] 24 (0, 0)))

set_option maxRecDepth 100000 in
set_option maxHeartbeats 4000000 in
theorem crashRep_any (A : Option Addr) (n c b0 lo hi : Nat) (tm ld r : Int) (gs : List RH) (w : World) (hn : gs.length = n) (ho : OwnK KR w lo hi A c gs) (hk : w.heap[b0]? = some (.cells #[.slice A n c, .int .i64 tm, .int .i64 ld] 24 (0, 0))) (hlo : lo ≤ w.heap.size) (hb : hi ≤ b0) (hlh : lo ≤ hi) (hl : n ≤ 1048576) :
    Calls Try.prog 60 #[.pointer (some ⟨b0, 0, none⟩), .int .i64 r] w (ChPost (isUpB (gs.map rdat) r) (setUp (gs.map rdat) r.toNat false) tm (if ld = r then -1 else ld) b0 lo hi n c A w) := by
  have hbw := lt_blk hk
  have hhi : hi ≤ w.heap.size := by omega
  have HU := Lib.hid (fun W (hW : Below w.heap.size w W) => isUp_any A n c tm ld r gs hi W hn (ho.rows.below (hW.mono hhi)) (Nat.le_trans hhi hW.size) hl)
  cases hu : isUpB (gs.map rdat) r with
  | false =>
    rw [hu] at HU
    unfold ChPost
    simp only [Bool.false_and, Bool.false_eq_true, false_implies, and_true]
    clear hu
    have k0 := cell_blk (i := 0) hk rfl
    have k1 := cell_blk (i := 1) hk rfl
    have k2 := cell_blk (i := 2) hk rfl
    go_enter Try.func60, Try.ntmps60
    go_wp2_with fail
    (with_reducible refine (HU.out _ (Below.refl _ _)).mono ?_)
    rintro e w1 ⟨rfl, ha1⟩
    have HB := Lib.hid (ha1.mono hlo)
    clear ha1 k0 k1 k2
    go_wp2
    go_ret
    exact ⟨rfl, HB.out⟩
  | true =>
    rw [hu] at HU
    obtain ⟨q, hq, hqn⟩ := hasB_nat (by unfold isUpB at hu; rw [List.length_map, hn] at hu; simp only [Bool.and_eq_true] at hu; exact hu.1)
    subst hq
    rw [Int.toNat_natCast]
    have hqg : q < gs.length := by omega
    obtain ⟨g, cur, rfl, hg1, hg2, _⟩ := ho.form (by omega)
    have hq0 : (0 : Int) ≤ (q : Int) := by omega
    have hq1 : (q : Int) < (n : Int) := by omega
    obtain ⟨lv, hlv⟩ : ∃ lv, lv = if ld = (q : Int) then -1 else ld := ⟨_, rfl⟩
    rw [← hlv]
    have HLV := Lib.hid hlv
    unfold ChPost
    simp only [true_implies]
    clear hlv hu
    have k0 := cell_blk (i := 0) hk rfl
    have k1 := cell_blk (i := 1) hk rfl
    have k2 := cell_blk (i := 2) hk rfl
    go_enter Try.func60, Try.ntmps60
    go_wp2_with fail
    (with_reducible refine (HU.out _ (Below.refl _ _)).mono ?_)
    rintro e w1 ⟨rfl, ha1⟩
    have ho1 := ho.since ha1
    have hk1 := (ha1.block b0 hbw).trans hk
    have hcell : w1.cell? ⟨g, q * 3, none⟩ = some (.bool (gs[q]'hqg).up) := OwnK.cell ho1 q hqg 0 (by decide)
    have hfree := OwnK.free ho1 (by omega) (q * 3)
    have x0 := cell_blk (i := 0) hk1 rfl
    have x2 := cell_blk (i := 2) hk1 rfl
    have xf := free_all hk1
    have hgz : g < w1.heap.size := by have := ha1.size; omega
    have hbz : b0 < w1.heap.size := lt_blk hk1
    have hgb : g ≠ b0 := by omega
    have hbg : b0 ≠ g := by omega
    have HO2 := Lib.hid (own_upH ho1 q hqg false)
    have HK2 := Lib.hid ((Below.heap_setCell (w := w1) ⟨g, q * 3, none⟩ (.bool false) b0 (by simp; omega)).trans hk1)
    have HB2 := Lib.hid ((ha1.mono hlo).setCell (p := ⟨g, q * 3, none⟩) (show lo ≤ g from hg1) (.bool false))
    have HDX := Lib.hid (show (upH gs q false).map rdat = setUp (gs.map rdat) q false from upH_map _ _ _)
    have HIB := Lib.hid (show hi ≤ b0 from hb)
    have HLB := Lib.hid (show lo ≤ b0 by omega)
    clear ha1 k0 k1 k2 ho1 hk1 ho hk
    by_cases hlr : ld = (q : Int)
    · have e1 : (ld == (q : Int)) = true := by simp [hlr]
      have hl2 := HLV.out
      rw [if_pos hlr] at hl2
      have HF := Lib.hid hl2
      clear hlr hl2
      go_wp2
      go_ret
      exact ⟨rfl, HB2.out.setCell (p := ⟨b0, 2, none⟩) HLB.out _, upH gs q false, HDX.out, HO2.out.keep (keep_set (p := ⟨b0, 2, none⟩) (.inr HIB.out) _), by have h7 := set_blk HK2.out (i := 2) (.int .i64 (-1)); rw [HF.out]; exact h7⟩
    · have e1 : (ld == (q : Int)) = false := by simp [hlr]
      have hl2 := HLV.out
      rw [if_neg hlr] at hl2
      have HF := Lib.hid hl2
      clear hlr hl2
      go_wp2
      go_ret
      exact ⟨rfl, HB2.out, upH gs q false, HDX.out, HO2.out, by rw [HF.out]; exact HK2.out⟩

set_option maxHeartbeats 1000000 in
theorem crashRep_fn (A : Option Addr) (n c b0 lo hi pb : Nat) (tm ld r : Int) (gs : List RH) (w : World) (hr : w.cell? ⟨pb, 0, none⟩ = some (.int .i64 r)) (hn : gs.length = n) (ho : OwnK KR w lo hi A c gs) (hk : w.heap[b0]? = some (.cells #[.slice A n c, .int .i64 tm, .int .i64 ld] 24 (0, 0))) (hlo : lo ≤ w.heap.size) (hb : hi ≤ b0) (hlh : lo ≤ hi) (hl : n ≤ 1048576) :
    Calls Try.prog 59 #[.pointer (some ⟨b0, 0, none⟩), .pointer (some ⟨pb, 0, none⟩)] w (ChPost (isUpB (gs.map rdat) r) (setUp (gs.map rdat) r.toNat false) tm (if ld = r then -1 else ld) b0 lo hi n c A w) := by
  have HC := Lib.hid (crashRep_any A n c b0 lo hi tm ld r gs w hn ho hk hlo hb hlh hl)
  obtain ⟨lv, hlv⟩ : ∃ lv, lv = (if ld = r then -1 else ld) := ⟨_, rfl⟩
  rw [← hlv] at HC ⊢
  obtain ⟨yy, hyy⟩ : ∃ yy, yy = (isUpB (gs.map rdat) r) := ⟨_, rfl⟩
  rw [← hyy] at HC ⊢
  unfold ChPost at HC ⊢
  clear hn ho hk hlo hb hlh hl hyy hlv
  go_enter Try.func59, Try.ntmps59
  go_wp2_with fail
  (with_reducible refine HC.out.mono ?_)
  rintro e w1 ⟨rfl, hb1, h1⟩
  have HR := Lib.hid (And.intro hb1 h1)
  clear hb1 h1
  go_wp2
  go_ret
  exact ⟨rfl, HR.out.1, HR.out.2⟩

set_option maxRecDepth 100000 in
set_option maxHeartbeats 4000000 in
theorem changeCrashRep_any (A : Option Addr) (n c pb : Nat) (tm ld r : Int) (hs : List RH) (B : Nat) (w : World) (hn : hs.length = n) (h : RowsB KR w B A hs) (hB : B ≤ w.heap.size) (hm : RpSmall (hs.map rdat)) (hr : w.cell? ⟨pb, 0, none⟩ = some (.int .i64 r)) (hpb : pb < w.heap.size) :
    Calls Try.prog 58 #[.agg #[.slice A n c, .int .i64 tm, .int .i64 ld], .func (Fn.func 59) #[] #[.pointer (some ⟨pb, 0, none⟩)]] w (GAPost (crashA tm ld (hs.map rdat) r) w) := by
  have hb0 := below2 w (.cells #[.slice A n c, .int .i64 tm, .int .i64 ld] 24) (.cells #[.slice none 0 0, .int .i64 0, .int .i64 0] 24)
  have ka0 := alloc2_a w (.cells #[.slice A n c, .int .i64 tm, .int .i64 ld] 24) (.cells #[.slice none 0 0, .int .i64 0, .int .i64 0] 24)
  have kb0 := alloc2_b w (.cells #[.slice A n c, .int .i64 tm, .int .i64 ld] 24) (.cells #[.slice none 0 0, .int .i64 0, .int .i64 0] 24)
  have hl : n ≤ 1048576 := by have := hm.1; simp at this; omega
  have HGG := Lib.hid (implGoodGroup_any A n c tm ld hs B _ hn (h.below (hb0.mono hB)) (Nat.le_trans hB hb0.size) hm)
  have HCG := Lib.hid (fun W (hW : Below w.heap.size w W) => copyGroup_any A n c tm ld hs B W hn (h.below (hW.mono hB)) (Nat.le_trans hB hW.size) hm)
  have HB0 := Lib.hid hb0
  have HKA := Lib.hid ka0
  have HKB := Lib.hid kb0
  have HN := Lib.hid hn
  have hza : w.heap.size < ((w.alloc (.cells #[.slice A n c, .int .i64 tm, .int .i64 ld] 24)).alloc (.cells #[.slice none 0 0, .int .i64 0, .int .i64 0] 24)).heap.size := by simp; omega
  have hzb : w.heap.size + 1 < ((w.alloc (.cells #[.slice A n c, .int .i64 tm, .int .i64 ld] 24)).alloc (.cells #[.slice none 0 0, .int .i64 0, .int .i64 0] 24)).heap.size := by simp
  clear hb0 ka0 kb0
  cases hg : grpB tm ld (hs.map rdat) with
  | false =>
    rw [hg] at HGG
    rw [crashA_no (.inl hg)]
    clear hg h hm hn
    go_enter Try.func58, Try.ntmps58
    go_wp2_with fail
    (with_reducible refine HGG.out.mono ?_)
    rintro e w1 ⟨rfl, ha1⟩
    have HB1 := Lib.hid (HB0.out.trans (ha1.mono HB0.out.size))
    have ka1 := (ha1.block w.heap.size hza).trans HKA.out
    have kb1 := (ha1.block (w.heap.size + 1) hzb).trans HKB.out
    have hz1 : w.heap.size + 1 < w1.heap.size := Nat.lt_of_lt_of_le hzb ha1.size
    have hz0 : w.heap.size < w1.heap.size := by omega
    have b0 := cell_blk (i := 0) kb1 rfl
    have b1 := cell_blk (i := 1) kb1 rfl
    have b2 := cell_blk (i := 2) kb1 rfl
    have fb := free_all kb1
    clear ha1 ka1 kb1
    go_wp2
    exact bodyPost_ret (v := .tuple #[.agg #[.slice none 0 0, .int .i64 0, .int .i64 0], .bool false]) (by simp [results, Try.results58, go_sem, *]) rfl (noGA_post (below_putN HB1.out (show w.heap.size ≤ w.heap.size + 1 by omega) 0 [.slice none 0 0, .int .i64 0, .int .i64 0]))
  | true =>
    rw [hg] at HGG
    cases hy : (isUpB (hs.map rdat) r) with
    | false =>
      rw [crashA_no (.inr (by exact hy))]
      have HYES := Lib.hid hy
      clear hg hy h hm hn
      go_enter Try.func58, Try.ntmps58
      go_wp2_with fail
      (with_reducible refine HGG.out.mono ?_)
      rintro e w1 ⟨rfl, ha1⟩
      have HB1 := Lib.hid (HB0.out.trans (ha1.mono HB0.out.size))
      have ka1 := (ha1.block w.heap.size hza).trans HKA.out
      have kb1 := (ha1.block (w.heap.size + 1) hzb).trans HKB.out
      have hz1 : w.heap.size + 1 < w1.heap.size := Nat.lt_of_lt_of_le hzb ha1.size
      have hz0 : w.heap.size < w1.heap.size := by omega
      have a0 := cell_blk (i := 0) ka1 rfl
      have a1 := cell_blk (i := 1) ka1 rfl
      have a2 := cell_blk (i := 2) ka1 rfl
      have HKB1 := Lib.hid kb1
      clear ha1 ka1 kb1
      go_wp2_with fail
      (with_reducible refine (HCG.out _ HB1.out).mono ?_)
      rintro e w2 ⟨A2, c2, gs, rfl, hd2, ho2, ha2⟩
      have hgl : gs.length = n := (dats_len hd2).trans HN.out
      have hbx := below1 w2 (.cells #[.slice A2 n c2, .int .i64 tm, .int .i64 ld] 24)
      have hz2 := ha2.size
      have k6 := heap_alloc_new w2 (.cells #[.slice A2 n c2, .int .i64 tm, .int .i64 ld] 24)
      have hb2 := HB1.out.trans (ha2.mono HB1.out.size)
      have hb3 := hb2.trans (hbx.mono hb2.size)
      have hrr := (hb3.cell (p := ⟨pb, 0, none⟩) hpb).trans hr
      have HCL := Lib.hid (crashRep_fn A2 n c2 w2.heap.size w1.heap.size w2.heap.size pb tm ld r gs (w2.alloc (.cells #[.slice A2 n c2, .int .i64 tm, .int .i64 ld] 24)) hrr hgl (ho2.since hbx) k6 (by simp; omega) (Nat.le_refl _) hz2 hl)
      rw [hd2, HYES.out] at HCL
      unfold ChPost at HCL
      have HKB3 := Lib.hid ((hbx.block _ (Nat.lt_of_lt_of_le hz1 hz2)).trans ((ha2.block _ hz1).trans HKB1.out))
      have HB3 := Lib.hid hb3
      have HZZ := Lib.hid (show w.heap.size + 1 < w1.heap.size ∧ w1.heap.size ≤ w2.heap.size ∧ w2.heap.size < (w2.alloc (.cells #[.slice A2 n c2, .int .i64 tm, .int .i64 ld] 24)).heap.size from ⟨hz1, hz2, by simp⟩)
      clear a0 a1 a2 hgl hbx k6 hb2 hb3 hrr hd2 ho2 ha2
      go_wp2_with fail
      (with_reducible refine HCL.out.mono ?_)
      rintro e w3 ⟨rfl, hb3, h3⟩
      have kb3 := (hb3.block (w.heap.size + 1) HZZ.out.1).trans HKB3.out
      have b0 := cell_blk (i := 0) kb3 rfl
      have b1 := cell_blk (i := 1) kb3 rfl
      have b2 := cell_blk (i := 2) kb3 rfl
      have fb := free_all kb3
      have lb := lt_blk kb3
      have hzz3 := hb3.size
      have HB4 := Lib.hid (show Below w.heap.size w w3 from HB3.out.trans (hb3.mono (by omega)))
      clear hb3 kb3 h3
      go_wp2
      exact bodyPost_ret (v := .tuple #[.agg #[.slice none 0 0, .int .i64 0, .int .i64 0], .bool false]) (by simp [results, Try.results58, go_sem, *]) rfl (noGA_post (below_putN HB4.out (show w.heap.size ≤ w.heap.size + 1 by omega) 0 [.slice none 0 0, .int .i64 0, .int .i64 0]))
    | true =>
      have hyy : crashA tm ld (hs.map rdat) r = (setUp (hs.map rdat) r.toNat false, tm, (if ld = r then -1 else ld), true) := by unfold crashA; rw [if_pos ⟨hg, by exact hy⟩]
      rw [hyy, GAPost_un]
      obtain ⟨lv, hlv⟩ : ∃ lv, lv = (if ld = r then -1 else ld) := ⟨_, rfl⟩
      have HSL := Lib.hid (show (setUp (hs.map rdat) r.toNat false).length = n by rw [setUp_len, List.length_map]; exact hn)
      have HYES := Lib.hid hy
      have HLV := Lib.hid hlv
      rw [← hlv]
      clear hyy hg hy h hm hn hlv
      go_enter Try.func58, Try.ntmps58
      go_wp2_with fail
      (with_reducible refine HGG.out.mono ?_)
      rintro e w1 ⟨rfl, ha1⟩
      have HB1 := Lib.hid (HB0.out.trans (ha1.mono HB0.out.size))
      have ka1 := (ha1.block w.heap.size hza).trans HKA.out
      have kb1 := (ha1.block (w.heap.size + 1) hzb).trans HKB.out
      have hz1 : w.heap.size + 1 < w1.heap.size := Nat.lt_of_lt_of_le hzb ha1.size
      have hz0 : w.heap.size < w1.heap.size := by omega
      have a0 := cell_blk (i := 0) ka1 rfl
      have a1 := cell_blk (i := 1) ka1 rfl
      have a2 := cell_blk (i := 2) ka1 rfl
      have HKB1 := Lib.hid kb1
      clear ha1 ka1 kb1
      go_wp2_with fail
      (with_reducible refine (HCG.out _ HB1.out).mono ?_)
      rintro e w2 ⟨A2, c2, gs, rfl, hd2, ho2, ha2⟩
      have hgl : gs.length = n := (dats_len hd2).trans HN.out
      have hbx := below1 w2 (.cells #[.slice A2 n c2, .int .i64 tm, .int .i64 ld] 24)
      have hz2 := ha2.size
      have k6 := heap_alloc_new w2 (.cells #[.slice A2 n c2, .int .i64 tm, .int .i64 ld] 24)
      have hb2 := HB1.out.trans (ha2.mono HB1.out.size)
      have hb3 := hb2.trans (hbx.mono hb2.size)
      have hrr := (hb3.cell (p := ⟨pb, 0, none⟩) hpb).trans hr
      have HCL := Lib.hid (crashRep_fn A2 n c2 w2.heap.size w1.heap.size w2.heap.size pb tm ld r gs (w2.alloc (.cells #[.slice A2 n c2, .int .i64 tm, .int .i64 ld] 24)) hrr hgl (ho2.since hbx) k6 (by simp; omega) (Nat.le_refl _) hz2 hl)
      rw [hd2, HYES.out] at HCL
      unfold ChPost at HCL
      have HKB3 := Lib.hid ((hbx.block _ (Nat.lt_of_lt_of_le hz1 hz2)).trans ((ha2.block _ hz1).trans HKB1.out))
      have HB3 := Lib.hid hb3
      have HZZ := Lib.hid (show w.heap.size + 1 < w1.heap.size ∧ w1.heap.size ≤ w2.heap.size ∧ w2.heap.size < (w2.alloc (.cells #[.slice A2 n c2, .int .i64 tm, .int .i64 ld] 24)).heap.size from ⟨hz1, hz2, by simp⟩)
      clear a0 a1 a2 hgl hbx k6 hb2 hb3 hrr hd2 ho2 ha2
      go_wp2_with fail
      (with_reducible refine HCL.out.mono ?_)
      rintro e w3 ⟨rfl, hb3, h3⟩
      have kb3 := (hb3.block (w.heap.size + 1) HZZ.out.1).trans HKB3.out
      have b0 := cell_blk (i := 0) kb3 rfl
      have b1 := cell_blk (i := 1) kb3 rfl
      have b2 := cell_blk (i := 2) kb3 rfl
      have fb := free_all kb3
      have lb := lt_blk kb3
      have hzz3 := hb3.size
      obtain ⟨gs3, hd3, ho3, k63⟩ := h3 (by trivial)
      rw [← HLV.out] at k63
      have t0 := cell_blk (i := 0) k63 rfl
      have t1 := cell_blk (i := 1) k63 rfl
      have t2 := cell_blk (i := 2) k63 rfl
      have tl := lt_blk k63
      have HD3 := Lib.hid hd3
      have HO3 := Lib.hid ho3
      have HB4 := Lib.hid (show Below w.heap.size w w3 from HB3.out.trans (hb3.mono (by omega)))
      clear hb3 kb3 h3 hd3 ho3 k63
      go_wp2
      exact bodyPost_ret (v := .tuple #[.agg #[.slice A2 n c2, .int .i64 tm, .int .i64 lv], .bool true]) (by simp [results, Try.results58, go_sem, *]) rfl ⟨A2, c2, gs3, by rw [HSL.out], HD3.out,
        (HO3.out.keep (keep_putN (g := w.heap.size + 1) (.inl HZZ.out.1) 0 [.slice A2 n c2, .int .i64 tm, .int .i64 lv])).wider (by have := HZZ.out; omega) (by simp [World.setCell]; have := HZZ.out; omega),
        below_putN HB4.out (show w.heap.size ≤ w.heap.size + 1 by omega) 0 [.slice A2 n c2, .int .i64 tm, .int .i64 lv]⟩
set_option maxRecDepth 100000 in
set_option maxHeartbeats 4000000 in
theorem implCrashRep_any (A : Option Addr) (n c : Nat) (tm ld r : Int) (hs : List RH) (B : Nat) (w : World) (hn : hs.length = n) (h : RowsB KR w B A hs) (hB : B ≤ w.heap.size) (hm : RpSmall (hs.map rdat)) :
    Calls Try.prog 23 #[.agg #[.slice A n c, .int .i64 tm, .int .i64 ld], .int .i64 r] w (GAPost (crashA tm ld (hs.map rdat) r) w) := by
  have hb0 := below3 w (.cells #[.slice A n c, .int .i64 tm, .int .i64 ld] 24) (.cells #[.int .i64 r] 3) (.cells #[.slice none 0 0, .int .i64 0, .int .i64 0] 24)
  have kr := alloc3_b w (.cells #[.slice A n c, .int .i64 tm, .int .i64 ld] 24) (.cells #[.int .i64 r] 3) (.cells #[.slice none 0 0, .int .i64 0, .int .i64 0] 24)
  have kz := alloc3_c w (.cells #[.slice A n c, .int .i64 tm, .int .i64 ld] 24) (.cells #[.int .i64 r] 3) (.cells #[.slice none 0 0, .int .i64 0, .int .i64 0] 24)
  have HC := Lib.hid (changeCrashRep_any A n c (w.heap.size + 1) tm ld r hs B _ hn (h.below (hb0.mono hB)) (Nat.le_trans hB hb0.size) hm (cell_blk (i := 0) kr rfl) (by simp))
  obtain ⟨⟨l, at_, al, ok⟩, hans⟩ : ∃ a, a = crashA tm ld (hs.map rdat) r := ⟨_, rfl⟩
  rw [← hans] at HC ⊢
  rw [GAPost_un] at HC ⊢
  have hmf : ∀ (fn : Fn) (first cap : Array Value) (w : World), (Instr.makeFunc fn first cap).run Try.prog w = .ok (.func fn first cap) w := fun _ _ _ _ => rfl
  have HB0 := Lib.hid hb0
  have HKZ := Lib.hid kz
  have hzz : w.heap.size + 1 + 1 < (((w.alloc (.cells #[.slice A n c, .int .i64 tm, .int .i64 ld] 24)).alloc (.cells #[.int .i64 r] 3)).alloc (.cells #[.slice none 0 0, .int .i64 0, .int .i64 0] 24)).heap.size := by simp
  clear hb0 kr kz hans h hm hn
  go_enter Try.func23, Try.ntmps23
  go_wp2_with fail
  (with_reducible refine HC.out.mono ?_)
  rintro e w1 ⟨A1, c1, gs, rfl, hd1, ho1, ha1⟩
  have kz1 := (ha1.block (w.heap.size + 1 + 1) hzz).trans HKZ.out
  have z0 := cell_blk (i := 0) kz1 rfl
  have z1 := cell_blk (i := 1) kz1 rfl
  have z2 := cell_blk (i := 2) kz1 rfl
  have fz := free_all kz1
  have zl := lt_blk kz1
  have HB1 := Lib.hid (HB0.out.trans (ha1.mono HB0.out.size))
  have HO1 := Lib.hid ho1
  have HD1 := Lib.hid hd1
  obtain ⟨nl, hnl⟩ : ∃ nl, nl = l.length := ⟨_, rfl⟩
  rw [← hnl]
  have HNL := Lib.hid hnl
  clear kz1 ha1 ho1 hd1 hnl
  go_wp2
  exact bodyPost_ret (v := .tuple #[.agg #[.slice A1 nl c1, .int .i64 at_, .int .i64 al], .bool ok]) (by simp [results, Try.results23, go_sem, *]) rfl ⟨A1, c1, gs, by rw [HNL.out], HD1.out,
    (HO1.out.keep (keep_putN (g := w.heap.size + 1 + 1) (.inl hzz) 0 [.slice A1 nl c1, .int .i64 at_, .int .i64 al])).wider HB0.out.size (by simp [World.setCell]),
    below_putN HB1.out (show w.heap.size ≤ w.heap.size + 1 + 1 by omega) 0 [.slice A1 nl c1, .int .i64 at_, .int .i64 al]⟩

set_option maxRecDepth 100000 in
set_option maxHeartbeats 4000000 in
theorem startRep_any (A : Option Addr) (n c b0 lo hi : Nat) (tm ld r : Int) (gs : List RH) (w : World) (hn : gs.length = n) (ho : OwnK KR w lo hi A c gs) (hk : w.heap[b0]? = some (.cells #[.slice A n c, .int .i64 tm, .int .i64 ld] 24 (0, 0))) (hlo : lo ≤ w.heap.size) (hb : hi ≤ b0) (hlh : lo ≤ hi) (hl : n ≤ 1048576) :
    Calls Try.prog 62 #[.pointer (some ⟨b0, 0, none⟩), .int .i64 r] w (ChPost (hasB n r && !upAt (gs.map rdat) r.toNat) (setUp (gs.map rdat) r.toNat true) tm ld b0 lo hi n c A w) := by
  have hbw := lt_blk hk
  have hhi : hi ≤ w.heap.size := by omega
  have HU := Lib.hid (fun W (hW : Below w.heap.size w W) => hasRep_any A n c tm ld r W hl)
  cases hu : hasB n r with
  | false =>
    rw [hu] at HU
    unfold ChPost
    simp only [Bool.false_and, Bool.false_eq_true, false_implies, and_true]
    clear hu
    have k0 := cell_blk (i := 0) hk rfl
    have k1 := cell_blk (i := 1) hk rfl
    have k2 := cell_blk (i := 2) hk rfl
    go_enter Try.func62, Try.ntmps62
    go_wp2_with fail
    (with_reducible refine (HU.out _ (Below.refl _ _)).mono ?_)
    rintro e w1 ⟨rfl, ha1⟩
    have HB := Lib.hid (ha1.mono hlo)
    clear ha1 k0 k1 k2
    go_wp2
    go_ret
    exact ⟨rfl, HB.out⟩
  | true =>
    rw [hu] at HU
    obtain ⟨q, hq, hqn⟩ := hasB_nat hu
    subst hq
    rw [Int.toNat_natCast]
    have hqg : q < gs.length := by omega
    obtain ⟨g, cur, rfl, hg1, hg2, _⟩ := ho.form (by omega)
    have hq0 : (0 : Int) ≤ (q : Int) := by omega
    have hq1 : (q : Int) < (n : Int) := by omega
    rw [upAt_map hqg]
    have hcell0 : w.cell? ⟨g, q * 3, none⟩ = some (.bool (gs[q]'hqg).up) := OwnK.cell ho q hqg 0 (by decide)
    cases hv : (gs[q]'hqg).up with
    | true =>
      unfold ChPost
      simp only [Bool.true_and, Bool.not_true, Bool.false_eq_true, false_implies, and_true]
      rw [hv] at hcell0
      clear hu
      have k0 := cell_blk (i := 0) hk rfl
      have k1 := cell_blk (i := 1) hk rfl
      have k2 := cell_blk (i := 2) hk rfl
      go_enter Try.func62, Try.ntmps62
      go_wp2_with fail
      (with_reducible refine (HU.out _ (Below.refl _ _)).mono ?_)
      rintro e w1 ⟨rfl, ha1⟩
      have hk1 := (ha1.block b0 hbw).trans hk
      have x0 := cell_blk (i := 0) hk1 rfl
      have hcell := (ha1.cell (p := ⟨g, q * 3, none⟩) (show g < w.heap.size by omega)).trans hcell0
      have HB := Lib.hid (ha1.mono hlo)
      clear ha1 k0 k1 k2 hk1 hcell0 hv
      go_wp2
      go_ret
      exact ⟨rfl, HB.out⟩
    | false =>
      unfold ChPost
      simp only [Bool.true_and, Bool.not_false, true_implies]
      clear hu hcell0
      have k0 := cell_blk (i := 0) hk rfl
      have k1 := cell_blk (i := 1) hk rfl
      have k2 := cell_blk (i := 2) hk rfl
      go_enter Try.func62, Try.ntmps62
      go_wp2_with fail
      (with_reducible refine (HU.out _ (Below.refl _ _)).mono ?_)
      rintro e w1 ⟨rfl, ha1⟩
      have ho1 := ho.since ha1
      have hk1 := (ha1.block b0 hbw).trans hk
      have hcell : w1.cell? ⟨g, q * 3, none⟩ = some (.bool (gs[q]'hqg).up) := OwnK.cell ho1 q hqg 0 (by decide)
      have hfree := OwnK.free ho1 (by omega) (q * 3)
      have x0 := cell_blk (i := 0) hk1 rfl
      have x2 := cell_blk (i := 2) hk1 rfl
      have xf := free_all hk1
      have hgz : g < w1.heap.size := by have := ha1.size; omega
      have hbz : b0 < w1.heap.size := lt_blk hk1
      have hgb : g ≠ b0 := by omega
      have hbg : b0 ≠ g := by omega
      have HO2 := Lib.hid (own_upH ho1 q hqg true)
      have HK2 := Lib.hid ((Below.heap_setCell (w := w1) ⟨g, q * 3, none⟩ (.bool true) b0 (by simp; omega)).trans hk1)
      have HB2 := Lib.hid ((ha1.mono hlo).setCell (p := ⟨g, q * 3, none⟩) (show lo ≤ g from hg1) (.bool true))
      have HDX := Lib.hid (show (upH gs q true).map rdat = setUp (gs.map rdat) q true from upH_map _ _ _)
      have HIB := Lib.hid (show hi ≤ b0 from hb)
      have HLB := Lib.hid (show lo ≤ b0 by omega)
      clear ha1 k0 k1 k2 ho1 hk1 ho hk
      rw [hv] at hcell
      clear hv
      go_wp2
      go_ret
      exact ⟨rfl, HB2.out, upH gs q true, HDX.out, HO2.out, HK2.out⟩

set_option maxHeartbeats 1000000 in
theorem startRep_fn (A : Option Addr) (n c b0 lo hi pb : Nat) (tm ld r : Int) (gs : List RH) (w : World) (hr : w.cell? ⟨pb, 0, none⟩ = some (.int .i64 r)) (hn : gs.length = n) (ho : OwnK KR w lo hi A c gs) (hk : w.heap[b0]? = some (.cells #[.slice A n c, .int .i64 tm, .int .i64 ld] 24 (0, 0))) (hlo : lo ≤ w.heap.size) (hb : hi ≤ b0) (hlh : lo ≤ hi) (hl : n ≤ 1048576) :
    Calls Try.prog 61 #[.pointer (some ⟨b0, 0, none⟩), .pointer (some ⟨pb, 0, none⟩)] w (ChPost (hasB n r && !upAt (gs.map rdat) r.toNat) (setUp (gs.map rdat) r.toNat true) tm ld b0 lo hi n c A w) := by
  have HC := Lib.hid (startRep_any A n c b0 lo hi tm ld r gs w hn ho hk hlo hb hlh hl)
  skip
  skip
  obtain ⟨yy, hyy⟩ : ∃ yy, yy = (hasB n r && !upAt (gs.map rdat) r.toNat) := ⟨_, rfl⟩
  rw [← hyy] at HC ⊢
  unfold ChPost at HC ⊢
  clear hn ho hk hlo hb hlh hl hyy
  go_enter Try.func61, Try.ntmps61
  go_wp2_with fail
  (with_reducible refine HC.out.mono ?_)
  rintro e w1 ⟨rfl, hb1, h1⟩
  have HR := Lib.hid (And.intro hb1 h1)
  clear hb1 h1
  go_wp2
  go_ret
  exact ⟨rfl, HR.out.1, HR.out.2⟩

set_option maxRecDepth 100000 in
set_option maxHeartbeats 4000000 in
theorem changeStartRep_any (A : Option Addr) (n c pb : Nat) (tm ld r : Int) (hs : List RH) (B : Nat) (w : World) (hn : hs.length = n) (h : RowsB KR w B A hs) (hB : B ≤ w.heap.size) (hm : RpSmall (hs.map rdat)) (hr : w.cell? ⟨pb, 0, none⟩ = some (.int .i64 r)) (hpb : pb < w.heap.size) :
    Calls Try.prog 58 #[.agg #[.slice A n c, .int .i64 tm, .int .i64 ld], .func (Fn.func 61) #[] #[.pointer (some ⟨pb, 0, none⟩)]] w (GAPost (startA tm ld (hs.map rdat) r) w) := by
  have hb0 := below2 w (.cells #[.slice A n c, .int .i64 tm, .int .i64 ld] 24) (.cells #[.slice none 0 0, .int .i64 0, .int .i64 0] 24)
  have ka0 := alloc2_a w (.cells #[.slice A n c, .int .i64 tm, .int .i64 ld] 24) (.cells #[.slice none 0 0, .int .i64 0, .int .i64 0] 24)
  have kb0 := alloc2_b w (.cells #[.slice A n c, .int .i64 tm, .int .i64 ld] 24) (.cells #[.slice none 0 0, .int .i64 0, .int .i64 0] 24)
  have hl : n ≤ 1048576 := by have := hm.1; simp at this; omega
  have HGG := Lib.hid (implGoodGroup_any A n c tm ld hs B _ hn (h.below (hb0.mono hB)) (Nat.le_trans hB hb0.size) hm)
  have HCG := Lib.hid (fun W (hW : Below w.heap.size w W) => copyGroup_any A n c tm ld hs B W hn (h.below (hW.mono hB)) (Nat.le_trans hB hW.size) hm)
  have HB0 := Lib.hid hb0
  have HKA := Lib.hid ka0
  have HKB := Lib.hid kb0
  have HN := Lib.hid hn
  have hza : w.heap.size < ((w.alloc (.cells #[.slice A n c, .int .i64 tm, .int .i64 ld] 24)).alloc (.cells #[.slice none 0 0, .int .i64 0, .int .i64 0] 24)).heap.size := by simp; omega
  have hzb : w.heap.size + 1 < ((w.alloc (.cells #[.slice A n c, .int .i64 tm, .int .i64 ld] 24)).alloc (.cells #[.slice none 0 0, .int .i64 0, .int .i64 0] 24)).heap.size := by simp
  clear hb0 ka0 kb0
  cases hg : grpB tm ld (hs.map rdat) with
  | false =>
    rw [hg] at HGG
    rw [startA_no (.inl hg)]
    clear hg h hm hn
    go_enter Try.func58, Try.ntmps58
    go_wp2_with fail
    (with_reducible refine HGG.out.mono ?_)
    rintro e w1 ⟨rfl, ha1⟩
    have HB1 := Lib.hid (HB0.out.trans (ha1.mono HB0.out.size))
    have ka1 := (ha1.block w.heap.size hza).trans HKA.out
    have kb1 := (ha1.block (w.heap.size + 1) hzb).trans HKB.out
    have hz1 : w.heap.size + 1 < w1.heap.size := Nat.lt_of_lt_of_le hzb ha1.size
    have hz0 : w.heap.size < w1.heap.size := by omega
    have b0 := cell_blk (i := 0) kb1 rfl
    have b1 := cell_blk (i := 1) kb1 rfl
    have b2 := cell_blk (i := 2) kb1 rfl
    have fb := free_all kb1
    clear ha1 ka1 kb1
    go_wp2
    exact bodyPost_ret (v := .tuple #[.agg #[.slice none 0 0, .int .i64 0, .int .i64 0], .bool false]) (by simp [results, Try.results58, go_sem, *]) rfl (noGA_post (below_putN HB1.out (show w.heap.size ≤ w.heap.size + 1 by omega) 0 [.slice none 0 0, .int .i64 0, .int .i64 0]))
  | true =>
    rw [hg] at HGG
    cases hy : (hasB n r && !upAt (hs.map rdat) r.toNat) with
    | false =>
      rw [startA_no (.inr (by rw [List.length_map, hn]; exact hy))]
      have HYES := Lib.hid hy
      clear hg hy h hm hn
      go_enter Try.func58, Try.ntmps58
      go_wp2_with fail
      (with_reducible refine HGG.out.mono ?_)
      rintro e w1 ⟨rfl, ha1⟩
      have HB1 := Lib.hid (HB0.out.trans (ha1.mono HB0.out.size))
      have ka1 := (ha1.block w.heap.size hza).trans HKA.out
      have kb1 := (ha1.block (w.heap.size + 1) hzb).trans HKB.out
      have hz1 : w.heap.size + 1 < w1.heap.size := Nat.lt_of_lt_of_le hzb ha1.size
      have hz0 : w.heap.size < w1.heap.size := by omega
      have a0 := cell_blk (i := 0) ka1 rfl
      have a1 := cell_blk (i := 1) ka1 rfl
      have a2 := cell_blk (i := 2) ka1 rfl
      have HKB1 := Lib.hid kb1
      clear ha1 ka1 kb1
      go_wp2_with fail
      (with_reducible refine (HCG.out _ HB1.out).mono ?_)
      rintro e w2 ⟨A2, c2, gs, rfl, hd2, ho2, ha2⟩
      have hgl : gs.length = n := (dats_len hd2).trans HN.out
      have hbx := below1 w2 (.cells #[.slice A2 n c2, .int .i64 tm, .int .i64 ld] 24)
      have hz2 := ha2.size
      have k6 := heap_alloc_new w2 (.cells #[.slice A2 n c2, .int .i64 tm, .int .i64 ld] 24)
      have hb2 := HB1.out.trans (ha2.mono HB1.out.size)
      have hb3 := hb2.trans (hbx.mono hb2.size)
      have hrr := (hb3.cell (p := ⟨pb, 0, none⟩) hpb).trans hr
      have HCL := Lib.hid (startRep_fn A2 n c2 w2.heap.size w1.heap.size w2.heap.size pb tm ld r gs (w2.alloc (.cells #[.slice A2 n c2, .int .i64 tm, .int .i64 ld] 24)) hrr hgl (ho2.since hbx) k6 (by simp; omega) (Nat.le_refl _) hz2 hl)
      rw [hd2, HYES.out] at HCL
      unfold ChPost at HCL
      have HKB3 := Lib.hid ((hbx.block _ (Nat.lt_of_lt_of_le hz1 hz2)).trans ((ha2.block _ hz1).trans HKB1.out))
      have HB3 := Lib.hid hb3
      have HZZ := Lib.hid (show w.heap.size + 1 < w1.heap.size ∧ w1.heap.size ≤ w2.heap.size ∧ w2.heap.size < (w2.alloc (.cells #[.slice A2 n c2, .int .i64 tm, .int .i64 ld] 24)).heap.size from ⟨hz1, hz2, by simp⟩)
      clear a0 a1 a2 hgl hbx k6 hb2 hb3 hrr hd2 ho2 ha2
      go_wp2_with fail
      (with_reducible refine HCL.out.mono ?_)
      rintro e w3 ⟨rfl, hb3, h3⟩
      have kb3 := (hb3.block (w.heap.size + 1) HZZ.out.1).trans HKB3.out
      have b0 := cell_blk (i := 0) kb3 rfl
      have b1 := cell_blk (i := 1) kb3 rfl
      have b2 := cell_blk (i := 2) kb3 rfl
      have fb := free_all kb3
      have lb := lt_blk kb3
      have hzz3 := hb3.size
      have HB4 := Lib.hid (show Below w.heap.size w w3 from HB3.out.trans (hb3.mono (by omega)))
      clear hb3 kb3 h3
      go_wp2
      exact bodyPost_ret (v := .tuple #[.agg #[.slice none 0 0, .int .i64 0, .int .i64 0], .bool false]) (by simp [results, Try.results58, go_sem, *]) rfl (noGA_post (below_putN HB4.out (show w.heap.size ≤ w.heap.size + 1 by omega) 0 [.slice none 0 0, .int .i64 0, .int .i64 0]))
    | true =>
      have hyy : startA tm ld (hs.map rdat) r = (setUp (hs.map rdat) r.toNat true, tm, ld, true) := by unfold startA; rw [if_pos ⟨hg, by rw [List.length_map, hn]; exact hy⟩]
      rw [hyy, GAPost_un]
      skip
      have HSL := Lib.hid (show (setUp (hs.map rdat) r.toNat true).length = n by rw [setUp_len, List.length_map]; exact hn)
      have HYES := Lib.hid hy
      skip
      skip
      clear hyy hg hy h hm hn
      go_enter Try.func58, Try.ntmps58
      go_wp2_with fail
      (with_reducible refine HGG.out.mono ?_)
      rintro e w1 ⟨rfl, ha1⟩
      have HB1 := Lib.hid (HB0.out.trans (ha1.mono HB0.out.size))
      have ka1 := (ha1.block w.heap.size hza).trans HKA.out
      have kb1 := (ha1.block (w.heap.size + 1) hzb).trans HKB.out
      have hz1 : w.heap.size + 1 < w1.heap.size := Nat.lt_of_lt_of_le hzb ha1.size
      have hz0 : w.heap.size < w1.heap.size := by omega
      have a0 := cell_blk (i := 0) ka1 rfl
      have a1 := cell_blk (i := 1) ka1 rfl
      have a2 := cell_blk (i := 2) ka1 rfl
      have HKB1 := Lib.hid kb1
      clear ha1 ka1 kb1
      go_wp2_with fail
      (with_reducible refine (HCG.out _ HB1.out).mono ?_)
      rintro e w2 ⟨A2, c2, gs, rfl, hd2, ho2, ha2⟩
      have hgl : gs.length = n := (dats_len hd2).trans HN.out
      have hbx := below1 w2 (.cells #[.slice A2 n c2, .int .i64 tm, .int .i64 ld] 24)
      have hz2 := ha2.size
      have k6 := heap_alloc_new w2 (.cells #[.slice A2 n c2, .int .i64 tm, .int .i64 ld] 24)
      have hb2 := HB1.out.trans (ha2.mono HB1.out.size)
      have hb3 := hb2.trans (hbx.mono hb2.size)
      have hrr := (hb3.cell (p := ⟨pb, 0, none⟩) hpb).trans hr
      have HCL := Lib.hid (startRep_fn A2 n c2 w2.heap.size w1.heap.size w2.heap.size pb tm ld r gs (w2.alloc (.cells #[.slice A2 n c2, .int .i64 tm, .int .i64 ld] 24)) hrr hgl (ho2.since hbx) k6 (by simp; omega) (Nat.le_refl _) hz2 hl)
      rw [hd2, HYES.out] at HCL
      unfold ChPost at HCL
      have HKB3 := Lib.hid ((hbx.block _ (Nat.lt_of_lt_of_le hz1 hz2)).trans ((ha2.block _ hz1).trans HKB1.out))
      have HB3 := Lib.hid hb3
      have HZZ := Lib.hid (show w.heap.size + 1 < w1.heap.size ∧ w1.heap.size ≤ w2.heap.size ∧ w2.heap.size < (w2.alloc (.cells #[.slice A2 n c2, .int .i64 tm, .int .i64 ld] 24)).heap.size from ⟨hz1, hz2, by simp⟩)
      clear a0 a1 a2 hgl hbx k6 hb2 hb3 hrr hd2 ho2 ha2
      go_wp2_with fail
      (with_reducible refine HCL.out.mono ?_)
      rintro e w3 ⟨rfl, hb3, h3⟩
      have kb3 := (hb3.block (w.heap.size + 1) HZZ.out.1).trans HKB3.out
      have b0 := cell_blk (i := 0) kb3 rfl
      have b1 := cell_blk (i := 1) kb3 rfl
      have b2 := cell_blk (i := 2) kb3 rfl
      have fb := free_all kb3
      have lb := lt_blk kb3
      have hzz3 := hb3.size
      obtain ⟨gs3, hd3, ho3, k63⟩ := h3 (by trivial)
      skip
      have t0 := cell_blk (i := 0) k63 rfl
      have t1 := cell_blk (i := 1) k63 rfl
      have t2 := cell_blk (i := 2) k63 rfl
      have tl := lt_blk k63
      have HD3 := Lib.hid hd3
      have HO3 := Lib.hid ho3
      have HB4 := Lib.hid (show Below w.heap.size w w3 from HB3.out.trans (hb3.mono (by omega)))
      clear hb3 kb3 h3 hd3 ho3 k63
      go_wp2
      exact bodyPost_ret (v := .tuple #[.agg #[.slice A2 n c2, .int .i64 tm, .int .i64 ld], .bool true]) (by simp [results, Try.results58, go_sem, *]) rfl ⟨A2, c2, gs3, by rw [HSL.out], HD3.out,
        (HO3.out.keep (keep_putN (g := w.heap.size + 1) (.inl HZZ.out.1) 0 [.slice A2 n c2, .int .i64 tm, .int .i64 ld])).wider (by have := HZZ.out; omega) (by simp [World.setCell]; have := HZZ.out; omega),
        below_putN HB4.out (show w.heap.size ≤ w.heap.size + 1 by omega) 0 [.slice A2 n c2, .int .i64 tm, .int .i64 ld]⟩
set_option maxRecDepth 100000 in
set_option maxHeartbeats 4000000 in
theorem implStartRep_any (A : Option Addr) (n c : Nat) (tm ld r : Int) (hs : List RH) (B : Nat) (w : World) (hn : hs.length = n) (h : RowsB KR w B A hs) (hB : B ≤ w.heap.size) (hm : RpSmall (hs.map rdat)) :
    Calls Try.prog 25 #[.agg #[.slice A n c, .int .i64 tm, .int .i64 ld], .int .i64 r] w (GAPost (startA tm ld (hs.map rdat) r) w) := by
  have hb0 := below3 w (.cells #[.slice A n c, .int .i64 tm, .int .i64 ld] 24) (.cells #[.int .i64 r] 3) (.cells #[.slice none 0 0, .int .i64 0, .int .i64 0] 24)
  have kr := alloc3_b w (.cells #[.slice A n c, .int .i64 tm, .int .i64 ld] 24) (.cells #[.int .i64 r] 3) (.cells #[.slice none 0 0, .int .i64 0, .int .i64 0] 24)
  have kz := alloc3_c w (.cells #[.slice A n c, .int .i64 tm, .int .i64 ld] 24) (.cells #[.int .i64 r] 3) (.cells #[.slice none 0 0, .int .i64 0, .int .i64 0] 24)
  have HC := Lib.hid (changeStartRep_any A n c (w.heap.size + 1) tm ld r hs B _ hn (h.below (hb0.mono hB)) (Nat.le_trans hB hb0.size) hm (cell_blk (i := 0) kr rfl) (by simp))
  obtain ⟨⟨l, at_, al, ok⟩, hans⟩ : ∃ a, a = startA tm ld (hs.map rdat) r := ⟨_, rfl⟩
  rw [← hans] at HC ⊢
  rw [GAPost_un] at HC ⊢
  have hmf : ∀ (fn : Fn) (first cap : Array Value) (w : World), (Instr.makeFunc fn first cap).run Try.prog w = .ok (.func fn first cap) w := fun _ _ _ _ => rfl
  have HB0 := Lib.hid hb0
  have HKZ := Lib.hid kz
  have hzz : w.heap.size + 1 + 1 < (((w.alloc (.cells #[.slice A n c, .int .i64 tm, .int .i64 ld] 24)).alloc (.cells #[.int .i64 r] 3)).alloc (.cells #[.slice none 0 0, .int .i64 0, .int .i64 0] 24)).heap.size := by simp
  clear hb0 kr kz hans h hm hn
  go_enter Try.func25, Try.ntmps25
  go_wp2_with fail
  (with_reducible refine HC.out.mono ?_)
  rintro e w1 ⟨A1, c1, gs, rfl, hd1, ho1, ha1⟩
  have kz1 := (ha1.block (w.heap.size + 1 + 1) hzz).trans HKZ.out
  have z0 := cell_blk (i := 0) kz1 rfl
  have z1 := cell_blk (i := 1) kz1 rfl
  have z2 := cell_blk (i := 2) kz1 rfl
  have fz := free_all kz1
  have zl := lt_blk kz1
  have HB1 := Lib.hid (HB0.out.trans (ha1.mono HB0.out.size))
  have HO1 := Lib.hid ho1
  have HD1 := Lib.hid hd1
  obtain ⟨nl, hnl⟩ : ∃ nl, nl = l.length := ⟨_, rfl⟩
  rw [← hnl]
  have HNL := Lib.hid hnl
  clear kz1 ha1 ho1 hd1 hnl
  go_wp2
  exact bodyPost_ret (v := .tuple #[.agg #[.slice A1 nl c1, .int .i64 at_, .int .i64 al], .bool ok]) (by simp [results, Try.results25, go_sem, *]) rfl ⟨A1, c1, gs, by rw [HNL.out], HD1.out,
    (HO1.out.keep (keep_putN (g := w.heap.size + 1 + 1) (.inl hzz) 0 [.slice A1 nl c1, .int .i64 at_, .int .i64 al])).wider HB0.out.size (by simp [World.setCell]),
    below_putN HB1.out (show w.heap.size ≤ w.heap.size + 1 + 1 by omega) 0 [.slice A1 nl c1, .int .i64 at_, .int .i64 al]⟩
end Go.Proofs.Ytnmhigbnlpcedaa.Gr
