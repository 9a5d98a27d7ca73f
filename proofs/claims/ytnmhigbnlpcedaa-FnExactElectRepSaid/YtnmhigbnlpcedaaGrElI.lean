/-
  Contracts for ElectRep of the program.
-/
import Derived.Test.YtnmhigbnlpcedaaGrCrI
import Derived.Test.YtnmhigbnlpcedaaGrEl
namespace Go.Proofs.Ytnmhigbnlpcedaa.Gr
open Go.RowKit CM
set_option linter.unusedVariables false
set_option linter.unusedSimpArgs false

def logAt (rs : List RD) (i : Nat) : List ED := match rs[i]? with | some r => r.log | none => []
theorem logAt_map {rs : List RH} {k : Nat} (h : k < rs.length) : logAt (rs.map rdat) k = rs[k].es.map EH.d := by simp [logAt, List.getElem?_eq_getElem h, rdat]
def elB (tm : Int) (rs : List RD) (r : Int) : Bool := isUpB rs r && (decide (tm ≠ 200) && decide (rs.length < 2 * cntV (logAt rs r.toNat) rs))
def electA (tm ld : Int) (rs : List RD) (r : Int) : List RD × Int × Int × Bool := if grpB tm ld rs = true ∧ elB tm rs r = true then (rs, tm + 1, r, true) else noGA
theorem electA_no {tm ld r : Int} {rs : List RD} (h : grpB tm ld rs = false ∨ elB tm rs r = false) : electA tm ld rs r = noGA := by
  unfold electA; rw [if_neg]; rintro ⟨h1, h2⟩; rcases h with h | h <;> simp [h] at h1 h2
theorem electA_sz {tm ld r : Int} {rs : List RD} (h : rpSz rs ≤ 1048576) : rpSz (electA tm ld rs r).1 ≤ 1048576 := by
  unfold electA; split
  · exact h
  · unfold noGA rpSz; simp
theorem grp_term {tm ld : Int} {rs : List RD} (h : grpB tm ld rs = true) : 0 ≤ tm ∧ tm ≤ 200 := by
  unfold grpB at h
  simp only [Bool.and_eq_true, decide_eq_true_eq] at h
  exact ⟨h.2.1, h.2.2.1⟩
theorem logs_small {hs gs : List RH} (hm : RpSmall (hs.map rdat)) (hd : gs.map rdat = hs.map rdat) : ∀ x ∈ gs, x.es.length ≤ 1048576 := fun x hx => by
  have h1 : rdat x ∈ gs.map rdat := List.mem_map_of_mem hx
  rw [hd] at h1
  have h2 := (hm.2 _ h1).1
  simpa [rdat] using h2

set_option maxRecDepth 100000 in
set_option maxHeartbeats 4000000 in
theorem electRep_any (A : Option Addr) (n c b0 lo hi : Nat) (tm ld r : Int) (gs : List RH) (w : World) (hn : gs.length = n) (ho : OwnK KR w lo hi A c gs) (hk : w.heap[b0]? = some (.cells #[.slice A n c, .int .i64 tm, .int .i64 ld] 24 (0, 0))) (hlo : lo ≤ w.heap.size) (hb : hi ≤ b0) (hlh : lo ≤ hi) (hl : n ≤ 1048576) (hls : ∀ x ∈ gs, x.es.length ≤ 1048576) (ht0 : 0 ≤ tm) (ht1 : tm ≤ 200) :
    Calls Try.prog 65 #[.pointer (some ⟨b0, 0, none⟩), .int .i64 r] w (ChPost (elB tm (gs.map rdat) r) (gs.map rdat) (tm + 1) r b0 lo hi n c A w) := by
  have hbw := lt_blk hk
  have hhi : hi ≤ w.heap.size := by omega
  have HU := Lib.hid (fun W (hW : Below w.heap.size w W) => isUp_any A n c tm ld r gs hi W hn (ho.rows.below (hW.mono hhi)) (Nat.le_trans hhi hW.size) hl)
  unfold elB
  have k0 := cell_blk (i := 0) hk rfl
  have k1 := cell_blk (i := 1) hk rfl
  have k2 := cell_blk (i := 2) hk rfl
  cases hu : isUpB (gs.map rdat) r with
  | false =>
    rw [hu] at HU
    unfold ChPost
    simp only [Bool.false_and, Bool.false_eq_true, false_implies, and_true]
    clear hu
    go_enter Try.func65, Try.ntmps65
    go_wp2_with fail
    (with_reducible refine (HU.out _ (Below.refl _ _)).mono ?_)
    rintro e w1 ⟨rfl, ha1⟩
    have HB := Lib.hid (ha1.mono hlo)
    clear ha1 k0 k1 k2
    go_wp2
    go_ret
    exact ⟨rfl, HB.out⟩
  | true =>
    rw [hu] at HU
    rw [Bool.true_and]
    by_cases h2 : tm = 200
    · rw [show (decide (tm ≠ 200) && decide ((gs.map rdat).length < 2 * cntV (logAt (gs.map rdat) r.toNat) (gs.map rdat))) = false by simp [h2]]
      have e1 : (tm == 200) = true := by simp [h2]
      unfold ChPost
      simp only [Bool.false_eq_true, false_implies, and_true]
      clear hu h2
      go_enter Try.func65, Try.ntmps65
      go_wp2_with fail
      (with_reducible refine (HU.out _ (Below.refl _ _)).mono ?_)
      rintro e w1 ⟨rfl, ha1⟩
      have hk1 := (ha1.block b0 hbw).trans hk
      have x1 := cell_blk (i := 1) hk1 rfl
      have HB := Lib.hid (ha1.mono hlo)
      clear ha1 k0 k1 k2 hk1
      go_wp2
      go_ret
      exact ⟨rfl, HB.out⟩
    · have e1 : (tm == 200) = false := by simp [h2]
      rw [show (decide (tm ≠ 200) && decide ((gs.map rdat).length < 2 * cntV (logAt (gs.map rdat) r.toNat) (gs.map rdat))) = decide ((gs.map rdat).length < 2 * cntV (logAt (gs.map rdat) r.toNat) (gs.map rdat)) by simp [h2]]
      obtain ⟨q, hq, hqn⟩ := hasB_nat (by unfold isUpB at hu; rw [List.length_map, hn] at hu; simp only [Bool.and_eq_true] at hu; exact hu.1)
      subst hq
      rw [Int.toNat_natCast]
      have hqg : q < gs.length := by omega
      rw [logAt_map hqg, List.length_map, hn]
      obtain ⟨g, cur, rfl, hg1, hg2, _⟩ := ho.form (by omega)
      have hq0 : (0 : Int) ≤ (q : Int) := by omega
      have hq1 : (q : Int) < (n : Int) := by omega
      have ht2 : tm ≤ 199 := by omega
      obtain ⟨yes, hyes⟩ : ∃ yes, yes = decide (n < 2 * cntV (gs[q].es.map EH.d) (gs.map rdat)) := ⟨_, rfl⟩
      rw [← hyes]
      have HYES := Lib.hid hyes
      have HLS := Lib.hid hls
      have HYtnmhigbnlpcedaa := Lib.hid hn
      have hmf : ∀ (fn : Fn) (first cap : Array Value) (w : World), (Instr.makeFunc fn first cap).run Try.prog w = .ok (.func fn first cap) w := fun _ _ _ _ => rfl
      unfold ChPost
      clear hyes hu hls h2
      go_enter Try.func65, Try.ntmps65
      go_wp2_with fail
      (with_reducible refine (HU.out _ (Below.refl _ _)).mono ?_)
      rintro e w1 ⟨rfl, ha1⟩
      have ho1 := ho.since ha1
      have hk1 := (ha1.block b0 hbw).trans hk
      have hcell : w1.cell? ⟨g, q * 3 + 1, none⟩ = some (.slice gs[q].A gs[q].es.length gs[q].c) := OwnK.cell ho1 q hqg 1 (by decide)
      have hbx := below1 w1 (.cells #[.slice gs[q].A gs[q].es.length gs[q].c] 53)
      have hpb := cell_blk (i := 0) (heap_alloc_new w1 (.cells #[.slice gs[q].A gs[q].es.length gs[q].c] 53)) rfl
      have ho2 := ho1.since hbx
      have hz1 := ha1.size
      have hrw : hi ≤ (w1.alloc (.cells #[.slice gs[q].A gs[q].es.length gs[q].c] 53)).heap.size := Nat.le_trans (Nat.le_trans hhi hz1) hbx.size
      have HMA := Lib.hid (mostAre_any (some ⟨g, 0, none⟩) n c gs gs[q].A gs[q].es.length gs[q].c w1.heap.size gs[q].es hi (w1.alloc (.cells #[.slice gs[q].A gs[q].es.length gs[q].c] 53)) HYtnmhigbnlpcedaa.out ho2.rows hl HLS.out rfl (ho2.rows.at q hqg) (HLS.out _ (List.getElem_mem hqg)) hrw hpb yes HYES.out)
      have hk2 := (hbx.block b0 (lt_blk hk1)).trans hk1
      obtain ⟨Al, hAl⟩ : ∃ Al, Al = gs[q].A := ⟨_, rfl⟩
      obtain ⟨nl, hnl⟩ : ∃ nl, nl = gs[q].es.length := ⟨_, rfl⟩
      obtain ⟨cl, hcl⟩ : ∃ cl, cl = gs[q].c := ⟨_, rfl⟩
      rw [← hAl, ← hnl, ← hcl] at hcell hbx hpb HMA hk2 ho2
      have x0 := cell_blk (i := 0) hk1 rfl
      have x1 := cell_blk (i := 1) hk1 rfl
      have xf := free_all hk1
      have hgz : g < w1.heap.size := by omega
      have hbz : b0 < w1.heap.size := lt_blk hk1
      have HBX := Lib.hid hbx
      have HO2 := Lib.hid ho2
      have HK2 := Lib.hid hk2
      have HB2 := Lib.hid ((ha1.mono hlo).trans (hbx.mono (by omega)))
      have HIB := Lib.hid (show hi ≤ b0 from hb)
      have HLB := Lib.hid (show lo ≤ b0 by omega)
      clear ha1 k0 k1 k2 ho1 hk1 ho hk hbx ho2 hk2 hAl hnl hcl hz1 hrw hpb
      go_wp2_with fail
      (with_reducible refine HMA.out.mono ?_)
      rintro e w2 ⟨rfl, ha2⟩
      have hk3 := (ha2.block b0 (lt_blk HK2.out)).trans HK2.out
      have x1 := cell_blk (i := 1) hk3 rfl
      have x2 := cell_blk (i := 2) hk3 rfl
      have xf := free_all hk3
      have xl := lt_blk hk3
      have HO3 := Lib.hid (HO2.out.since ha2)
      have HB3 := Lib.hid (HB2.out.trans (ha2.mono (Nat.le_trans hlo HB2.out.size)))
      have HK3 := Lib.hid hk3
      clear ha2 hk3 x0 hcell HMA
      cases yes with
      | false =>
        go_wp2
        go_ret
        exact ⟨rfl, HB3.out, by simp⟩
      | true =>
        go_wp2
        go_ret
        exact ⟨rfl, (HB3.out.setCell (p := ⟨b0, 1, none⟩) HLB.out _).setCell (p := ⟨b0, 2, none⟩) HLB.out _, gs, rfl, (HO3.out.keep (keep_set (p := ⟨b0, 1, none⟩) (.inr HIB.out) _)).keep (keep_set (p := ⟨b0, 2, none⟩) (.inr HIB.out) _), set_blk (set_blk HK3.out (i := 1) (.int .i64 (tm + 1))) (i := 2) (.int .i64 (q : Int))⟩

set_option maxHeartbeats 1000000 in
theorem electRep_fn (A : Option Addr) (n c b0 lo hi pb : Nat) (tm ld r : Int) (gs : List RH) (w : World) (hr : w.cell? ⟨pb, 0, none⟩ = some (.int .i64 r)) (hn : gs.length = n) (ho : OwnK KR w lo hi A c gs) (hk : w.heap[b0]? = some (.cells #[.slice A n c, .int .i64 tm, .int .i64 ld] 24 (0, 0))) (hlo : lo ≤ w.heap.size) (hb : hi ≤ b0) (hlh : lo ≤ hi) (hl : n ≤ 1048576) (hls : ∀ x ∈ gs, x.es.length ≤ 1048576) (ht0 : 0 ≤ tm) (ht1 : tm ≤ 200) :
    Calls Try.prog 64 #[.pointer (some ⟨b0, 0, none⟩), .pointer (some ⟨pb, 0, none⟩)] w (ChPost (elB tm (gs.map rdat) r) (gs.map rdat) (tm + 1) r b0 lo hi n c A w) := by
  have HC := Lib.hid (electRep_any A n c b0 lo hi tm ld r gs w hn ho hk hlo hb hlh hl hls ht0 ht1)
  skip
  skip
  obtain ⟨yy, hyy⟩ : ∃ yy, yy = (elB tm (gs.map rdat) r) := ⟨_, rfl⟩
  rw [← hyy] at HC ⊢
  unfold ChPost at HC ⊢
  clear hn ho hk hlo hb hlh hl hyy hls
  go_enter Try.func64, Try.ntmps64
  go_wp2_with fail
  (with_reducible refine HC.out.mono ?_)
  rintro e w1 ⟨rfl, hb1, h1⟩
  have HR := Lib.hid (And.intro hb1 h1)
  clear hb1 h1
  go_wp2
  go_ret
  exact ⟨rfl, HR.out.1, HR.out.2⟩

set_option maxRecDepth 100000 in
set_option maxHeartbeats 4000000 in
theorem changeElectRep_any (A : Option Addr) (n c pb : Nat) (tm ld r : Int) (hs : List RH) (B : Nat) (w : World) (hn : hs.length = n) (h : RowsB KR w B A hs) (hB : B ≤ w.heap.size) (hm : RpSmall (hs.map rdat)) (hr : w.cell? ⟨pb, 0, none⟩ = some (.int .i64 r)) (hpb : pb < w.heap.size) :
    Calls Try.prog 58 #[.agg #[.slice A n c, .int .i64 tm, .int .i64 ld], .func (Fn.func 64) #[] #[.pointer (some ⟨pb, 0, none⟩)]] w (GAPost (electA tm ld (hs.map rdat) r) w) := by
  have hb0 := below2 w (.cells #[.slice A n c, .int .i64 tm, .int .i64 ld] 24) (.cells #[.slice none 0 0, .int .i64 0, .int .i64 0] 24)
  have ka0 := alloc2_a w (.cells #[.slice A n c, .int .i64 tm, .int .i64 ld] 24) (.cells #[.slice none 0 0, .int .i64 0, .int .i64 0] 24)
  have kb0 := alloc2_b w (.cells #[.slice A n c, .int .i64 tm, .int .i64 ld] 24) (.cells #[.slice none 0 0, .int .i64 0, .int .i64 0] 24)
  have hl : n ≤ 1048576 := by have := hm.1; simp at this; omega
  have HGG := Lib.hid (implGoodGroup_any A n c tm ld hs B _ hn (h.below (hb0.mono hB)) (Nat.le_trans hB hb0.size) hm)
  have HCG := Lib.hid (fun W (hW : Below w.heap.size w W) => copyGroup_any A n c tm ld hs B W hn (h.below (hW.mono hB)) (Nat.le_trans hB hW.size) hm)
  have HB0 := Lib.hid hb0
  have HKA := Lib.hid ka0
  have HKB := Lib.hid kb0
  have HN := Lib.hid hn
  have hza : w.heap.size < ((w.alloc (.cells #[.slice A n c, .int .i64 tm, .int .i64 ld] 24)).alloc (.cells #[.slice none 0 0, .int .i64 0, .int .i64 0] 24)).heap.size := by simp; omega
  have hzb : w.heap.size + 1 < ((w.alloc (.cells #[.slice A n c, .int .i64 tm, .int .i64 ld] 24)).alloc (.cells #[.slice none 0 0, .int .i64 0, .int .i64 0] 24)).heap.size := by simp
  clear hb0 ka0 kb0
  cases hg : grpB tm ld (hs.map rdat) with
  | false =>
    rw [hg] at HGG
    rw [electA_no (.inl hg)]
    clear hg h hm hn
    go_enter Try.func58, Try.ntmps58
    go_wp2_with fail
    (with_reducible refine HGG.out.mono ?_)
    rintro e w1 ⟨rfl, ha1⟩
    have HB1 := Lib.hid (HB0.out.trans (ha1.mono HB0.out.size))
    have ka1 := (ha1.block w.heap.size hza).trans HKA.out
    have kb1 := (ha1.block (w.heap.size + 1) hzb).trans HKB.out
    have hz1 : w.heap.size + 1 < w1.heap.size := Nat.lt_of_lt_of_le hzb ha1.size
    have hz0 : w.heap.size < w1.heap.size := by omega
    have b0 := cell_blk (i := 0) kb1 rfl
    have b1 := cell_blk (i := 1) kb1 rfl
    have b2 := cell_blk (i := 2) kb1 rfl
    have fb := free_all kb1
    clear ha1 ka1 kb1
    go_wp2
    exact bodyPost_ret (v := .tuple #[.agg #[.slice none 0 0, .int .i64 0, .int .i64 0], .bool false]) (by simp [results, Try.results58, go_sem, *]) rfl (noGA_post (below_putN HB1.out (show w.heap.size ≤ w.heap.size + 1 by omega) 0 [.slice none 0 0, .int .i64 0, .int .i64 0]))
  | true =>
    rw [hg] at HGG
    have HTM := Lib.hid (grp_term hg)
    have HLZ := Lib.hid (fun gs hd2 => logs_small (gs := gs) hm hd2)
    cases hy : (elB tm (hs.map rdat) r) with
    | false =>
      rw [electA_no (.inr (by exact hy))]
      have HYES := Lib.hid hy
      clear hg hy h hm hn
      go_enter Try.func58, Try.ntmps58
      go_wp2_with fail
      (with_reducible refine HGG.out.mono ?_)
      rintro e w1 ⟨rfl, ha1⟩
      have HB1 := Lib.hid (HB0.out.trans (ha1.mono HB0.out.size))
      have ka1 := (ha1.block w.heap.size hza).trans HKA.out
      have kb1 := (ha1.block (w.heap.size + 1) hzb).trans HKB.out
      have hz1 : w.heap.size + 1 < w1.heap.size := Nat.lt_of_lt_of_le hzb ha1.size
      have hz0 : w.heap.size < w1.heap.size := by omega
      have a0 := cell_blk (i := 0) ka1 rfl
      have a1 := cell_blk (i := 1) ka1 rfl
      have a2 := cell_blk (i := 2) ka1 rfl
      have HKB1 := Lib.hid kb1
      clear ha1 ka1 kb1
      go_wp2_with fail
      (with_reducible refine (HCG.out _ HB1.out).mono ?_)
      rintro e w2 ⟨A2, c2, gs, rfl, hd2, ho2, ha2⟩
      have hgl : gs.length = n := (dats_len hd2).trans HN.out
      have hbx := below1 w2 (.cells #[.slice A2 n c2, .int .i64 tm, .int .i64 ld] 24)
      have hz2 := ha2.size
      have k6 := heap_alloc_new w2 (.cells #[.slice A2 n c2, .int .i64 tm, .int .i64 ld] 24)
      have hb2 := HB1.out.trans (ha2.mono HB1.out.size)
      have hb3 := hb2.trans (hbx.mono hb2.size)
      have hrr := (hb3.cell (p := ⟨pb, 0, none⟩) hpb).trans hr
      have HCL := Lib.hid (electRep_fn A2 n c2 w2.heap.size w1.heap.size w2.heap.size pb tm ld r gs (w2.alloc (.cells #[.slice A2 n c2, .int .i64 tm, .int .i64 ld] 24)) hrr hgl (ho2.since hbx) k6 (by simp; omega) (Nat.le_refl _) hz2 hl (HLZ.out gs hd2) HTM.out.1 HTM.out.2)
      rw [hd2, HYES.out] at HCL
      unfold ChPost at HCL
      have HKB3 := Lib.hid ((hbx.block _ (Nat.lt_of_lt_of_le hz1 hz2)).trans ((ha2.block _ hz1).trans HKB1.out))
      have HB3 := Lib.hid hb3
      have HZZ := Lib.hid (show w.heap.size + 1 < w1.heap.size ∧ w1.heap.size ≤ w2.heap.size ∧ w2.heap.size < (w2.alloc (.cells #[.slice A2 n c2, .int .i64 tm, .int .i64 ld] 24)).heap.size from ⟨hz1, hz2, by simp⟩)
      clear a0 a1 a2 hgl hbx k6 hb2 hb3 hrr hd2 ho2 ha2
      go_wp2_with fail
      (with_reducible refine HCL.out.mono ?_)
      rintro e w3 ⟨rfl, hb3, h3⟩
      have kb3 := (hb3.block (w.heap.size + 1) HZZ.out.1).trans HKB3.out
      have b0 := cell_blk (i := 0) kb3 rfl
      have b1 := cell_blk (i := 1) kb3 rfl
      have b2 := cell_blk (i := 2) kb3 rfl
      have fb := free_all kb3
      have lb := lt_blk kb3
      have hzz3 := hb3.size
      have HB4 := Lib.hid (show Below w.heap.size w w3 from HB3.out.trans (hb3.mono (by omega)))
      clear hb3 kb3 h3
      go_wp2
      exact bodyPost_ret (v := .tuple #[.agg #[.slice none 0 0, .int .i64 0, .int .i64 0], .bool false]) (by simp [results, Try.results58, go_sem, *]) rfl (noGA_post (below_putN HB4.out (show w.heap.size ≤ w.heap.size + 1 by omega) 0 [.slice none 0 0, .int .i64 0, .int .i64 0]))
    | true =>
      have hyy : electA tm ld (hs.map rdat) r = (hs.map rdat, tm + 1, r, true) := by unfold electA; rw [if_pos ⟨hg, by exact hy⟩]
      rw [hyy, GAPost_un]
      skip
      have HSL := Lib.hid (show (hs.map rdat).length = n by rw [List.length_map]; exact hn)
      have HYES := Lib.hid hy
      skip
      skip
      clear hyy hg hy h hm hn
      go_enter Try.func58, Try.ntmps58
      go_wp2_with fail
      (with_reducible refine HGG.out.mono ?_)
      rintro e w1 ⟨rfl, ha1⟩
      have HB1 := Lib.hid (HB0.out.trans (ha1.mono HB0.out.size))
      have ka1 := (ha1.block w.heap.size hza).trans HKA.out
      have kb1 := (ha1.block (w.heap.size + 1) hzb).trans HKB.out
      have hz1 : w.heap.size + 1 < w1.heap.size := Nat.lt_of_lt_of_le hzb ha1.size
      have hz0 : w.heap.size < w1.heap.size := by omega
      have a0 := cell_blk (i := 0) ka1 rfl
      have a1 := cell_blk (i := 1) ka1 rfl
      have a2 := cell_blk (i := 2) ka1 rfl
      have HKB1 := Lib.hid kb1
      clear ha1 ka1 kb1
      go_wp2_with fail
      (with_reducible refine (HCG.out _ HB1.out).mono ?_)
      rintro e w2 ⟨A2, c2, gs, rfl, hd2, ho2, ha2⟩
      have hgl : gs.length = n := (dats_len hd2).trans HN.out
      have hbx := below1 w2 (.cells #[.slice A2 n c2, .int .i64 tm, .int .i64 ld] 24)
      have hz2 := ha2.size
      have k6 := heap_alloc_new w2 (.cells #[.slice A2 n c2, .int .i64 tm, .int .i64 ld] 24)
      have hb2 := HB1.out.trans (ha2.mono HB1.out.size)
      have hb3 := hb2.trans (hbx.mono hb2.size)
      have hrr := (hb3.cell (p := ⟨pb, 0, none⟩) hpb).trans hr
      have HCL := Lib.hid (electRep_fn A2 n c2 w2.heap.size w1.heap.size w2.heap.size pb tm ld r gs (w2.alloc (.cells #[.slice A2 n c2, .int .i64 tm, .int .i64 ld] 24)) hrr hgl (ho2.since hbx) k6 (by simp; omega) (Nat.le_refl _) hz2 hl (HLZ.out gs hd2) HTM.out.1 HTM.out.2)
      rw [hd2, HYES.out] at HCL
      unfold ChPost at HCL
      have HKB3 := Lib.hid ((hbx.block _ (Nat.lt_of_lt_of_le hz1 hz2)).trans ((ha2.block _ hz1).trans HKB1.out))
      have HB3 := Lib.hid hb3
      have HZZ := Lib.hid (show w.heap.size + 1 < w1.heap.size ∧ w1.heap.size ≤ w2.heap.size ∧ w2.heap.size < (w2.alloc (.cells #[.slice A2 n c2, .int .i64 tm, .int .i64 ld] 24)).heap.size from ⟨hz1, hz2, by simp⟩)
      clear a0 a1 a2 hgl hbx k6 hb2 hb3 hrr hd2 ho2 ha2
      go_wp2_with fail
      (with_reducible refine HCL.out.mono ?_)
      rintro e w3 ⟨rfl, hb3, h3⟩
      have kb3 := (hb3.block (w.heap.size + 1) HZZ.out.1).trans HKB3.out
      have b0 := cell_blk (i := 0) kb3 rfl
      have b1 := cell_blk (i := 1) kb3 rfl
      have b2 := cell_blk (i := 2) kb3 rfl
      have fb := free_all kb3
      have lb := lt_blk kb3
      have hzz3 := hb3.size
      obtain ⟨gs3, hd3, ho3, k63⟩ := h3 (by trivial)
      skip
      have t0 := cell_blk (i := 0) k63 rfl
      have t1 := cell_blk (i := 1) k63 rfl
      have t2 := cell_blk (i := 2) k63 rfl
      have tl := lt_blk k63
      have HD3 := Lib.hid hd3
      have HO3 := Lib.hid ho3
      have HB4 := Lib.hid (show Below w.heap.size w w3 from HB3.out.trans (hb3.mono (by omega)))
      clear hb3 kb3 h3 hd3 ho3 k63
      go_wp2
      exact bodyPost_ret (v := .tuple #[.agg #[.slice A2 n c2, .int .i64 (tm + 1), .int .i64 r], .bool true]) (by simp [results, Try.results58, go_sem, *]) rfl ⟨A2, c2, gs3, by rw [HSL.out], HD3.out,
        (HO3.out.keep (keep_putN (g := w.heap.size + 1) (.inl HZZ.out.1) 0 [.slice A2 n c2, .int .i64 (tm + 1), .int .i64 r])).wider (by have := HZZ.out; omega) (by simp [World.setCell]; have := HZZ.out; omega),
        below_putN HB4.out (show w.heap.size ≤ w.heap.size + 1 by omega) 0 [.slice A2 n c2, .int .i64 (tm + 1), .int .i64 r]⟩
set_option maxRecDepth 100000 in
set_option maxHeartbeats 4000000 in
theorem implElectRep_any (A : Option Addr) (n c : Nat) (tm ld r : Int) (hs : List RH) (B : Nat) (w : World) (hn : hs.length = n) (h : RowsB KR w B A hs) (hB : B ≤ w.heap.size) (hm : RpSmall (hs.map rdat)) :
    Calls Try.prog 27 #[.agg #[.slice A n c, .int .i64 tm, .int .i64 ld], .int .i64 r] w (GAPost (electA tm ld (hs.map rdat) r) w) := by
  have hb0 := below3 w (.cells #[.slice A n c, .int .i64 tm, .int .i64 ld] 24) (.cells #[.int .i64 r] 3) (.cells #[.slice none 0 0, .int .i64 0, .int .i64 0] 24)
  have kr := alloc3_b w (.cells #[.slice A n c, .int .i64 tm, .int .i64 ld] 24) (.cells #[.int .i64 r] 3) (.cells #[.slice none 0 0, .int .i64 0, .int .i64 0] 24)
  have kz := alloc3_c w (.cells #[.slice A n c, .int .i64 tm, .int .i64 ld] 24) (.cells #[.int .i64 r] 3) (.cells #[.slice none 0 0, .int .i64 0, .int .i64 0] 24)
  have HC := Lib.hid (changeElectRep_any A n c (w.heap.size + 1) tm ld r hs B _ hn (h.below (hb0.mono hB)) (Nat.le_trans hB hb0.size) hm (cell_blk (i := 0) kr rfl) (by simp))
  obtain ⟨⟨l, at_, al, ok⟩, hans⟩ : ∃ a, a = electA tm ld (hs.map rdat) r := ⟨_, rfl⟩
  rw [← hans] at HC ⊢
  rw [GAPost_un] at HC ⊢
  have hmf : ∀ (fn : Fn) (first cap : Array Value) (w : World), (Instr.makeFunc fn first cap).run Try.prog w = .ok (.func fn first cap) w := fun _ _ _ _ => rfl
  have HB0 := Lib.hid hb0
  have HKZ := Lib.hid kz
  have hzz : w.heap.size + 1 + 1 < (((w.alloc (.cells #[.slice A n c, .int .i64 tm, .int .i64 ld] 24)).alloc (.cells #[.int .i64 r] 3)).alloc (.cells #[.slice none 0 0, .int .i64 0, .int .i64 0] 24)).heap.size := by simp
  clear hb0 kr kz hans h hm hn
  go_enter Try.func27, Try.ntmps27
  go_wp2_with fail
  (with_reducible refine HC.out.mono ?_)
  rintro e w1 ⟨A1, c1, gs, rfl, hd1, ho1, ha1⟩
  have kz1 := (ha1.block (w.heap.size + 1 + 1) hzz).trans HKZ.out
  have z0 := cell_blk (i := 0) kz1 rfl
  have z1 := cell_blk (i := 1) kz1 rfl
  have z2 := cell_blk (i := 2) kz1 rfl
  have fz := free_all kz1
  have zl := lt_blk kz1
  have HB1 := Lib.hid (HB0.out.trans (ha1.mono HB0.out.size))
  have HO1 := Lib.hid ho1
  have HD1 := Lib.hid hd1
  obtain ⟨nl, hnl⟩ : ∃ nl, nl = l.length := ⟨_, rfl⟩
  rw [← hnl]
  have HNL := Lib.hid hnl
  clear kz1 ha1 ho1 hd1 hnl
  go_wp2
  exact bodyPost_ret (v := .tuple #[.agg #[.slice A1 nl c1, .int .i64 at_, .int .i64 al], .bool ok]) (by simp [results, Try.results27, go_sem, *]) rfl ⟨A1, c1, gs, by rw [HNL.out], HD1.out,
    (HO1.out.keep (keep_putN (g := w.heap.size + 1 + 1) (.inl hzz) 0 [.slice A1 nl c1, .int .i64 at_, .int .i64 al])).wider HB0.out.size (by simp [World.setCell]),
    below_putN HB1.out (show w.heap.size ≤ w.heap.size + 1 + 1 by omega) 0 [.slice A1 nl c1, .int .i64 at_, .int .i64 al]⟩
end Go.Proofs.Ytnmhigbnlpcedaa.Gr
