/-
  Contracts for CopyTo of the program.
-/
import Derived.Test.YtkhndofplebcaaaGrCpM
import Derived.Test.YtkhndofplebcaaaGrOw
import Derived.Test.YtkhndofplebcaaaGrCrI
import Derived.Deep.RegionHeld3
import Derived.Deep.RegionWith
namespace Go.Proofs.Ytkhndofplebcaaa.Gr
open Go.RowKit CM
set_option linter.unusedVariables false
set_option linter.unusedSimpArgs false

def ChPostW (yes : Bool) (vs : List RD) (tm ld' : Int) (b0 lo n c : Nat) (A : Option Addr) (w : World) (e : Ending) (w' : World) : Prop :=
  e = .returned (.bool yes) ∧ Below lo w w' ∧ (yes = true → ∃ gs', gs'.map rdat = vs ∧ OwnK KR w' lo w'.heap.size A c gs' ∧ w'.heap[b0]? = some (.cells #[.slice A n c, .int .i64 tm, .int .i64 ld'] 45 (0, 0)))

set_option maxRecDepth 100000 in
set_option maxHeartbeats 8000000 in
theorem copyTo_any (A : Option Addr) (n c b0 lo hi : Nat) (tm ld r : Int) (gs : List RH) (w : World) (hn : gs.length = n) (ho : OwnK KR w lo hi A c gs) (hk : w.heap[b0]? = some (.cells #[.slice A n c, .int .i64 tm, .int .i64 ld] 45 (0, 0))) (hlo : lo ≤ w.heap.size) (hb : hi ≤ b0) (hlh : lo ≤ hi) (hl : n ≤ 1048576) (hm : RpSmall (gs.map rdat)) (hg : grpB tm ld (gs.map rdat) = true) :
    Calls Try.prog 78 #[.pointer (some ⟨b0, 0, none⟩), .int .i64 r] w (ChPostW (cpyB ld (gs.map rdat) r) (cpyRs (gs.map rdat) r.toNat ld.toNat) tm ld b0 lo n c A w) := by
  have hbw := lt_blk hk
  have hhi : hi ≤ w.heap.size := by omega
  have k0 := cell_blk (i := 0) hk rfl
  have k1 := cell_blk (i := 1) hk rfl
  have k2 := cell_blk (i := 2) hk rfl
  have HHL := Lib.hid (fun W => hasLeader_any A n c tm ld W)
  have HK := Lib.hid hk
  unfold cpyB
  by_cases hld : ld = -1
  · subst hld
    unfold ChPostW
    simp only [ne_eq, not_true_eq_false, decide_false, Bool.false_and, Bool.false_eq_true, false_implies, and_true]
    rw [show ((-1 : Int) != -1) = false from rfl] at HHL
    clear ho hk hm hg hn
    go_enter Try.func78, Try.ntmps78
    go_wp2_with fail
    refine (HHL.out _).mono ?_
    rintro e w1 ⟨rfl, ha1⟩
    have HLB := Lib.hid (ha1.mono hlo)
    clear ha1 k0 k1 k2
    go_wp2
    go_ret
    exact ⟨rfl, HLB.out⟩
  · rw [decide_eq_true hld, Bool.true_and]
    rw [show (ld != -1) = true by simpa using hld] at HHL
    by_cases hrl : r = ld
    · subst hrl
      unfold ChPostW
      simp only [ne_eq, not_true_eq_false, decide_false, Bool.false_and, Bool.false_eq_true, false_implies, and_true]
      clear ho hk hm hg hn hld
      go_enter Try.func78, Try.ntmps78
      go_wp2_with fail
      refine (HHL.out _).mono ?_
      rintro e w1 ⟨rfl, ha1⟩
      have kk := (ha1.block b0 hbw).trans HK.out
      have x2 := cell_blk (i := 2) kk rfl
      have xl := lt_blk kk
      have HLB := Lib.hid (ha1.mono hlo)
      clear ha1 k0 k1 k2 kk
      go_wp2
      go_ret
      exact ⟨rfl, HLB.out⟩
    · rw [decide_eq_true hrl, Bool.true_and]
      have hrb : (r == ld) = false := by simpa using hrl
      have HU := Lib.hid (fun W (hW : Below w.heap.size w W) => isUp_any A n c tm ld r gs hi W hn (ho.rows.below (hW.mono hhi)) (Nat.le_trans hhi hW.size) hl)
      cases hu : isUpB (gs.map rdat) r with
      | false =>
        rw [hu] at HU
        unfold ChPostW
        simp only [Bool.false_eq_true, false_implies, and_true]
        clear ho hk hm hg hn hld hu hrl
        go_enter Try.func78, Try.ntmps78
        go_wp2_with fail
        refine (HHL.out _).mono ?_
        rintro e w1 ⟨rfl, ha1⟩
        have kk := (ha1.block b0 hbw).trans HK.out
        have x0 := cell_blk (i := 0) kk rfl
        have x1 := cell_blk (i := 1) kk rfl
        have x2 := cell_blk (i := 2) kk rfl
        have xl := lt_blk kk
        have HA1 := Lib.hid ha1
        clear ha1 k0 k1 k2 kk
        go_wp2_with fail
        (with_reducible refine (HU.out _ HA1.out).mono ?_)
        rintro e w2 ⟨rfl, ha2⟩
        have HLB := Lib.hid ((HA1.out.trans (ha2.mono HA1.out.size)).mono hlo)
        clear ha2 x0 x1 x2
        go_wp2
        go_ret
        exact ⟨rfl, HLB.out⟩
      | true =>
        rw [hu] at HU
        obtain ⟨l, hl', hln⟩ := lead_of hg hld
        rw [List.length_map] at hln
        subst hl'
        obtain ⟨q, hq, hqn⟩ := hasB_nat (by unfold isUpB at hu; rw [List.length_map, hn] at hu; simp only [Bool.and_eq_true] at hu; exact hu.1)
        subst hq
        have hqg : q < gs.length := by omega
        have hup : gs[q].up = true := by
          unfold isUpB at hu
          rw [Int.toNat_natCast] at hu
          simp only [Bool.and_eq_true] at hu
          have h9 := hu.2
          simp only [upAt, List.getElem?_map, List.getElem?_eq_getElem hqg, Option.map_some, rdat] at h9
          exact h9
        rw [Int.toNat_natCast, Int.toNat_natCast]
        obtain ⟨g, cur, rfl, hg1, hg2, _⟩ := ho.form (by omega)
        have hq0 : (0 : Int) ≤ (q : Int) := by omega
        have hq1 : (q : Int) < (n : Int) := by omega
        have hl0 : (0 : Int) ≤ (l : Int) := by omega
        have hl1 : (l : Int) < (n : Int) := by omega
        have hsl : LgSmall (gs[l].es.map EH.d) := hm.2 (rdat gs[l]) (List.mem_map_of_mem (List.getElem_mem hln))
        obtain ⟨v, hv⟩ : ∃ v, v = cpyV (gs.map rdat) q l := ⟨_, rfl⟩
        have hcr : cpyRs (gs.map rdat) q l = (gs.map rdat).set q ⟨true, v, gs[l].es.map EH.d⟩ := by unfold cpyRs; rw [lgOf_map hln, hv]
        have HCR := Lib.hid hcr
        have HOW := Lib.hid ho
        have HQ := Lib.hid hqg
        have HL := Lib.hid hln
        have HUP := Lib.hid hup
        have HSL := Lib.hid hsl
        have l0 : w.cell? ⟨g, l * 3, none⟩ = some (.bool gs[l].up) := ho.cell l hln 0 (by decide)
        have l1 : w.cell? ⟨g, l * 3 + 1, none⟩ = some (.slice gs[l].A gs[l].es.length gs[l].c) := ho.cell l hln 1 (by decide)
        have l2 : w.cell? ⟨g, l * 3 + 2, none⟩ = some (.int .i64 gs[l].su) := ho.cell l hln 2 (by decide)
        have q2 : w.cell? ⟨g, q * 3 + 2, none⟩ = some (.int .i64 gs[q].su) := ho.cell q hqg 2 (by decide)
        have FR := Lib.hid (fun i => ho.free (by omega) i)
        have hgl : g < w.heap.size := ho.bounds.2.2
        have hrl2 : l * 3 ≠ q * 3 := by omega
        have HCL := Lib.hid (fun W (hW : Below w.heap.size w W) => copyLog_any gs[l].A gs[l].es.length gs[l].c gs[l].es hi W rfl ((ho.rows.at l hln).below (hW.mono hhi)) (Nat.le_trans hhi hW.size) hsl)
        obtain ⟨lu, hlu⟩ : ∃ lu, lu = gs[l].up := ⟨_, rfl⟩
        obtain ⟨lA, hlA⟩ : ∃ lA, lA = gs[l].A := ⟨_, rfl⟩
        obtain ⟨ln, hln2⟩ : ∃ ln, ln = gs[l].es.length := ⟨_, rfl⟩
        obtain ⟨lc, hlc⟩ : ∃ lc, lc = gs[l].c := ⟨_, rfl⟩
        obtain ⟨ls, hls⟩ : ∃ ls, ls = gs[l].su := ⟨_, rfl⟩
        obtain ⟨qs, hqs⟩ : ∃ qs, qs = gs[q].su := ⟨_, rfl⟩
        rw [← hlA, ← hlc, ← hln2] at HCL
        rw [← hlu] at l0
        rw [← hlA, ← hlc, ← hln2] at l1
        rw [← hls] at l2
        rw [← hqs] at q2
        have hvv : v = min (max ls qs) (ln : Int) := by rw [hv, hls, hqs, hln2]; unfold cpyV; rw [lgOf_map hln, srOf_map hln, srOf_map hqg, List.length_map]; rfl
        have HLN := Lib.hid hln2
        have L0 := Lib.hid l0
        have L1 := Lib.hid l1
        have L2 := Lib.hid l2
        have Q2 := Lib.hid q2
        have HVV := Lib.hid hvv
        unfold ChPostW
        clear ho hk hm hg hn hld hu hrl hup hsl hcr hv hvv l0 l1 l2 q2 hlu hlA hln2 hlc hls hqs
        go_enter Try.func78, Try.ntmps78
        go_wp2_with fail
        refine (HHL.out _).mono ?_
        rintro e w1 ⟨rfl, ha1⟩
        have kk := (ha1.block b0 hbw).trans HK.out
        have x0 := cell_blk (i := 0) kk rfl
        have x1 := cell_blk (i := 1) kk rfl
        have x2 := cell_blk (i := 2) kk rfl
        have xl := lt_blk kk
        have HA1 := Lib.hid ha1
        clear ha1 k0 k1 k2 kk
        go_wp2_with fail
        (with_reducible refine (HU.out _ HA1.out).mono ?_)
        rintro e w2 ⟨rfl, ha2⟩
        have hw2 := HA1.out.trans (ha2.mono HA1.out.size)
        have kk := (hw2.block b0 hbw).trans HK.out
        have x0 := cell_blk (i := 0) kk rfl
        have x1 := cell_blk (i := 1) kk rfl
        have x2 := cell_blk (i := 2) kk rfl
        have xl := lt_blk kk
        have l0 := (hw2.cell (p := ⟨g, l * 3, none⟩) hgl).trans L0.out
        have l1 := (hw2.cell (p := ⟨g, l * 3 + 1, none⟩) hgl).trans L1.out
        have l2 := (hw2.cell (p := ⟨g, l * 3 + 2, none⟩) hgl).trans L2.out
        have hgl2 : g < w2.heap.size := Nat.lt_of_lt_of_le hgl hw2.size
        have HW2 := Lib.hid hw2
        clear ha2 hw2 kk
        go_wp2_with fail
        go_region
        obtain ⟨V, hV⟩ : ∃ V, V = (w2.alloc (.cells #[.bool lu, .slice lA ln lc, .int .i64 ls] 91)).drew := ⟨_, rfl⟩
        have hbV : Below w2.heap.size w2 V := by rw [hV]; exact (below1 _ _).drew
        have kV : V.heap[w2.heap.size]? = some (.cells #[.bool lu, .slice lA ln lc, .int .i64 ls] 91 (0, 0)) := by rw [hV]; exact heap_alloc_new w2 _
        rw [← hV]
        have hwV := HW2.out.trans (hbV.mono HW2.out.size)
        have v1 := cell_blk (i := 1) kV rfl
        have vl := lt_blk kV
        have HCV := Lib.hid (HCL.out V hwV)
        unfold CopyLPost at HCV
        have HKV := Lib.hid kV
        have HWV := Lib.hid hwV
        have hzV := hwV.size
        have hgV : g < V.heap.size := Nat.lt_of_lt_of_le hgl hzV
        clear hV hbV kV hwV x0 x1 x2 xl l0 l1 l2
        go_wp2_with fail
        (with_reducible refine HCV.out.mono ?_)
        rintro e w3 ⟨A1, c1, es, rfl, hes, hoe, ha3⟩
        have hw3 := HWV.out.trans (ha3.mono hzV)
        have ho3 := HOW.out.since hw3
        have r1 := ho3.cell q HQ.out 1 (by decide)
        have r1s : (w3.cell? ⟨g, q * 3 + 1, none⟩) = some (.slice gs[q].A gs[q].es.length gs[q].c) := r1
        have fr := fun i => ho3.free (by have := HQ.out; omega) i
        have hg3 := ho3.bounds.2.2
        have k3 := (ha3.block _ vl).trans HKV.out
        have kb3 := (hw3.block _ hbw).trans HK.out
        have HK3 := Lib.hid k3
        have HB3 := Lib.hid kb3
        have HW3 := Lib.hid hw3
        have HO3 := Lib.hid ho3
        have HE := Lib.hid hoe
        have HES := Lib.hid hes
        have hz3 := ha3.size
        have e2 : es.length = ln := by have := congrArg List.length hes; simpa [HLN.out] using this
        have HQ3 := Lib.hid ((hw3.cell (p := ⟨g, q * 3 + 2, none⟩) hgl).trans Q2.out)
        clear hw3 ho3 r1 k3 kb3 hoe hes ha3 v1
        go_wp2_with fail
        obtain ⟨W4, hW4⟩ : ∃ W4, W4 = w3.setCell ⟨g, q * 3 + 1, none⟩ (.slice A1 ln c1) := ⟨_, rfl⟩
        have hng : w2.heap.size ≠ g := by omega
        have k4 : W4.heap[w2.heap.size]? = some (.cells #[.bool lu, .slice lA ln lc, .int .i64 ls] 91 (0, 0)) := by rw [hW4]; exact (Below.heap_setCell _ _ _ _ hng).trans HK3.out
        have y1 := cell_blk (i := 1) k4 rfl
        have y2 := cell_blk (i := 2) k4 rfl
        have yl := lt_blk k4
        have hq4 : W4.cell? ⟨g, q * 3 + 2, none⟩ = some (.int .i64 qs) := by
          rw [hW4, World.cell?_setCell_other]
          · exact HQ3.out
          · intro h; injection h with _ h; omega
        have fr4 : ∀ i, W4.frozen? ⟨g, i, none⟩ = false := fun i => by rw [hW4, World.frozen?_setCell]; exact fr i
        have hg4 : g < W4.heap.size := by rw [hW4]; simpa [World.setCell] using hg3
        rw [← hW4]
        have HW4 := Lib.hid hW4
        clear hW4 k4 r1s fr hg3 HQ3 hng
        go_wp2_with fail
        go_region
        have hiV : hi ≤ V.heap.size := by omega
        have h8 := own_cpy2 HO3.out HQ.out HUP.out (v := min (max ls qs) (ln : Int)) hz3 HE.out hiV
        rw [e2, ← HW4.out] at h8
        have H8 := Lib.hid h8
        have hbg : b0 ≠ g := by omega
        have HB8 := Lib.hid (show (W4.setCell ⟨g, q * 3 + 2, none⟩ (.int .i64 (min (max ls qs) (ln : Int)))).heap[b0]? = _ from (Below.heap_setCell _ _ _ _ hbg).trans ((show W4.heap[b0]? = w3.heap[b0]? by rw [HW4.out]; exact Below.heap_setCell _ _ _ _ hbg).trans HB3.out))
        have HW8 := Lib.hid (show Below lo w W4 by rw [HW4.out]; exact (HW3.out.mono hlo).setCell (p := ⟨g, q * 3 + 1, none⟩) hg1 _)
        have HZ8 := Lib.hid (show w3.heap.size ≤ (W4.setCell ⟨g, q * 3 + 2, none⟩ (.int .i64 (min (max ls qs) (ln : Int)))).heap.size by rw [HW4.out]; simp [World.setCell])
        clear h8 y1 y2 hq4 fr4
        go_wp2
        go_ret
        exact ⟨rfl, (HW8.out.setCell (p := ⟨g, q * 3 + 2, none⟩) hg1 _).drew, fun _ => ⟨cpyH gs q (min (max ls qs) (ln : Int)) A1 c1 es V.heap.size w3.heap.size, by rw [cpyH_map, HCR.out, HVV.out, HES.out]; rfl, (H8.out.keep (fun b _ _ _ => rfl)).wider (Nat.le_refl _) HZ8.out, HB8.out⟩⟩

set_option maxHeartbeats 1000000 in
theorem copyTo_fn (A : Option Addr) (n c b0 lo hi pb : Nat) (tm ld r : Int) (gs : List RH) (w : World) (hr : w.cell? ⟨pb, 0, none⟩ = some (.int .i64 r)) (hn : gs.length = n) (ho : OwnK KR w lo hi A c gs) (hk : w.heap[b0]? = some (.cells #[.slice A n c, .int .i64 tm, .int .i64 ld] 45 (0, 0))) (hlo : lo ≤ w.heap.size) (hb : hi ≤ b0) (hlh : lo ≤ hi) (hl : n ≤ 1048576) (hm : RpSmall (gs.map rdat)) (hg : grpB tm ld (gs.map rdat) = true) :
    Calls Try.prog 77 #[.pointer (some ⟨b0, 0, none⟩), .pointer (some ⟨pb, 0, none⟩)] w (ChPostW (cpyB ld (gs.map rdat) r) (cpyRs (gs.map rdat) r.toNat ld.toNat) tm ld b0 lo n c A w) := by
  have HC := Lib.hid (copyTo_any A n c b0 lo hi tm ld r gs w hn ho hk hlo hb hlh hl hm hg)
  obtain ⟨vv, hvv⟩ : ∃ vv, vv = cpyRs (gs.map rdat) r.toNat ld.toNat := ⟨_, rfl⟩
  rw [← hvv] at HC ⊢
  obtain ⟨yy, hyy⟩ : ∃ yy, yy = (cpyB ld (gs.map rdat) r) := ⟨_, rfl⟩
  rw [← hyy] at HC ⊢
  unfold ChPostW at HC ⊢
  clear hn ho hk hlo hb hlh hl hyy hm hg hvv
  go_enter Try.func77, Try.ntmps77
  go_wp2_with fail
  (with_reducible refine HC.out.mono ?_)
  rintro e w1 ⟨rfl, hb1, h1⟩
  have HR := Lib.hid (And.intro hb1 h1)
  clear hb1 h1
  go_wp2
  go_ret
  exact ⟨rfl, HR.out.1, HR.out.2⟩

set_option maxRecDepth 100000 in
set_option maxHeartbeats 4000000 in
theorem changeCopyTo_any (A : Option Addr) (n c pb : Nat) (tm ld r : Int) (hs : List RH) (B : Nat) (w : World) (hn : hs.length = n) (h : RowsB KR w B A hs) (hB : B ≤ w.heap.size) (hm : RpSmall (hs.map rdat)) (hr : w.cell? ⟨pb, 0, none⟩ = some (.int .i64 r)) (hpb : pb < w.heap.size) :
    Calls Try.prog 64 #[.agg #[.slice A n c, .int .i64 tm, .int .i64 ld], .func (Fn.func 77) #[] #[.pointer (some ⟨pb, 0, none⟩)]] w (GAPost (cpyA tm ld (hs.map rdat) r) w) := by
  have hb0 := below2 w (.cells #[.slice A n c, .int .i64 tm, .int .i64 ld] 45) (.cells #[.slice none 0 0, .int .i64 0, .int .i64 0] 45)
  have ka0 := alloc2_a w (.cells #[.slice A n c, .int .i64 tm, .int .i64 ld] 45) (.cells #[.slice none 0 0, .int .i64 0, .int .i64 0] 45)
  have kb0 := alloc2_b w (.cells #[.slice A n c, .int .i64 tm, .int .i64 ld] 45) (.cells #[.slice none 0 0, .int .i64 0, .int .i64 0] 45)
  have hl : n ≤ 1048576 := by have := hm.1; simp at this; omega
  have HGG := Lib.hid (implGoodGroup_any A n c tm ld hs B _ hn (h.below (hb0.mono hB)) (Nat.le_trans hB hb0.size) hm)
  have HCG := Lib.hid (fun W (hW : Below w.heap.size w W) => copyGroup_any A n c tm ld hs B W hn (h.below (hW.mono hB)) (Nat.le_trans hB hW.size) hm)
  have HB0 := Lib.hid hb0
  have HKA := Lib.hid ka0
  have HKB := Lib.hid kb0
  have HN := Lib.hid hn
  have hza : w.heap.size < ((w.alloc (.cells #[.slice A n c, .int .i64 tm, .int .i64 ld] 45)).alloc (.cells #[.slice none 0 0, .int .i64 0, .int .i64 0] 45)).heap.size := by simp; omega
  have hzb : w.heap.size + 1 < ((w.alloc (.cells #[.slice A n c, .int .i64 tm, .int .i64 ld] 45)).alloc (.cells #[.slice none 0 0, .int .i64 0, .int .i64 0] 45)).heap.size := by simp
  clear hb0 ka0 kb0
  cases hg : grpB tm ld (hs.map rdat) with
  | false =>
    rw [hg] at HGG
    rw [cpyA_no (.inl hg)]
    clear hg h hm hn
    go_enter Try.func64, Try.ntmps64
    go_wp2_with fail
    (with_reducible refine HGG.out.mono ?_)
    rintro e w1 ⟨rfl, ha1⟩
    have HB1 := Lib.hid (HB0.out.trans (ha1.mono HB0.out.size))
    have ka1 := (ha1.block w.heap.size hza).trans HKA.out
    have kb1 := (ha1.block (w.heap.size + 1) hzb).trans HKB.out
    have hz1 : w.heap.size + 1 < w1.heap.size := Nat.lt_of_lt_of_le hzb ha1.size
    have hz0 : w.heap.size < w1.heap.size := by omega
    have b0 := cell_blk (i := 0) kb1 rfl
    have b1 := cell_blk (i := 1) kb1 rfl
    have b2 := cell_blk (i := 2) kb1 rfl
    have fb := free_all kb1
    clear ha1 ka1 kb1
    go_wp2
    exact bodyPost_ret (v := .tuple #[.agg #[.slice none 0 0, .int .i64 0, .int .i64 0], .bool false]) (by simp [results, Try.results64, go_sem, *]) rfl (noGA_post (below_putN HB1.out (show w.heap.size ≤ w.heap.size + 1 by omega) 0 [.slice none 0 0, .int .i64 0, .int .i64 0]))
  | true =>
    rw [hg] at HGG
    have HTM := Lib.hid (fun (gs : List RH) (hd2 : gs.map rdat = hs.map rdat) => (show grpB tm ld (gs.map rdat) = true by rw [hd2]; exact hg))
    have HLZ := Lib.hid (fun (gs : List RH) (hd2 : gs.map rdat = hs.map rdat) => (show RpSmall (gs.map rdat) by rw [hd2]; exact hm))
    cases hy : (cpyB ld (hs.map rdat) r) with
    | false =>
      rw [cpyA_no (.inr (by exact hy))]
      have HYES := Lib.hid hy
      clear hg hy h hm hn
      go_enter Try.func64, Try.ntmps64
      go_wp2_with fail
      (with_reducible refine HGG.out.mono ?_)
      rintro e w1 ⟨rfl, ha1⟩
      have HB1 := Lib.hid (HB0.out.trans (ha1.mono HB0.out.size))
      have ka1 := (ha1.block w.heap.size hza).trans HKA.out
      have kb1 := (ha1.block (w.heap.size + 1) hzb).trans HKB.out
      have hz1 : w.heap.size + 1 < w1.heap.size := Nat.lt_of_lt_of_le hzb ha1.size
      have hz0 : w.heap.size < w1.heap.size := by omega
      have a0 := cell_blk (i := 0) ka1 rfl
      have a1 := cell_blk (i := 1) ka1 rfl
      have a2 := cell_blk (i := 2) ka1 rfl
      have HKB1 := Lib.hid kb1
      clear ha1 ka1 kb1
      go_wp2_with fail
      (with_reducible refine (HCG.out _ HB1.out).mono ?_)
      rintro e w2 ⟨A2, c2, gs, rfl, hd2, ho2, ha2⟩
      have hgl : gs.length = n := (dats_len hd2).trans HN.out
      have hbx := below1 w2 (.cells #[.slice A2 n c2, .int .i64 tm, .int .i64 ld] 45)
      have hz2 := ha2.size
      have k6 := heap_alloc_new w2 (.cells #[.slice A2 n c2, .int .i64 tm, .int .i64 ld] 45)
      have hb2 := HB1.out.trans (ha2.mono HB1.out.size)
      have hb3 := hb2.trans (hbx.mono hb2.size)
      have hrr := (hb3.cell (p := ⟨pb, 0, none⟩) hpb).trans hr
      have HCL := Lib.hid (copyTo_fn A2 n c2 w2.heap.size w1.heap.size w2.heap.size pb tm ld r gs (w2.alloc (.cells #[.slice A2 n c2, .int .i64 tm, .int .i64 ld] 45)) hrr hgl (ho2.since hbx) k6 (by simp; omega) (Nat.le_refl _) hz2 hl (HLZ.out gs hd2) (HTM.out gs hd2))
      rw [hd2, HYES.out] at HCL
      unfold ChPostW at HCL
      have HKB3 := Lib.hid ((hbx.block _ (Nat.lt_of_lt_of_le hz1 hz2)).trans ((ha2.block _ hz1).trans HKB1.out))
      have HB3 := Lib.hid hb3
      have HZZ := Lib.hid (show w.heap.size + 1 < w1.heap.size ∧ w1.heap.size ≤ w2.heap.size ∧ w2.heap.size < (w2.alloc (.cells #[.slice A2 n c2, .int .i64 tm, .int .i64 ld] 45)).heap.size from ⟨hz1, hz2, by simp⟩)
      clear a0 a1 a2 hgl hbx k6 hb2 hb3 hrr hd2 ho2 ha2
      go_wp2_with fail
      (with_reducible refine HCL.out.mono ?_)
      rintro e w3 ⟨rfl, hb3, h3⟩
      have kb3 := (hb3.block (w.heap.size + 1) HZZ.out.1).trans HKB3.out
      have b0 := cell_blk (i := 0) kb3 rfl
      have b1 := cell_blk (i := 1) kb3 rfl
      have b2 := cell_blk (i := 2) kb3 rfl
      have fb := free_all kb3
      have lb := lt_blk kb3
      have hzz3 := hb3.size
      have HB4 := Lib.hid (show Below w.heap.size w w3 from HB3.out.trans (hb3.mono (by omega)))
      clear hb3 kb3 h3
      go_wp2
      exact bodyPost_ret (v := .tuple #[.agg #[.slice none 0 0, .int .i64 0, .int .i64 0], .bool false]) (by simp [results, Try.results64, go_sem, *]) rfl (noGA_post (below_putN HB4.out (show w.heap.size ≤ w.heap.size + 1 by omega) 0 [.slice none 0 0, .int .i64 0, .int .i64 0]))
    | true =>
      have hyy : cpyA tm ld (hs.map rdat) r = (cpyRs (hs.map rdat) r.toNat ld.toNat, tm, ld, true) := by unfold cpyA; rw [if_pos ⟨hg, by exact hy⟩]
      rw [hyy, GAPost_un]
      rw [show (cpyRs (hs.map rdat) r.toNat ld.toNat).length = (hs.map rdat).length by simp [cpyRs]]
      have HSL := Lib.hid (show (hs.map rdat).length = n by rw [List.length_map]; exact hn)
      have HYES := Lib.hid hy
      skip
      skip
      clear hyy hg hy h hm hn
      go_enter Try.func64, Try.ntmps64
      go_wp2_with fail
      (with_reducible refine HGG.out.mono ?_)
      rintro e w1 ⟨rfl, ha1⟩
      have HB1 := Lib.hid (HB0.out.trans (ha1.mono HB0.out.size))
      have ka1 := (ha1.block w.heap.size hza).trans HKA.out
      have kb1 := (ha1.block (w.heap.size + 1) hzb).trans HKB.out
      have hz1 : w.heap.size + 1 < w1.heap.size := Nat.lt_of_lt_of_le hzb ha1.size
      have hz0 : w.heap.size < w1.heap.size := by omega
      have a0 := cell_blk (i := 0) ka1 rfl
      have a1 := cell_blk (i := 1) ka1 rfl
      have a2 := cell_blk (i := 2) ka1 rfl
      have HKB1 := Lib.hid kb1
      clear ha1 ka1 kb1
      go_wp2_with fail
      (with_reducible refine (HCG.out _ HB1.out).mono ?_)
      rintro e w2 ⟨A2, c2, gs, rfl, hd2, ho2, ha2⟩
      have hgl : gs.length = n := (dats_len hd2).trans HN.out
      have hbx := below1 w2 (.cells #[.slice A2 n c2, .int .i64 tm, .int .i64 ld] 45)
      have hz2 := ha2.size
      have k6 := heap_alloc_new w2 (.cells #[.slice A2 n c2, .int .i64 tm, .int .i64 ld] 45)
      have hb2 := HB1.out.trans (ha2.mono HB1.out.size)
      have hb3 := hb2.trans (hbx.mono hb2.size)
      have hrr := (hb3.cell (p := ⟨pb, 0, none⟩) hpb).trans hr
      have HCL := Lib.hid (copyTo_fn A2 n c2 w2.heap.size w1.heap.size w2.heap.size pb tm ld r gs (w2.alloc (.cells #[.slice A2 n c2, .int .i64 tm, .int .i64 ld] 45)) hrr hgl (ho2.since hbx) k6 (by simp; omega) (Nat.le_refl _) hz2 hl (HLZ.out gs hd2) (HTM.out gs hd2))
      rw [hd2, HYES.out] at HCL
      unfold ChPostW at HCL
      have HKB3 := Lib.hid ((hbx.block _ (Nat.lt_of_lt_of_le hz1 hz2)).trans ((ha2.block _ hz1).trans HKB1.out))
      have HB3 := Lib.hid hb3
      have HZZ := Lib.hid (show w.heap.size + 1 < w1.heap.size ∧ w1.heap.size ≤ w2.heap.size ∧ w2.heap.size < (w2.alloc (.cells #[.slice A2 n c2, .int .i64 tm, .int .i64 ld] 45)).heap.size from ⟨hz1, hz2, by simp⟩)
      clear a0 a1 a2 hgl hbx k6 hb2 hb3 hrr hd2 ho2 ha2
      go_wp2_with fail
      (with_reducible refine HCL.out.mono ?_)
      rintro e w3 ⟨rfl, hb3, h3⟩
      have kb3 := (hb3.block (w.heap.size + 1) HZZ.out.1).trans HKB3.out
      have b0 := cell_blk (i := 0) kb3 rfl
      have b1 := cell_blk (i := 1) kb3 rfl
      have b2 := cell_blk (i := 2) kb3 rfl
      have fb := free_all kb3
      have lb := lt_blk kb3
      have hzz3 := hb3.size
      obtain ⟨gs3, hd3, ho3, k63⟩ := h3 (by trivial)
      skip
      have t0 := cell_blk (i := 0) k63 rfl
      have t1 := cell_blk (i := 1) k63 rfl
      have t2 := cell_blk (i := 2) k63 rfl
      have tl := lt_blk k63
      have HD3 := Lib.hid hd3
      have HO3 := Lib.hid ho3
      have HB4 := Lib.hid (show Below w.heap.size w w3 from HB3.out.trans (hb3.mono (by omega)))
      clear hb3 kb3 h3 hd3 ho3 k63
      go_wp2
      exact bodyPost_ret (v := .tuple #[.agg #[.slice A2 n c2, .int .i64 tm, .int .i64 ld], .bool true]) (by simp [results, Try.results64, go_sem, *]) rfl ⟨A2, c2, gs3, by rw [HSL.out], HD3.out,
        (HO3.out.keep (keep_putN (g := w.heap.size + 1) (.inl HZZ.out.1) 0 [.slice A2 n c2, .int .i64 tm, .int .i64 ld])).wider (by have := HZZ.out; omega) (by simp [World.setCell]),
        below_putN HB4.out (show w.heap.size ≤ w.heap.size + 1 by omega) 0 [.slice A2 n c2, .int .i64 tm, .int .i64 ld]⟩
set_option maxRecDepth 100000 in
set_option maxHeartbeats 4000000 in
theorem implCopyTo_any (A : Option Addr) (n c : Nat) (tm ld r : Int) (hs : List RH) (B : Nat) (w : World) (hn : hs.length = n) (h : RowsB KR w B A hs) (hB : B ≤ w.heap.size) (hm : RpSmall (hs.map rdat)) :
    Calls Try.prog 35 #[.agg #[.slice A n c, .int .i64 tm, .int .i64 ld], .int .i64 r] w (GAPost (cpyA tm ld (hs.map rdat) r) w) := by
  have hb0 := below3 w (.cells #[.slice A n c, .int .i64 tm, .int .i64 ld] 45) (.cells #[.int .i64 r] 3) (.cells #[.slice none 0 0, .int .i64 0, .int .i64 0] 45)
  have kr := alloc3_b w (.cells #[.slice A n c, .int .i64 tm, .int .i64 ld] 45) (.cells #[.int .i64 r] 3) (.cells #[.slice none 0 0, .int .i64 0, .int .i64 0] 45)
  have kz := alloc3_c w (.cells #[.slice A n c, .int .i64 tm, .int .i64 ld] 45) (.cells #[.int .i64 r] 3) (.cells #[.slice none 0 0, .int .i64 0, .int .i64 0] 45)
  have HC := Lib.hid (changeCopyTo_any A n c (w.heap.size + 1) tm ld r hs B _ hn (h.below (hb0.mono hB)) (Nat.le_trans hB hb0.size) hm (cell_blk (i := 0) kr rfl) (by simp))
  obtain ⟨⟨l, at_, al, ok⟩, hans⟩ : ∃ a, a = cpyA tm ld (hs.map rdat) r := ⟨_, rfl⟩
  rw [← hans] at HC ⊢
  rw [GAPost_un] at HC ⊢
  have hmf : ∀ (fn : Fn) (first cap : Array Value) (w : World), (Instr.makeFunc fn first cap).run Try.prog w = .ok (.func fn first cap) w := fun _ _ _ _ => rfl
  have HB0 := Lib.hid hb0
  have HKZ := Lib.hid kz
  have hzz : w.heap.size + 1 + 1 < (((w.alloc (.cells #[.slice A n c, .int .i64 tm, .int .i64 ld] 45)).alloc (.cells #[.int .i64 r] 3)).alloc (.cells #[.slice none 0 0, .int .i64 0, .int .i64 0] 45)).heap.size := by simp
  clear hb0 kr kz hans h hm hn
  go_enter Try.func35, Try.ntmps35
  go_wp2_with fail
  (with_reducible refine HC.out.mono ?_)
  rintro e w1 ⟨A1, c1, gs, rfl, hd1, ho1, ha1⟩
  have kz1 := (ha1.block (w.heap.size + 1 + 1) hzz).trans HKZ.out
  have z0 := cell_blk (i := 0) kz1 rfl
  have z1 := cell_blk (i := 1) kz1 rfl
  have z2 := cell_blk (i := 2) kz1 rfl
  have fz := free_all kz1
  have zl := lt_blk kz1
  have HB1 := Lib.hid (HB0.out.trans (ha1.mono HB0.out.size))
  have HO1 := Lib.hid ho1
  have HD1 := Lib.hid hd1
  obtain ⟨nl, hnl⟩ : ∃ nl, nl = l.length := ⟨_, rfl⟩
  rw [← hnl]
  have HNL := Lib.hid hnl
  clear kz1 ha1 ho1 hd1 hnl
  go_wp2
  exact bodyPost_ret (v := .tuple #[.agg #[.slice A1 nl c1, .int .i64 at_, .int .i64 al], .bool ok]) (by simp [results, Try.results35, go_sem, *]) rfl ⟨A1, c1, gs, by rw [HNL.out], HD1.out,
    (HO1.out.keep (keep_putN (g := w.heap.size + 1 + 1) (.inl hzz) 0 [.slice A1 nl c1, .int .i64 at_, .int .i64 al])).wider HB0.out.size (by simp [World.setCell]),
    below_putN HB1.out (show w.heap.size ≤ w.heap.size + 1 + 1 by omega) 0 [.slice A1 nl c1, .int .i64 at_, .int .i64 al]⟩
end Go.Proofs.Ytkhndofplebcaaa.Gr
