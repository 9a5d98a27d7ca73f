/-
  leaserOf of the program; HoldsLease and WhenFree of both sides.
-/
import Derived.Test.YtpppgihoekfmoaaWtF4
import Derived.Deep.RegionHeld3
import Derived.Deep.DeepCutAuto
import Derived.Deep.QuietTactic
namespace Go.Proofs.Ytpppgihoekfmoaa.Wt
open Go.RowKit
set_option linter.unusedVariables false
set_option linter.unusedSimpArgs false

theorem bel_put3L {B g : Nat} {w w' : World} {a b c : Value} (h : Below B w w') (hg : B ≤ g) : Below B w (((w'.setCell ⟨g, 0, none⟩ a).setCell ⟨g, 1, none⟩ b).setCell ⟨g, 2, none⟩ c) := bel_put3 h hg
theorem keptS {W w' : World} {g b o : Nat} {v0 v1 x : Value} (hb : Below W.heap.size W w') (y : W.cell? ⟨g, 0, none⟩ = some v0 ∧ W.cell? ⟨g, 1, none⟩ = some v1 ∧ W.cell? ⟨b, o, none⟩ = some x) (hlp : g < W.heap.size) (hlb : b < W.heap.size) : w'.cell? ⟨g, 0, none⟩ = some v0 ∧ w'.cell? ⟨g, 1, none⟩ = some v1 ∧ w'.cell? ⟨b, o, none⟩ = some x :=
  ⟨kept2 hb y.1 hlp, kept2 hb y.2.1 hlp, kept2 hb y.2.2 hlb⟩
theorem putS {w : World} {s g b o : Nat} {p q v0 v1 x : Value} (hne : g ≠ s) (hneb : b ≠ s) (y : w.cell? ⟨g, 0, none⟩ = some v0 ∧ w.cell? ⟨g, 1, none⟩ = some v1 ∧ w.cell? ⟨b, o, none⟩ = some x) : ((w.setCell ⟨s, 0, none⟩ p).setCell ⟨s, 1, none⟩ q).cell? ⟨g, 0, none⟩ = some v0 ∧ ((w.setCell ⟨s, 0, none⟩ p).setCell ⟨s, 1, none⟩ q).cell? ⟨g, 1, none⟩ = some v1 ∧ ((w.setCell ⟨s, 0, none⟩ p).setCell ⟨s, 1, none⟩ q).cell? ⟨b, o, none⟩ = some x :=
  ⟨(put2_cell hne).trans y.1, (put2_cell hne).trans y.2.1, (put2_cell hneb).trans y.2.2⟩

set_option maxRecDepth 100000 in
set_option maxHeartbeats 4000000 in
theorem leaserNo_any (tm : Int) (A A' : Option Addr) (n c n' c' : Nat) (is : List Int) (ls : List (Int × Int × Int)) (a : Int) (B : Nat) (w : World) (hn : is.length = n) (hn' : ls.length = n') (h : CksB w B A is) (h' : LesB w B A' ls) (hB : B ≤ w.heap.size) (hw : hasW tm is ls a = false) :
    Calls Try.prog 31 #[.agg #[.int .i64 tm, .slice A n c, .slice A' n' c'], .int .i64 a] w fun e w' => e = .returned (.tuple #[.agg #[.int .i64 0, .int .i64 0, .int .i64 0], .bool false]) ∧ Below w.heap.size w w' := by
  have HB0 := Lib.hid (below2 w (.cells #[.int .i64 tm, .slice A n c, .slice A' n' c'] 30) (.cells #[.int .i64 0, .int .i64 0, .int .i64 0] 60))
  have bK_0 := Lib.hid (((below1 (w.alloc (.cells #[.int .i64 tm, .slice A n c, .slice A' n' c'] 30)) (.cells #[.int .i64 0, .int .i64 0, .int .i64 0] 60)).block w.heap.size (by simp)).trans (heap_alloc_new w (.cells #[.int .i64 tm, .slice A n c, .slice A' n' c'] 30)))
  have bR_0 := Lib.hid (alloc_snd w (.cells #[.int .i64 tm, .slice A n c, .slice A' n' c'] 30) (.cells #[.int .i64 0, .int .i64 0, .int .i64 0] 60))
  have HG := Lib.hid (fun W (hW : Below w.heap.size w W) => implGoodWatch_any tm A A' n c n' c' is ls B W hn hn' (h.below (hW.mono hB)) (h'.below (hW.mono hB)) (Nat.le_trans hB hW.size))
  have HH := Lib.hid (fun W => hasClock_any tm A A' n c n' c' a W)
  unfold hasW at hw
  rw [hn] at hw
  cases g1 : wchB tm is ls with
  | false =>
    rw [g1] at HG
    clear h h' hn hn' g1 hw
    go_enter Try.func31, Try.ntmps31
    go_wp2_with fail
    refine (HG.out _ HB0.out).mono ?_
    rintro e w1 ⟨rfl, ha1⟩
    have HB1 := Lib.hid (HB0.out.trans (ha1.mono HB0.out.size))
    have bK_1 := Lib.hid ((ha1.block (w.heap.size) (lt_blk bK_0.out)).trans bK_0.out)
    have bR_1 := Lib.hid ((ha1.block (w.heap.size + 1) (lt_blk bR_0.out)).trans bR_0.out)
    have hz1 := ha1.size
    simp only [World.size_alloc] at hz1
    clear ha1
    have bK1c0 := cell_blk (i := 0) bK_1.out rfl
    have bK1f0 := free_blk bK_1.out 0
    have bK1c1 := cell_blk (i := 1) bK_1.out rfl
    have bK1f1 := free_blk bK_1.out 1
    have bK1c2 := cell_blk (i := 2) bK_1.out rfl
    have bK1f2 := free_blk bK_1.out 2
    have bK1l := lt_blk bK_1.out
    have bR1c0 := cell_blk (i := 0) bR_1.out rfl
    have bR1f0 := free_blk bR_1.out 0
    have bR1c1 := cell_blk (i := 1) bR_1.out rfl
    have bR1f1 := free_blk bR_1.out 1
    have bR1c2 := cell_blk (i := 2) bR_1.out rfl
    have bR1f2 := free_blk bR_1.out 2
    have bR1l := lt_blk bR_1.out
    go_wp2
    exact bodyPost_ret (v := .tuple #[.agg #[.int .i64 0, .int .i64 0, .int .i64 0], .bool false]) (by simp [results, Try.results31, go_sem, bR1c0, bR1f0, bR1c1, bR1f1, bR1c2, bR1f2]) rfl ⟨rfl, bel_put3 HB1.out (by omega)⟩
  | true =>
    rw [g1, Bool.true_and] at hw
    rw [g1] at HG
    rw [hw] at HH
    clear h h' hn hn' g1 hw
    go_enter Try.func31, Try.ntmps31
    go_wp2_with fail
    refine (HG.out _ HB0.out).mono ?_
    rintro e w1 ⟨rfl, ha1⟩
    have HB1 := Lib.hid (HB0.out.trans (ha1.mono HB0.out.size))
    have bK_1 := Lib.hid ((ha1.block (w.heap.size) (lt_blk bK_0.out)).trans bK_0.out)
    have bR_1 := Lib.hid ((ha1.block (w.heap.size + 1) (lt_blk bR_0.out)).trans bR_0.out)
    have hz1 := ha1.size
    simp only [World.size_alloc] at hz1
    clear ha1
    have bK1c0 := cell_blk (i := 0) bK_1.out rfl
    have bK1f0 := free_blk bK_1.out 0
    have bK1c1 := cell_blk (i := 1) bK_1.out rfl
    have bK1f1 := free_blk bK_1.out 1
    have bK1c2 := cell_blk (i := 2) bK_1.out rfl
    have bK1f2 := free_blk bK_1.out 2
    have bK1l := lt_blk bK_1.out
    go_wp2_with fail
    refine (HH.out _).mono ?_
    rintro e w2 ⟨rfl, ha2⟩
    clear bK1c0 bK1f0 bK1c1 bK1f1 bK1c2 bK1f2 bK1l
    have HB2 := Lib.hid (HB1.out.trans (ha2.mono HB1.out.size))
    have bK_2 := Lib.hid ((ha2.block (w.heap.size) (lt_blk bK_1.out)).trans bK_1.out)
    have bR_2 := Lib.hid ((ha2.block (w.heap.size + 1) (lt_blk bR_1.out)).trans bR_1.out)
    have hz2 := ha2.size
    clear ha2
    have bK2c0 := cell_blk (i := 0) bK_2.out rfl
    have bK2f0 := free_blk bK_2.out 0
    have bK2c1 := cell_blk (i := 1) bK_2.out rfl
    have bK2f1 := free_blk bK_2.out 1
    have bK2c2 := cell_blk (i := 2) bK_2.out rfl
    have bK2f2 := free_blk bK_2.out 2
    have bK2l := lt_blk bK_2.out
    have bR2c0 := cell_blk (i := 0) bR_2.out rfl
    have bR2f0 := free_blk bR_2.out 0
    have bR2c1 := cell_blk (i := 1) bR_2.out rfl
    have bR2f1 := free_blk bR_2.out 1
    have bR2c2 := cell_blk (i := 2) bR_2.out rfl
    have bR2f2 := free_blk bR_2.out 2
    have bR2l := lt_blk bR_2.out
    go_wp2
    exact bodyPost_ret (v := .tuple #[.agg #[.int .i64 0, .int .i64 0, .int .i64 0], .bool false]) (by simp [results, Try.results31, go_sem, bR2c0, bR2f0, bR2c1, bR2f1, bR2c2, bR2f2]) rfl ⟨rfl, bel_put3 HB2.out (by omega)⟩

set_option maxRecDepth 100000 in
set_option maxHeartbeats 8000000 in
theorem leaserYes_any (tm : Int) (A A' : Option Addr) (n c n' c' : Nat) (is : List Int) (ls : List (Int × Int × Int)) (a : Int) (B : Nat) (w : World) (hn : is.length = n) (hn' : ls.length = n') (h : CksB w B A is) (h' : LesB w B A' ls) (hB : B ≤ w.heap.size) (hw : hasW tm is ls a = true) :
    Calls Try.prog 31 #[.agg #[.int .i64 tm, .slice A n c, .slice A' n' c'], .int .i64 a] w fun e w' => e = .returned (.tuple #[.agg #[.int .i64 (lowW tm (offW is a)), .int .i64 (highW tm (offW is a)), .int .i64 a], .bool true]) ∧ Below w.heap.size w w' := by
  obtain ⟨k, rfl, hk, hx⟩ := offs_at hw
  have hsm := off_small hw
  have htm := (wchB_true (hasW_true hw).1).1
  have g1 := (hasW_true hw).1
  have g2 : inB (k : Int) 0 ((n : Int) - 1) = true := inB_mk (by omega)
  obtain ⟨b, off, rfl, hbB, hc⟩ := h.get (by omega)
  have hck := hc k hk
  rw [hx] at hck
  obtain ⟨x, hxx⟩ : ∃ x, x = offW is (k : Int) := ⟨_, rfl⟩
  rw [← hxx] at hck hsm ⊢
  have HC := Lib.hid (fun W => spanAtW_any tm x W htm hsm)
  have hkn : (k : Int) < (n : Int) := by omega
  have hk0 : (0 : Int) ≤ (k : Int) := by omega
  have HB0 := Lib.hid (below2 w (.cells #[.int .i64 tm, .slice (some ⟨b, off, none⟩) n c, .slice A' n' c'] 30) (.cells #[.int .i64 0, .int .i64 0, .int .i64 0] 60))
  have bK_0 := Lib.hid (((below1 (w.alloc (.cells #[.int .i64 tm, .slice (some ⟨b, off, none⟩) n c, .slice A' n' c'] 30)) (.cells #[.int .i64 0, .int .i64 0, .int .i64 0] 60)).block w.heap.size (by simp)).trans (heap_alloc_new w (.cells #[.int .i64 tm, .slice (some ⟨b, off, none⟩) n c, .slice A' n' c'] 30)))
  have bR_0 := Lib.hid (alloc_snd w (.cells #[.int .i64 tm, .slice (some ⟨b, off, none⟩) n c, .slice A' n' c'] 30) (.cells #[.int .i64 0, .int .i64 0, .int .i64 0] 60))
  have HG := Lib.hid (fun W (hW : Below w.heap.size w W) => implGoodWatch_any tm (some ⟨b, off, none⟩) A' n c n' c' is ls B W hn hn' (h.below (hW.mono hB)) (h'.below (hW.mono hB)) (Nat.le_trans hB hW.size))
  have HH := Lib.hid (fun W => hasClock_any tm (some ⟨b, off, none⟩) A' n c n' c' (k : Int) W)
  rw [g1] at HG
  rw [g2] at HH
  have HCK := Lib.hid (show b < w.heap.size ∧ w.cell? ⟨b, off + k, none⟩ = some (.int .i64 x) from ⟨Nat.lt_of_lt_of_le hbB hB, hck⟩)
  clear h h' hn hn' hc hck hxx hx hw hk htm hsm g1 g2 hbB
  go_enter Try.func31, Try.ntmps31
  go_wp2_with fail
  refine (HG.out _ HB0.out).mono ?_
  rintro e w1 ⟨rfl, ha1⟩
  have HB1 := Lib.hid (HB0.out.trans (ha1.mono HB0.out.size))
  have bK_1 := Lib.hid ((ha1.block (w.heap.size) (lt_blk bK_0.out)).trans bK_0.out)
  have bR_1 := Lib.hid ((ha1.block (w.heap.size + 1) (lt_blk bR_0.out)).trans bR_0.out)
  have hz1 := ha1.size
  simp only [World.size_alloc] at hz1
  clear ha1
  have bK1c0 := cell_blk (i := 0) bK_1.out rfl
  have bK1f0 := free_blk bK_1.out 0
  have bK1c1 := cell_blk (i := 1) bK_1.out rfl
  have bK1f1 := free_blk bK_1.out 1
  have bK1c2 := cell_blk (i := 2) bK_1.out rfl
  have bK1f2 := free_blk bK_1.out 2
  have bK1l := lt_blk bK_1.out
  go_wp2_with fail
  refine (HH.out _).mono ?_
  rintro e w2 ⟨rfl, ha2⟩
  clear bK1c0 bK1f0 bK1c1 bK1f1 bK1c2 bK1f2 bK1l
  have HB2 := Lib.hid (HB1.out.trans (ha2.mono HB1.out.size))
  have bK_2 := Lib.hid ((ha2.block (w.heap.size) (lt_blk bK_1.out)).trans bK_1.out)
  have bR_2 := Lib.hid ((ha2.block (w.heap.size + 1) (lt_blk bR_1.out)).trans bR_1.out)
  have hz2 := ha2.size
  clear ha2
  have l0 := lt_blk bK_2.out
  have l1 := lt_blk bR_2.out
  have hbw := HCK.out.1
  have l2 : b < w2.heap.size := by omega
  have c2 : w2.cell? ⟨b, off + k, none⟩ = some (.int .i64 x) := (HB2.out.cell (p := ⟨b, off + k, none⟩) hbw).trans HCK.out.2
  have HK3 : w2.cell? ⟨w.heap.size, 0, none⟩ = some (.int .i64 tm) ∧ w2.cell? ⟨w.heap.size, 1, none⟩ = some (.slice (some ⟨b, off, none⟩) n c) ∧ w2.cell? ⟨b, off + k, none⟩ = some (.int .i64 x) := ⟨cell_blk bK_2.out rfl, cell_blk bK_2.out rfl, c2⟩
  have HS0 : w2.drew.cell? ⟨w.heap.size, 0, none⟩ = some (.int .i64 tm) ∧ w2.drew.cell? ⟨w.heap.size, 1, none⟩ = some (.slice (some ⟨b, off, none⟩) n c) ∧ w2.drew.cell? ⟨b, off + k, none⟩ = some (.int .i64 x) := HK3
  have HY := Lib.hid (cells3_of bR_2.out)
  have hne : w.heap.size ≠ w2.heap.size := by omega
  have hneb : b ≠ w2.heap.size := by omega
  have hne1 : w.heap.size + 1 ≠ w2.heap.size := by omega
  have bS := heap_alloc_new w2 (.cells #[.int .i64 0, .int .i64 0] 58)
  have lS : w2.heap.size < (w2.alloc (.cells #[.int .i64 0, .int .i64 0] 58)).heap.size := by simp
  clear c2
  go_upto_region 3 with fail
  go_region_held3 (fun w' => w'.cell? ⟨w.heap.size, 0, none⟩ = some (.int .i64 tm) ∧ w'.cell? ⟨w.heap.size, 1, none⟩ = some (.slice (some ⟨b, off, none⟩) n c) ∧ w'.cell? ⟨b, off + k, none⟩ = some (.int .i64 x))
    (first | with_reducible exact HS0 | with_reducible exact keptS (bA w2 _) HK3 l0 l2 | with_reducible exact keptS hb4 HK3 l0 l2 | with_reducible exact keptS (bC hb4 _) HK3 l0 l2 | with_reducible exact putS hne hneb (keptS hb4 HK3 l0 l2))
    (first
      | ((go_at_call 54); (with_reducible refine (HC.out w2.drew).mono ?_); rintro e w4 ⟨rfl, hb4'⟩; have hb4 : Below w2.heap.size w2 w4 := below_d0W hb4'; obtain ⟨y0, y1, y2, z0, z1, z2⟩ := HY.out.kept hb4 l1)
      | ((go_at_call 54); (refine (HC.out (w2.alloc (.cells #[.int .i64 0, .int .i64 0] 58)).drew).mono ?_); rintro e w4 ⟨rfl, hb4'⟩; have hb5 : Below (w2.alloc (.cells #[.int .i64 0, .int .i64 0] 58)).heap.size (w2.alloc (.cells #[.int .i64 0, .int .i64 0] 58)) w4 := below_d0W hb4'; have hb4 : Below w2.heap.size w2 w4 := (below1 w2 (.cells #[.int .i64 0, .int .i64 0] 58)).trans (hb5.mono (below1 w2 (.cells #[.int .i64 0, .int .i64 0] 58)).size); have p0 := kept2 hb5 (cell_blk (i := 0) bS rfl) lS; have p1 := kept2 hb5 (cell_blk (i := 1) bS rfl) lS; have q0 := keptFW hb5 (free_blk bS 0) lS; have q1 := keptFW hb5 (free_blk bS 1) lS; obtain ⟨y0, y1, y2, z0, z1, z2⟩ := HY.out.kept hb4 l1)
      | fail)
  all_goals
    (have HBF := Lib.hid (HB2.out.trans (hb4.mono HB2.out.size))
     have hz4 := hb4.size
     have l1' : w.heap.size + 1 < w4.heap.size := by omega
     have l3' : w2.heap.size ≤ w4.heap.size := hz4
     clear HS0 HK3 hb4 hb4'
     go_wp2
     first
       | exact bodyPost_ret (v := .tuple #[.agg #[.int .i64 (lowW tm x), .int .i64 (highW tm x), .int .i64 (k : Int)], .bool true]) (by simp [results, Try.results31, go_sem, y0, y1, y2, z0, z1, z2, l1']) rfl ⟨rfl, (bel_put3 HBF.out (by omega)).alloc (by simp [World.setCell]; omega) _⟩
       | exact bodyPost_ret (v := .tuple #[.agg #[.int .i64 (lowW tm x), .int .i64 (highW tm x), .int .i64 (k : Int)], .bool true]) (by simp [results, Try.results31, go_sem, y0, y1, y2, z0, z1, z2, hne1]) rfl ⟨rfl, bel_put3 (bel_put2 HBF.out (by omega)) (by omega)⟩)

set_option maxRecDepth 100000 in
set_option maxHeartbeats 4000000 in
theorem implHoldsLease_any (tm : Int) (A A' : Option Addr) (n c n' c' : Nat) (is : List Int) (ls : List (Int × Int × Int)) (a : Int) (B : Nat) (w : World) (hn : is.length = n) (hn' : ls.length = n') (h : CksB w B A is) (h' : LesB w B A' ls) (hB : B ≤ w.heap.size) (hl : n' ≤ 1048576) :
    Calls Try.prog 21 #[.agg #[.int .i64 tm, .slice A n c, .slice A' n' c'], .int .i64 a] w fun e w' => e = .returned (.tuple #[.bool (holdsW tm is ls a).1, .bool (holdsW tm is ls a).2]) ∧ Below w.heap.size w w' := by
  have HB0 := Lib.hid (below1 w (.cells #[.int .i64 tm, .slice A n c, .slice A' n' c'] 30))
  have bK_0 := Lib.hid (heap_alloc_new w (.cells #[.int .i64 tm, .slice A n c, .slice A' n' c'] 30))
  cases g1 : hasW tm is ls a with
  | false =>
    have HG := Lib.hid (fun W (hW : Below w.heap.size w W) => leaserNo_any tm A A' n c n' c' is ls a B W hn hn' (h.below (hW.mono hB)) (h'.below (hW.mono hB)) (Nat.le_trans hB hW.size) g1)
    rw [show holdsW tm is ls a = (false, false) by simp [holdsW, g1]]
    clear h h' hn hn' g1
    go_enter Try.func21, Try.ntmps21
    go_wp2_with fail
    refine (HG.out _ HB0.out).mono ?_
    rintro e w1 ⟨rfl, ha1⟩
    have HB1 := Lib.hid (HB0.out.trans (ha1.mono HB0.out.size))
    have bK_1 := Lib.hid ((ha1.block (w.heap.size) (lt_blk bK_0.out)).trans bK_0.out)
    have hz1 := ha1.size
    simp only [World.size_alloc] at hz1
    clear ha1
    have bK1c0 := cell_blk (i := 0) bK_1.out rfl
    have bK1f0 := free_blk bK_1.out 0
    have bK1c1 := cell_blk (i := 1) bK_1.out rfl
    have bK1f1 := free_blk bK_1.out 1
    have bK1c2 := cell_blk (i := 2) bK_1.out rfl
    have bK1f2 := free_blk bK_1.out 2
    have bK1l := lt_blk bK_1.out
    go_wp2
    exact bodyPost_ret (v := .tuple #[.bool false, .bool false]) (by simp [results, Try.results21, go_sem]) rfl ⟨rfl, HB1.out.alloc HB1.out.size _⟩
  | true =>
    have HG := Lib.hid (fun W (hW : Below w.heap.size w W) => leaserYes_any tm A A' n c n' c' is ls a B W hn hn' (h.below (hW.mono hB)) (h'.below (hW.mono hB)) (Nat.le_trans hB hW.size) g1)
    rw [show holdsW tm is ls a = (holdW a (highW tm (offW is a)) ls, true) by simp [holdsW, g1]]
    obtain ⟨lo, hlo⟩ : ∃ lo, lo = lowW tm (offW is a) := ⟨_, rfl⟩
    obtain ⟨hi, hhi⟩ : ∃ hi, hi = highW tm (offW is a) := ⟨_, rfl⟩
    rw [← hlo, ← hhi] at HG
    rw [← hhi]
    have HO := Lib.hid (fun W (hW : Below w.heap.size w W) => holdsAny_any lo hi a A' n' c' ls B W hn' (h'.below (hW.mono hB)) (Nat.le_trans hB hW.size) hl)
    clear h h' hn hn' g1 hlo hhi
    go_enter Try.func21, Try.ntmps21
    go_wp2_with fail
    refine (HG.out _ HB0.out).mono ?_
    rintro e w1 ⟨rfl, ha1⟩
    have HB1 := Lib.hid (HB0.out.trans (ha1.mono HB0.out.size))
    have bK_1 := Lib.hid ((ha1.block (w.heap.size) (lt_blk bK_0.out)).trans bK_0.out)
    have hz1 := ha1.size
    simp only [World.size_alloc] at hz1
    clear ha1
    have bK1c0 := cell_blk (i := 0) bK_1.out rfl
    have bK1f0 := free_blk bK_1.out 0
    have bK1c1 := cell_blk (i := 1) bK_1.out rfl
    have bK1f1 := free_blk bK_1.out 1
    have bK1c2 := cell_blk (i := 2) bK_1.out rfl
    have bK1f2 := free_blk bK_1.out 2
    have bK1l := lt_blk bK_1.out
    go_wp2_with fail
    obtain ⟨V1, hV1⟩ : ∃ V1, V1 = w1.alloc (.cells #[.int .i64 lo, .int .i64 hi, .int .i64 a] 60) := ⟨_, rfl⟩
    have haV1 := below1 w1 (.cells #[.int .i64 lo, .int .i64 hi, .int .i64 a] 60)
    have hnV1 := heap_alloc_new w1 (.cells #[.int .i64 lo, .int .i64 hi, .int .i64 a] 60)
    rw [← hV1] at haV1 hnV1 ⊢
    have hsV1 : V1.heap.size = w1.heap.size + 1 := by rw [hV1]; simp
    clear bK1c0 bK1f0 bK1c1 bK1f1 bK1c2 bK1f2 bK1l
    have HBV1 := Lib.hid (HB1.out.trans (haV1.mono HB1.out.size))
    have bK_V1 := Lib.hid ((haV1.block (w.heap.size) (lt_blk bK_1.out)).trans bK_1.out)
    have hzV1 := haV1.size
    have bN_V1 := Lib.hid hnV1
    clear hV1 haV1 hnV1
    refine (HO.out _ HBV1.out).mono ?_
    rintro e w2 ⟨rfl, ha2⟩
    have HB2 := Lib.hid (HBV1.out.trans (ha2.mono HBV1.out.size))
    have bK_2 := Lib.hid ((ha2.block (w.heap.size) (lt_blk bK_V1.out)).trans bK_V1.out)
    have bN_2 := Lib.hid ((ha2.block (w1.heap.size) (lt_blk bN_V1.out)).trans bN_V1.out)
    have hz2 := ha2.size
    clear ha2
    go_wp2
    exact bodyPost_ret (v := .tuple #[.bool (holdW a hi ls), .bool true]) (by simp [results, Try.results21, go_sem]) rfl ⟨rfl, HB2.out⟩

theorem whenW_no {tm a : Int} {is : List Int} {ls : List (Int × Int × Int)} (h : hasW tm is ls a = false) : whenW tm is ls a = (0, false) := by simp [whenW, h]
theorem lses_until {m : Nat} {ls : List (Int × Int × Int)} (h : ls.all (lseB m) = true) : ∀ x ∈ ls, -20 ≤ x.2.2 ∧ x.2.2 ≤ 100200 := by
  intro x hx
  rw [List.all_eq_true] at h
  exact (lseB_parts (h x hx)).2.2
theorem low_small {tm a : Int} {is : List Int} {ls : List (Int × Int × Int)} (h : hasW tm is ls a = true) : -20 ≤ lowW tm (offW is a) ∧ lowW tm (offW is a) ≤ 100020 := by
  have h1 := off_small h
  have h2 := (wchB_true (hasW_true h).1).1
  unfold lowW
  omega
theorem steps_max {a lo : Int} {ls : List (Int × Int × Int)} (hlo : -20 ≤ lo) (h : ∀ x ∈ ls, -20 ≤ x.2.2 ∧ x.2.2 ≤ 100200) : stepsW a lo ls ≤ 200000 := steps_small ls 0 (by omega) hlo fun x hx => (h x hx).2

set_option maxRecDepth 100000 in
set_option maxHeartbeats 4000000 in
theorem specWhenFree_any (tm : Int) (A A' : Option Addr) (n c n' c' : Nat) (is : List Int) (ls : List (Int × Int × Int)) (a : Int) (B : Nat) (w : World) (hn : is.length = n) (hn' : ls.length = n') (h : CksB w B A is) (h' : LesB w B A' ls) (hB : B ≤ w.heap.size) (hl : n' ≤ 1048576) :
    Calls Try.prog 16 #[.agg #[.int .i64 tm, .slice A n c, .slice A' n' c'], .int .i64 a] w fun e w' => e = .returned (.tuple #[.int .i64 (whenW tm is ls a).1, .bool (whenW tm is ls a).2]) ∧ Below w.heap.size w w' := by
  have HB0 := Lib.hid (below1 w (.cells #[.int .i64 tm, .slice A n c, .slice A' n' c'] 30))
  have bK_0 := Lib.hid (heap_alloc_new w (.cells #[.int .i64 tm, .slice A n c, .slice A' n' c'] 30))
  cases g1 : hasW tm is ls a with
  | false =>
    have HG := Lib.hid (fun W (hW : Below w.heap.size w W) => l10Has_any tm A A' n c n' c' is ls a B W hn hn' (h.below (hW.mono hB)) (h'.below (hW.mono hB)) (Nat.le_trans hB hW.size))
    rw [g1] at HG
    rw [whenW_no g1]
    clear h h' hn hn' g1
    go_enter Try.func16, Try.ntmps16
    go_wp2_with fail
    refine (HG.out _ HB0.out).mono ?_
    rintro e w1 ⟨rfl, ha1⟩
    have HB1 := Lib.hid (HB0.out.trans (ha1.mono HB0.out.size))
    have bK_1 := Lib.hid ((ha1.block (w.heap.size) (lt_blk bK_0.out)).trans bK_0.out)
    have hz1 := ha1.size
    simp only [World.size_alloc] at hz1
    clear ha1
    have bK1c0 := cell_blk (i := 0) bK_1.out rfl
    have bK1f0 := free_blk bK_1.out 0
    have bK1c1 := cell_blk (i := 1) bK_1.out rfl
    have bK1f1 := free_blk bK_1.out 1
    have bK1c2 := cell_blk (i := 2) bK_1.out rfl
    have bK1f2 := free_blk bK_1.out 2
    have bK1l := lt_blk bK_1.out
    go_wp2
    exact bodyPost_ret (v := .tuple #[.int .i64 0, .bool false]) (by simp [results, Try.results16, go_sem]) rfl ⟨rfl, HB1.out⟩
  | true =>
    have hub := lses_until (wchB_true (hasW_true g1).1).2.2.2.2
    have hlb := low_small g1
    have hsb := steps_max (a := a) hlb.1 hub
    have hsg := steps_ge (who := a) (lo := lowW tm (offW is a)) (ls := ls)
    have htm := (wchB_true (hasW_true g1).1).1
    obtain ⟨ht0, ht1⟩ := htm
    have hsel : ∀ b, decide (tm + stepsW a (lowW tm (offW is a)) ls ≤ 100000) = b → whenW tm is ls a = (bif b then stepsW a (lowW tm (offW is a)) ls else 0, b) := fun b hb => by subst hb; by_cases h9 : tm + stepsW a (lowW tm (offW is a)) ls ≤ 100000 <;> simp [whenW, g1, h9]
    have HG := Lib.hid (fun W (hW : Below w.heap.size w W) => l10Has_any tm A A' n c n' c' is ls a B W hn hn' (h.below (hW.mono hB)) (h'.below (hW.mono hB)) (Nat.le_trans hB hW.size))
    rw [g1] at HG
    have HO := Lib.hid (fun W (hW : Below w.heap.size w W) => l10Span_any tm A A' n c n' c' is ls a B W hn hn' (h.below (hW.mono hB)) (h'.below (hW.mono hB)) (Nat.le_trans hB hW.size) g1)
    obtain ⟨lo, hlo⟩ : ∃ lo, lo = lowW tm (offW is a) := ⟨_, rfl⟩
    obtain ⟨hi, hhi⟩ : ∃ hi, hi = highW tm (offW is a) := ⟨_, rfl⟩
    rw [← hlo] at hlb hsb hsg hsel
    rw [← hlo, ← hhi] at HO
    have hge' := Nat.le_of_eq hn'
    have hle' := Nat.le_of_eq hn'.symm
    have HL := Lib.hid h'
    have HX := Lib.hid hub
    obtain ⟨tot, hs⟩ : ∃ tot, tot = stepsW a lo ls := ⟨_, rfl⟩
    have HTOT := Lib.hid hs
    have hfd := fldLo lo hi
    rw [← hs] at hsb hsg hsel
    have HSEL := Lib.hid hsel
    obtain ⟨hlb0, hlb1⟩ := hlb
    clear h h' hn hn' g1 hlo hhi hub hs hsel
    go_enter Try.func16, Try.ntmps16
    go_wp2_with fail
    refine (HG.out _ HB0.out).mono ?_
    rintro e w1 ⟨rfl, ha1⟩
    have HB1 := Lib.hid (HB0.out.trans (ha1.mono HB0.out.size))
    have bK_1 := Lib.hid ((ha1.block (w.heap.size) (lt_blk bK_0.out)).trans bK_0.out)
    have hz1 := ha1.size
    simp only [World.size_alloc] at hz1
    clear ha1
    have bK1c0 := cell_blk (i := 0) bK_1.out rfl
    have bK1f0 := free_blk bK_1.out 0
    have bK1c1 := cell_blk (i := 1) bK_1.out rfl
    have bK1f1 := free_blk bK_1.out 1
    have bK1c2 := cell_blk (i := 2) bK_1.out rfl
    have bK1f2 := free_blk bK_1.out 2
    have bK1l := lt_blk bK_1.out
    go_wp2_with fail
    refine (HO.out _ HB1.out).mono ?_
    rintro e w2 ⟨rfl, ha2⟩
    clear bK1c0 bK1f0 bK1c1 bK1f1 bK1c2 bK1f2 bK1l
    have HB2 := Lib.hid (HB1.out.trans (ha2.mono HB1.out.size))
    have bK_2 := Lib.hid ((ha2.block (w.heap.size) (lt_blk bK_1.out)).trans bK_1.out)
    have hz2 := ha2.size
    clear ha2
    go_wp2
    clear hfd
    go_loopw [7, 8] (fun v i wr => ∃ (k : Nat) (s : Int), k ≤ n' ∧ i = .int .i64 k ∧ v = .int .i64 s ∧ 0 ≤ s ∧ s ≤ 200000 ∧ Hid (s = stepsW a lo (ls.take k)) ∧ Hid (Below w.heap.size w wr) ∧ Hid (wr.heap[w.heap.size]? = some (.cells #[.int .i64 tm, .slice A n c, .slice A' n' c'] 30 (0, 0)))) (fun _ i _ => n' - (intOf i).toNat)
    case atStart => exact ⟨0, 0, by omega, rfl, rfl, by omega, by omega, Lib.hid rfl, HB2.out, bK_2.out⟩
    case round =>
      clear HB0 bK_0 HB1 bK_1 HB2 bK_2
      obtain ⟨k, s, hk, rfl, rfl, hs0, hs1, HP, HB, HK⟩ := hrel
      have k0 := cell_blk (i := 0) HK.out rfl
      have k1 := cell_blk (i := 1) HK.out rfl
      have k2 := cell_blk (i := 2) HK.out rfl
      by_cases hlt : k < n'
      · obtain ⟨b, off, rfl, hbB, hc⟩ := HL.out.get (by omega)
        obtain ⟨hc0, hc1, hc2⟩ := hc k (by omega)
        have c0 := (HB.out.cell (p := ⟨b, off + k * 3, none⟩) (Nat.lt_of_lt_of_le hbB hB)).trans hc0
        have c2 := (HB.out.cell (p := ⟨b, off + k * 3 + 2, none⟩) (Nat.lt_of_lt_of_le hbB hB)).trans hc2
        have HST := Lib.hid (steps_succ (who := a) (lo := lo) (show k < ls.length by omega))
        have hxb := HX.out _ (List.getElem_mem (show k < ls.length by omega))
        obtain ⟨y, hy⟩ : ∃ y, y = ls[k]'(by omega) := ⟨_, rfl⟩
        rw [← hy] at c0 c2 HST hxb
        obtain ⟨s0, s1, s2⟩ := y
        simp only at c0 c2 hxb
        obtain ⟨hx0, hx1⟩ := hxb
        have hk0 : (0 : Int) ≤ (k : Int) := by omega
        have hkn : (k : Int) < (n' : Int) := by omega
        have HC := Lib.hid (fun W => l1MostW_any s (s2 + 1 - lo) W)
        clear hc hc0 hc1 hc2 hy
        by_cases he : s0 = a
        · have HP2 := Lib.hid (show s = stepsW a lo (ls.take (k + 1)) by rw [HST.out, step_same (x := (s0, s1, s2)) he]; exact HP.out)
          have h1n : (s0 != a) = false := by simp [he]
          have h1d : decide (s0 = a) = true := by simp [he]
          clear HST HC
          go_wp2
          go_roundw
          case rel => exact ⟨k + 1, s, by omega, by go_num, rfl, hs0, hs1, HP2, HB.out, HK.out⟩
          case measure => simp [intOf]; omega
        · have HP2 := Lib.hid (show max s (s2 + 1 - lo) = stepsW a lo (ls.take (k + 1)) by rw [HST.out, ← HP.out]; simp [stepW, he])
          have h1n : (s0 != a) = true := by simp [he]
          have h1d : decide (s0 = a) = false := by simp [he]
          have hm2 : 0 ≤ max s (s2 + 1 - lo) ∧ max s (s2 + 1 - lo) ≤ 200000 := by omega
          clear HST
          go_wp2_with fail
          refine (HC.out _).mono ?_
          rintro e w4 ⟨rfl, rfl⟩
          go_wp2
          go_roundw
          case rel => exact ⟨k + 1, max s (s2 + 1 - lo), by omega, by go_num, rfl, hm2.1, hm2.2, HP2, HB.out, HK.out⟩
          case measure => simp [intOf]; omega
      · have hst : s = tot := by rw [HTOT.out, HP.out, List.take_of_length_le (by omega)]
        subst hst
        by_cases h3 : tm + s ≤ 100000
        · have HE := Lib.hid (HSEL.out true (decide_eq_true h3))
          have h3d : decide (100000 < tm + s) = false := by simp; omega
          go_wp2
          exact bodyPost_ret (v := .tuple #[.int .i64 s, .bool true]) (by simp [results, Try.results16, go_sem]) rfl ⟨by rw [HE.out]; rfl, HB.out⟩
        · have HE := Lib.hid (HSEL.out false (decide_eq_false h3))
          have h3d : 100000 < tm + s := by omega
          go_wp2
          exact bodyPost_ret (v := .tuple #[.int .i64 0, .bool false]) (by simp [results, Try.results16, go_sem]) rfl ⟨by rw [HE.out]; rfl, HB.out⟩

set_option maxRecDepth 100000 in
set_option maxHeartbeats 4000000 in
theorem implWhenFree_any (tm : Int) (A A' : Option Addr) (n c n' c' : Nat) (is : List Int) (ls : List (Int × Int × Int)) (a : Int) (B : Nat) (w : World) (hn : is.length = n) (hn' : ls.length = n') (h : CksB w B A is) (h' : LesB w B A' ls) (hB : B ≤ w.heap.size) (hl : n' ≤ 1048576) :
    Calls Try.prog 15 #[.agg #[.int .i64 tm, .slice A n c, .slice A' n' c'], .int .i64 a] w fun e w' => e = .returned (.tuple #[.int .i64 (whenW tm is ls a).1, .bool (whenW tm is ls a).2]) ∧ Below w.heap.size w w' := by
  have HB0 := Lib.hid (below1 w (.cells #[.int .i64 tm, .slice A n c, .slice A' n' c'] 30))
  have bK_0 := Lib.hid (heap_alloc_new w (.cells #[.int .i64 tm, .slice A n c, .slice A' n' c'] 30))
  cases g1 : hasW tm is ls a with
  | false =>
    have HG := Lib.hid (fun W (hW : Below w.heap.size w W) => leaserNo_any tm A A' n c n' c' is ls a B W hn hn' (h.below (hW.mono hB)) (h'.below (hW.mono hB)) (Nat.le_trans hB hW.size) g1)
    rw [whenW_no g1]
    clear h h' hn hn' g1
    go_enter Try.func15, Try.ntmps15
    go_wp2_with fail
    refine (HG.out _ HB0.out).mono ?_
    rintro e w1 ⟨rfl, ha1⟩
    have HB1 := Lib.hid (HB0.out.trans (ha1.mono HB0.out.size))
    have bK_1 := Lib.hid ((ha1.block (w.heap.size) (lt_blk bK_0.out)).trans bK_0.out)
    have hz1 := ha1.size
    simp only [World.size_alloc] at hz1
    clear ha1
    have bK1c0 := cell_blk (i := 0) bK_1.out rfl
    have bK1f0 := free_blk bK_1.out 0
    have bK1c1 := cell_blk (i := 1) bK_1.out rfl
    have bK1f1 := free_blk bK_1.out 1
    have bK1c2 := cell_blk (i := 2) bK_1.out rfl
    have bK1f2 := free_blk bK_1.out 2
    have bK1l := lt_blk bK_1.out
    go_wp2
    exact bodyPost_ret (v := .tuple #[.int .i64 0, .bool false]) (by simp [results, Try.results15, go_sem]) rfl ⟨rfl, HB1.out.alloc HB1.out.size _⟩
  | true =>
    have hub := lses_until (wchB_true (hasW_true g1).1).2.2.2.2
    have hlb := low_small g1
    have hsb := steps_max (a := a) hlb.1 hub
    have hsg := steps_ge (who := a) (lo := lowW tm (offW is a)) (ls := ls)
    have htm := (wchB_true (hasW_true g1).1).1
    obtain ⟨ht0, ht1⟩ := htm
    have hsel : ∀ b, decide (tm + stepsW a (lowW tm (offW is a)) ls ≤ 100000) = b → whenW tm is ls a = (bif b then stepsW a (lowW tm (offW is a)) ls else 0, b) := fun b hb => by subst hb; by_cases h9 : tm + stepsW a (lowW tm (offW is a)) ls ≤ 100000 <;> simp [whenW, g1, h9]
    have HG := Lib.hid (fun W (hW : Below w.heap.size w W) => leaserYes_any tm A A' n c n' c' is ls a B W hn hn' (h.below (hW.mono hB)) (h'.below (hW.mono hB)) (Nat.le_trans hB hW.size) g1)
    obtain ⟨lo, hlo⟩ : ∃ lo, lo = lowW tm (offW is a) := ⟨_, rfl⟩
    obtain ⟨hi, hhi⟩ : ∃ hi, hi = highW tm (offW is a) := ⟨_, rfl⟩
    rw [← hlo] at hlb hsb hsg hsel
    rw [← hlo, ← hhi] at HG
    have HO := Lib.hid (fun W (hW : Below w.heap.size w W) => stepsToTurn_any lo hi a A' n' c' ls B W hn' (h'.below (hW.mono hB)) (Nat.le_trans hB hW.size) hl hlb hub)
    obtain ⟨s, hs⟩ : ∃ s, s = stepsW a lo ls := ⟨_, rfl⟩
    rw [← hs] at hsb hsg hsel HO
    have HT := Lib.hid (fun W => isTrueTimeW_any (tm + s) W)
    have HSEL := Lib.hid hsel
    clear h h' hn hn' g1 hlo hhi hub hs hsel
    cases g2 : inB (tm + s) 0 100000 with
    | false =>
      have h3 : ¬ (tm + s ≤ 100000) := fun h9 => by rw [inB_mk (by omega)] at g2; cases g2
      rw [HSEL.out false (decide_eq_false h3)]
      rw [g2] at HT
      simp only [cond_false]
      clear g2 h3
      go_enter Try.func15, Try.ntmps15
      go_wp2_with fail
      refine (HG.out _ HB0.out).mono ?_
      rintro e w1 ⟨rfl, ha1⟩
      have HB1 := Lib.hid (HB0.out.trans (ha1.mono HB0.out.size))
      have bK_1 := Lib.hid ((ha1.block (w.heap.size) (lt_blk bK_0.out)).trans bK_0.out)
      have hz1 := ha1.size
      simp only [World.size_alloc] at hz1
      clear ha1
      have bK1c0 := cell_blk (i := 0) bK_1.out rfl
      have bK1f0 := free_blk bK_1.out 0
      have bK1c1 := cell_blk (i := 1) bK_1.out rfl
      have bK1f1 := free_blk bK_1.out 1
      have bK1c2 := cell_blk (i := 2) bK_1.out rfl
      have bK1f2 := free_blk bK_1.out 2
      have bK1l := lt_blk bK_1.out
      go_wp2_with fail
      obtain ⟨V1, hV1⟩ : ∃ V1, V1 = w1.alloc (.cells #[.int .i64 lo, .int .i64 hi, .int .i64 a] 60) := ⟨_, rfl⟩
      have haV1 := below1 w1 (.cells #[.int .i64 lo, .int .i64 hi, .int .i64 a] 60)
      have hnV1 := heap_alloc_new w1 (.cells #[.int .i64 lo, .int .i64 hi, .int .i64 a] 60)
      rw [← hV1] at haV1 hnV1 ⊢
      have hsV1 : V1.heap.size = w1.heap.size + 1 := by rw [hV1]; simp
      clear bK1c0 bK1f0 bK1c1 bK1f1 bK1c2 bK1f2 bK1l
      have HBV1 := Lib.hid (HB1.out.trans (haV1.mono HB1.out.size))
      have bK_V1 := Lib.hid ((haV1.block (w.heap.size) (lt_blk bK_1.out)).trans bK_1.out)
      have hzV1 := haV1.size
      have bN_V1 := Lib.hid hnV1
      clear hV1 haV1 hnV1
      refine (HO.out _ HBV1.out).mono ?_
      rintro e w2 ⟨rfl, ha2⟩
      have HB2 := Lib.hid (HBV1.out.trans (ha2.mono HBV1.out.size))
      have bK_2 := Lib.hid ((ha2.block (w.heap.size) (lt_blk bK_V1.out)).trans bK_V1.out)
      have bN_2 := Lib.hid ((ha2.block (w1.heap.size) (lt_blk bN_V1.out)).trans bN_V1.out)
      have hz2 := ha2.size
      clear ha2
      have bK2c0 := cell_blk (i := 0) bK_2.out rfl
      have bK2f0 := free_blk bK_2.out 0
      have bK2c1 := cell_blk (i := 1) bK_2.out rfl
      have bK2f1 := free_blk bK_2.out 1
      have bK2c2 := cell_blk (i := 2) bK_2.out rfl
      have bK2f2 := free_blk bK_2.out 2
      have bK2l := lt_blk bK_2.out
      go_wp2_with fail
      refine (HT.out _).mono ?_
      rintro e wx ⟨rfl, rfl⟩
      go_wp2
      exact bodyPost_ret (v := .tuple #[.int .i64 0, .bool false]) (by simp [results, Try.results15, go_sem]) rfl ⟨rfl, HB2.out⟩
    | true =>
      have h3 := inB_true g2
      rw [HSEL.out true (decide_eq_true h3.2)]
      rw [g2] at HT
      simp only [cond_true]
      clear g2 h3
      go_enter Try.func15, Try.ntmps15
      go_wp2_with fail
      refine (HG.out _ HB0.out).mono ?_
      rintro e w1 ⟨rfl, ha1⟩
      have HB1 := Lib.hid (HB0.out.trans (ha1.mono HB0.out.size))
      have bK_1 := Lib.hid ((ha1.block (w.heap.size) (lt_blk bK_0.out)).trans bK_0.out)
      have hz1 := ha1.size
      simp only [World.size_alloc] at hz1
      clear ha1
      have bK1c0 := cell_blk (i := 0) bK_1.out rfl
      have bK1f0 := free_blk bK_1.out 0
      have bK1c1 := cell_blk (i := 1) bK_1.out rfl
      have bK1f1 := free_blk bK_1.out 1
      have bK1c2 := cell_blk (i := 2) bK_1.out rfl
      have bK1f2 := free_blk bK_1.out 2
      have bK1l := lt_blk bK_1.out
      go_wp2_with fail
      obtain ⟨V1, hV1⟩ : ∃ V1, V1 = w1.alloc (.cells #[.int .i64 lo, .int .i64 hi, .int .i64 a] 60) := ⟨_, rfl⟩
      have haV1 := below1 w1 (.cells #[.int .i64 lo, .int .i64 hi, .int .i64 a] 60)
      have hnV1 := heap_alloc_new w1 (.cells #[.int .i64 lo, .int .i64 hi, .int .i64 a] 60)
      rw [← hV1] at haV1 hnV1 ⊢
      have hsV1 : V1.heap.size = w1.heap.size + 1 := by rw [hV1]; simp
      clear bK1c0 bK1f0 bK1c1 bK1f1 bK1c2 bK1f2 bK1l
      have HBV1 := Lib.hid (HB1.out.trans (haV1.mono HB1.out.size))
      have bK_V1 := Lib.hid ((haV1.block (w.heap.size) (lt_blk bK_1.out)).trans bK_1.out)
      have hzV1 := haV1.size
      have bN_V1 := Lib.hid hnV1
      clear hV1 haV1 hnV1
      refine (HO.out _ HBV1.out).mono ?_
      rintro e w2 ⟨rfl, ha2⟩
      have HB2 := Lib.hid (HBV1.out.trans (ha2.mono HBV1.out.size))
      have bK_2 := Lib.hid ((ha2.block (w.heap.size) (lt_blk bK_V1.out)).trans bK_V1.out)
      have bN_2 := Lib.hid ((ha2.block (w1.heap.size) (lt_blk bN_V1.out)).trans bN_V1.out)
      have hz2 := ha2.size
      clear ha2
      have bK2c0 := cell_blk (i := 0) bK_2.out rfl
      have bK2f0 := free_blk bK_2.out 0
      have bK2c1 := cell_blk (i := 1) bK_2.out rfl
      have bK2f1 := free_blk bK_2.out 1
      have bK2c2 := cell_blk (i := 2) bK_2.out rfl
      have bK2f2 := free_blk bK_2.out 2
      have bK2l := lt_blk bK_2.out
      go_wp2_with fail
      refine (HT.out _).mono ?_
      rintro e wx ⟨rfl, rfl⟩
      go_wp2
      exact bodyPost_ret (v := .tuple #[.int .i64 s, .bool true]) (by simp [results, Try.results15, go_sem]) rfl ⟨rfl, HB2.out⟩
end Go.Proofs.Ytpppgihoekfmoaa.Wt
