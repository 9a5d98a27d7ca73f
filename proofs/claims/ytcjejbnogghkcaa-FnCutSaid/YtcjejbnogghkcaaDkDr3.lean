/-
  Contracts for the model's drawing of disks: l6Odd, l6Whole, DrawMendDisk, DrawCutDisk.
-/
import Derived.Test.YtcjejbnogghkcaaDkDr2
import Derived.Deep.RegionHeld3
namespace Go.Proofs.Ytcjejbnogghkcaa.Dk
open Go.RowKit
set_option linter.unusedVariables false
set_option linter.unusedSimpArgs false

theorem fallA_small (k l : ByteArray) (n : Int) (t : Bool) (m : Nat) (hm : k.size + l.size ≤ m) : (fallA k l n t).1.size + (fallA k l n t).2.1.size ≤ m := by
  by_cases h : goodB k l = true ∧ 0 ≤ n ∧ n ≤ (l.size : Int)
  · obtain ⟨hg, h0, h1⟩ := h
    obtain ⟨j, rfl⟩ := nat_of h0
    rw [fallA_yes hg (by omega)]
    have hl := fallL_len l.data.toList j t (by show j ≤ l.data.toList.length; rw [Array.length_toList]; show j ≤ l.size; omega)
    show (k ++ ⟨(fallL l.data.toList j t).toArray⟩).size + 0 ≤ _
    rw [ByteArray.size_append]
    show k.size + (fallL l.data.toList j t).toArray.size + 0 ≤ _
    rw [List.size_toArray, hl]; omega
  · rw [fallA_no h]; show (0 : Nat) + 0 ≤ _; omega

theorem disk_end {w wr : World} {g : Nat} {l : List UInt8} {A : Option Addr} {c q q' d m : Nat} {k r : ByteArray} (hC : Cur wr g l A c q') (hG : w.grownBy wr (some g)) (hgw : g < w.heap.size) (hq : q' ≤ q + d) (hs : k.size + r.size ≤ m) :
    DiskPost w g l A c q d m (.returned (.agg #[.string k, .string r])) ((wr.setCell ⟨w.heap.size, 0, none⟩ (.string k)).setCell ⟨w.heap.size, 1, none⟩ (.string r)) :=
  ⟨k, r, q', rfl, hs, hq, cur_set (cur_set hC hgw _) hgw _, grown_setnew (grown_setnew hG (Nat.le_refl w.heap.size) _) (Nat.le_refl w.heap.size) _⟩

theorem made_zero (N : Nat) (h : N ≤ 100000) (W : World) : (Instr.makeSlice 22 (.int .i64 (N : Int)) (.int .i64 (N : Int))).run Try.prog W = .ok (.slice (some ⟨W.heap.size, 0, none⟩) N N) (W.alloc (.cells (madeCells #[Value.int .u8 0] N) 5)) := by
  obtain ⟨i0, hi, hz0, hz1, hz2⟩ := info_parts C1.info5
  have hr := run_make (P := Try.prog) (w := W) 22 5 i0 _ Try.underlying22 hi hz0 .i64 .i64 (N : Int) (N : Int) (by omega) (by omega) (by rw [hz2]; omega) (by omega)
  simp only [Int.toNat_natCast, hz1, Nat.mul_one] at hr
  exact hr
theorem conv_zero (N : Nat) (h : N ≤ 100000) (W : World) : (convert 22 9 (.slice (some ⟨W.heap.size, 0, none⟩) N N)).run Try.prog (W.alloc (.cells (madeCells #[Value.int .u8 0] N) 5)) = .ok (.string ⟨(List.replicate N 0).toArray⟩) (W.alloc (.cells (madeCells #[Value.int .u8 0] N) 5)) := by
  obtain ⟨i0, hi, hz0, hz1, hz2⟩ := info_parts C1.info5
  obtain ⟨w', hr, hown, _⟩ := run_make_full (P := Try.prog) (w := W) W.heap.size 22 5 i0 _ 1 Try.underlying22 hi hz0 hz1 .i64 .i64 N (by rw [hz2]; omega) (by unfold maxLen; omega) (Nat.le_refl _)
  rw [made_zero N h W] at hr
  have hw : w' = W.alloc (.cells (madeCells #[Value.int .u8 0] N) 5) := by injection hr with _ h2; exact h2.symm
  rw [zeros8] at hown
  rw [hw] at hown
  exact C1.conv_back hown

/-- A disk in a cell, beside the result's cell. -/
def ORel (w : World) (g : Nat) (l : List UInt8) (A : Option Addr) (c q gd : Nat) (k r : ByteArray) (wr : World) : Prop :=
  g < w.heap.size ∧ w.heap.size < gd ∧ wr.heap[gd]? = some (.cells #[.string k, .string r] 30 (0, 0)) ∧ wr.heap[w.heap.size]? = some (.cells #[.string ⟨#[]⟩, .string ⟨#[]⟩] 30 (0, 0)) ∧ Cur wr g l A c q ∧ w.grownBy wr (some g)
theorem ORel.of {w wr w2 : World} {g : Nat} {l : List UInt8} {A : Option Addr} {c q q2 gd : Nat} {k r : ByteArray} (h : ORel w g l A c q gd k r wr) (hC : Cur w2 g l A c q2) (hG : wr.grownBy w2 (some g)) : ORel w g l A c q2 gd k r w2 := by
  obtain ⟨h1, h2, h3, h4, h5, h6⟩ := h
  exact ⟨h1, h2, (hG.block gd (blk_lt h3) (by simp; omega)).trans h3, (hG.block w.heap.size (blk_lt h4) (by simp; omega)).trans h4, hC, grown_trans h6 hG⟩
theorem ORel.bel {w wr w2 : World} {g : Nat} {l : List UInt8} {A : Option Addr} {c q gd : Nat} {k r : ByteArray} (h : ORel w g l A c q gd k r wr) (hb : Below wr.heap.size wr w2) : ORel w g l A c q gd k r w2 := by
  obtain ⟨h1, h2, h3, h4, h5, h6⟩ := h
  exact ⟨h1, h2, (hb.block gd (blk_lt h3)).trans h3, (hb.block w.heap.size (blk_lt h4)).trans h4, h5.below hb, grown_below h6 hb⟩
theorem ORel.drew {w wr : World} {g : Nat} {l : List UInt8} {A : Option Addr} {c q gd : Nat} {k r : ByteArray} (h : ORel w g l A c q gd k r wr) : ORel w g l A c q gd k r wr.drew := h.bel ((Below.refl _ _).drew)
theorem ORel.c0 {w wr : World} {g : Nat} {l : List UInt8} {A : Option Addr} {c q gd : Nat} {k r : ByteArray} (h : ORel w g l A c q gd k r wr) : wr.cell? ⟨gd, 0, none⟩ = some (.string k) := cell_of_row _ _ 0 _ _ (0, 0) h.2.2.1
theorem ORel.c1 {w wr : World} {g : Nat} {l : List UInt8} {A : Option Addr} {c q gd : Nat} {k r : ByteArray} (h : ORel w g l A c q gd k r wr) : wr.cell? ⟨gd, 1, none⟩ = some (.string r) := cell_of_row _ _ 1 _ _ (0, 0) h.2.2.1
theorem ORel.d0 {w wr : World} {g : Nat} {l : List UInt8} {A : Option Addr} {c q gd : Nat} {k r : ByteArray} (h : ORel w g l A c q gd k r wr) : wr.cell? ⟨w.heap.size, 0, none⟩ = some (.string ⟨#[]⟩) := cell_of_row _ _ 0 _ _ (0, 0) h.2.2.2.1
theorem ORel.d1 {w wr : World} {g : Nat} {l : List UInt8} {A : Option Addr} {c q gd : Nat} {k r : ByteArray} (h : ORel w g l A c q gd k r wr) : wr.cell? ⟨w.heap.size, 1, none⟩ = some (.string ⟨#[]⟩) := cell_of_row _ _ 1 _ _ (0, 0) h.2.2.2.1
theorem ORel.cur {w wr : World} {g : Nat} {l : List UInt8} {A : Option Addr} {c q gd : Nat} {k r : ByteArray} (h : ORel w g l A c q gd k r wr) : Cur wr g l A c q := h.2.2.2.2.1
theorem set_first {w : World} {gd : Nat} {x y a : Value} {T : TypeId} (h : w.heap[gd]? = some (.cells #[x, y] T (0, 0))) : (w.setCell ⟨gd, 0, none⟩ a).heap[gd]? = some (.cells #[a, y] T (0, 0)) := by
  simp [World.setCell, Array.getElem?_modify, h]
theorem set_second {w : World} {gd : Nat} {x y a : Value} {T : TypeId} (h : w.heap[gd]? = some (.cells #[x, y] T (0, 0))) : (w.setCell ⟨gd, 1, none⟩ a).heap[gd]? = some (.cells #[x, a] T (0, 0)) := by
  simp [World.setCell, Array.getElem?_modify, h]
theorem ORel.setk {w wr : World} {g : Nat} {l : List UInt8} {A : Option Addr} {c q gd : Nat} {k r k2 : ByteArray} (h : ORel w g l A c q gd k r wr) : ORel w g l A c q gd k2 r (wr.setCell ⟨gd, 0, none⟩ (.string k2)) := by
  obtain ⟨h1, h2, h3, h4, h5, h6⟩ := h
  exact ⟨h1, h2, set_first h3, set_oth h4 (by show gd ≠ w.heap.size; omega) _, cur_set h5 (show g < gd by omega) _, grown_setnew h6 (show w.heap.size ≤ gd by omega) _⟩
theorem ORel.setl {w wr : World} {g : Nat} {l : List UInt8} {A : Option Addr} {c q gd : Nat} {k r r2 : ByteArray} (h : ORel w g l A c q gd k r wr) : ORel w g l A c q gd k r2 (wr.setCell ⟨gd, 1, none⟩ (.string r2)) := by
  obtain ⟨h1, h2, h3, h4, h5, h6⟩ := h
  exact ⟨h1, h2, set_second h3, set_oth h4 (by show gd ≠ w.heap.size; omega) _, cur_set h5 (show g < gd by omega) _, grown_setnew h6 (show w.heap.size ≤ gd by omega) _⟩
theorem ORel.set2 {w wr : World} {g : Nat} {l : List UInt8} {A : Option Addr} {c q gd : Nat} {k r k2 r2 : ByteArray} (h : ORel w g l A c q gd k r wr) : ORel w g l A c q gd k2 r2 ((wr.setCell ⟨gd, 0, none⟩ (.string k2)).setCell ⟨gd, 1, none⟩ (.string r2)) := by
  obtain ⟨h1, h2, h3, h4, h5, h6⟩ := h
  exact ⟨h1, h2, set_two h3, set_oth (set_oth h4 (by show gd ≠ w.heap.size; omega) _) (by show gd ≠ w.heap.size; omega) _, cur_set (cur_set h5 (show g < gd by omega) _) (show g < gd by omega) _, grown_setnew (grown_setnew h6 (show w.heap.size ≤ gd by omega) _) (show w.heap.size ≤ gd by omega) _⟩

set_option maxRecDepth 100000 in
set_option maxHeartbeats 8000000 in
theorem l6Odd_any (g : Nat) (l : List UInt8) (A : Option Addr) (c q : Nat) (w : World) (h : Cur w g l A c q) (hl : l.length ≤ 1048576) (hq : q ≤ 600000000) :
    Calls Try.prog 77 #[.pointer (some ⟨g, 0, none⟩)] w (DiskPost w g l A c q 100 60000) := by
  have HGL := Lib.hid h.lt
  have hb0 := (Below.refl w.heap.size w).alloc (Nat.le_refl _) (.cells #[.string ⟨#[]⟩, .string ⟨#[]⟩] 30)
  have HM := Lib.hid (l6Make_any g l A c q _ (h.below hb0) hl (by omega))
  have K0 := Lib.hid (heap_alloc_new w (.cells #[.string ⟨#[]⟩, .string ⟨#[]⟩] 30))
  have HB0 := Lib.hid hb0
  clear h hb0
  go_enter Try.func77, Try.ntmps77
  go_wp2_with fail
  refine HM.out.mono ?_
  rintro e w1 ⟨k, r, q1, rfl, hsz, hq1, hC1, hG1⟩
  have hgs := hG1.size
  rw [World.size_alloc] at hgs
  have k1 := (hG1.block w.heap.size (by rw [World.size_alloc]; exact Nat.lt_succ_self _) (by have := HGL.out; simp; omega)).trans K0.out
  have HO := Lib.hid (show ORel w g l A c q1 w1.heap.size k r (w1.alloc (.cells #[.string k, .string r] 30)) from
    ⟨HGL.out, by omega, heap_alloc_new _ _, (Below.heap_alloc _ _ _ (by omega)).trans k1, hC1.below ((Below.refl _ _).alloc (Nat.le_refl _) _), grown_below (grown_trans (grown_below (grown_refl _ _) HB0.out) hG1) ((Below.refl _ _).alloc (Nat.le_refl _) _)⟩)
  obtain ⟨gd, hgd⟩ : ∃ gd, gd = w1.heap.size := ⟨_, rfl⟩
  rw [← hgd] at HO
  clear k1 hC1 hG1 hgs
  go_upto_region 2 with fail
  rw [← hgd]
  generalize w1.alloc (.cells #[.string k, .string r] 30) = W1 at *
  clear hgd
  have HP := Lib.hid (pick_any g l A c q1 12 _ HO.out.2.2.2.2.1 hl (by omega) (by omega) (by omega))
  go_wp2_with fail
  refine HP.out.mono ?_
  rintro e w2 ⟨x, q2, hx0, hx1, rfl, hq2, hC2, hG2⟩
  have HO2 := Lib.hid (HO.out.of hC2 hG2)
  clear hC2 hG2 HP HO HM K0 HB0
  have hx : x = 0 ∨ x = 1 ∨ x = 2 ∨ x = 3 ∨ 4 ≤ x := by omega
  rcases hx with rfl | rfl | rfl | rfl | hx
  · have hx0' : (0 : Int) = 0 := rfl
    have HS := Lib.hid (spoilt_any g l A c q2 r ⟨#[0, 1, 128, 255]⟩ w2 HO2.out.2.2.2.2.1 hl (by omega) (by omega) (by decide) (by decide))
    have c0 := HO2.out.c0
    have c1 := HO2.out.c1
    go_wp2_with fail
    refine HS.out.mono ?_
    rintro e w3 ⟨t, q3, rfl, ht, hq3, hC3, hG3⟩
    have HO3 := Lib.hid (HO2.out.of hC3 hG3)
    clear c0 c1 hC3 hG3 HS
    have c0 := HO3.out.c0
    have c1 := HO3.out.c1
    have fz := free_row HO3.out.2.2.1
    go_upto_region 12 with fail
    clear c0 c1 fz
    have HO9 := Lib.hid (show ORel w g l A c q3 gd k t _ from HO3.out.setl)
    have c0 := HO9.out.c0
    have c1 := HO9.out.c1
    have d0 := HO9.out.d0
    have d1 := HO9.out.d1
    have fz := free_row HO9.out.2.2.2.1
    go_wp2
    exact bodyPost_ret (v := .agg #[.string k, .string t]) (by simp [results, Try.results77, go_sem, d0, d1, fz]) rfl (disk_end HO9.out.2.2.2.2.1 HO9.out.2.2.2.2.2 HGL.out (by omega) (by omega))
  · have hx0' : (0 : Int) = 0 := rfl
    have HS := Lib.hid (spoilt_any g l A c q2 k ⟨#[0, 1, 128, 255]⟩ w2 HO2.out.2.2.2.2.1 hl (by omega) (by omega) (by decide) (by decide))
    have c0 := HO2.out.c0
    have c1 := HO2.out.c1
    go_wp2_with fail
    refine HS.out.mono ?_
    rintro e w3 ⟨t, q3, rfl, ht, hq3, hC3, hG3⟩
    have HO3 := Lib.hid (HO2.out.of hC3 hG3)
    clear c0 c1 hC3 hG3 HS
    have c0 := HO3.out.c0
    have c1 := HO3.out.c1
    have fz := free_row HO3.out.2.2.1
    go_upto_region 12 with fail
    clear c0 c1 fz
    have HO9 := Lib.hid (show ORel w g l A c q3 gd t r _ from HO3.out.setk)
    have c0 := HO9.out.c0
    have c1 := HO9.out.c1
    have d0 := HO9.out.d0
    have d1 := HO9.out.d1
    have fz := free_row HO9.out.2.2.2.1
    go_wp2
    exact bodyPost_ret (v := .agg #[.string t, .string r]) (by simp [results, Try.results77, go_sem, d0, d1, fz]) rfl (disk_end HO9.out.2.2.2.2.1 HO9.out.2.2.2.2.2 HGL.out (by omega) (by omega))
  · have HPK := Lib.hid (fun W (hC : Cur W g l A c q2) => pick_any g l A c q2 ((r.size : Int) + 1) W hC hl (by omega) (by omega) (by omega))
    have HON := Lib.hid (fun q' W (hC : Cur W g l A c q') hq' => one_any g l A c q' 2 W hC hl hq' (by omega) (by omega))
    have HFA := Lib.hid (fun y torn W => specFall_any k r y torn W (by omega) (by omega))
    simp only [DAns] at HFA
    have hfs := fun y torn => fallA_small k r y torn 2900 hsz
    have hrw : IntKind.i64.wrap ((r.size : Int) + 1) = (r.size : Int) + 1 := by rw [IntKind.wrap_i64]; omega
    have c0 := HO2.out.c0
    have c1 := HO2.out.c1
    have HD2 := Lib.hid HO2.out.drew
    go_upto_region 8 with fail
    go_region_law (first
      | ((go_simp; go_at_call 60; (with_reducible refine (HPK.out _ ?_).mono ?_); (exact HD2.out.cur); rintro e w3 ⟨y, q3, hy0, hy1, rfl, hq3, hC3, hG3⟩; have HO3 := Lib.hid (HD2.out.of hC3 hG3); have x0 := HO3.out.c0; have x1 := HO3.out.c1))
      | ((go_simp; go_at_call 64; (with_reducible refine (HON.out q3 _ HO3.out.cur (by omega)).mono ?_); rintro e w4 ⟨tn, q4, rfl, hq4, hC4, hG4⟩; have HO4 := Lib.hid (HO3.out.of hC4 hG4); have y0 := HO4.out.c0; have y1 := HO4.out.c1))
      | ((go_simp; go_at_call 43; (with_reducible refine (HFA.out y tn _).mono ?_); rintro e w5 ⟨rfl, hb5⟩; have HO5 := Lib.hid (HO4.out.bel hb5); have z0 := HO5.out.c0; have z1 := HO5.out.c1; have fz5 := free_row HO5.out.2.2.1)))
    all_goals (
      have hs5 := hfs y tn
      have HO9 := Lib.hid (show ORel w g l A c q4 gd (fallA k r y tn).1 (fallA k r y tn).2.1 _ from HO5.out.set2)
      clear c0 c1 x0 x1 y0 y1 z0 z1 fz5
      go_upto_region 12 with fail
      have c0 := HO9.out.c0
      have c1 := HO9.out.c1
      have d0 := HO9.out.d0
      have d1 := HO9.out.d1
      have fz := free_row HO9.out.2.2.2.1
      go_wp2
      exact bodyPost_ret (v := .agg #[.string (fallA k r y tn).1, .string (fallA k r y tn).2.1]) (by simp [results, Try.results77, go_sem, d0, d1, fz]) rfl (disk_end HO9.out.2.2.2.2.1 HO9.out.2.2.2.2.2 HGL.out (by omega) (by omega)))
  · have HON := Lib.hid (one_any g l A c q2 6 _ HO2.out.cur hl (by omega) (by omega) (by omega))
    go_upto_region 10 with fail
    go_wp2_with fail
    refine HON.out.mono ?_
    rintro e w3 ⟨x, q3, rfl, hq3, hC3, hG3⟩
    have HO3 := Lib.hid (HO2.out.of hC3 hG3)
    clear hC3 hG3 HON
    cases x with
    | false =>
      go_upto_region 12 with fail
      have c0 := HO3.out.c0
      have c1 := HO3.out.c1
      have d0 := HO3.out.d0
      have d1 := HO3.out.d1
      have fz := free_row HO3.out.2.2.2.1
      go_wp2
      exact bodyPost_ret (v := .agg #[.string k, .string r]) (by simp [results, Try.results77, go_sem, d0, d1, fz]) rfl (disk_end HO3.out.2.2.2.2.1 HO3.out.2.2.2.2.2 HGL.out (by omega) (by omega))
    | true =>
      have HD3 := Lib.hid HO3.out.drew
      have HPK := Lib.hid (fun W (hC : Cur W g l A c q3) => pick_any g l A c q3 2 W hC hl (by omega) (by omega) (by omega))
      have c0 := HO3.out.c0
      have hks : (k.size : Int) ≤ 2900 := by omega
      have hw1 : IntKind.i64.wrap (50000 - (k.size : Int)) = 50000 - (k.size : Int) := by rw [IntKind.wrap_i64]; omega
      go_upto_region 11 with fail
      go_region_law ((go_simp; go_at_call 60; (with_reducible refine (HPK.out _ ?_).mono ?_); (exact HD3.out.cur); rintro e w4 ⟨y, q4, hy0, hy1, rfl, hq4, hC4, hG4⟩; have HO4 := Lib.hid (HD3.out.of hC4 hG4); obtain ⟨y, rfl⟩ := nat_of hy0; obtain ⟨N, hN⟩ : ∃ N : Nat, N = 50000 - k.size + y := ⟨_, rfl⟩; have hN5 : N ≤ 60000 - k.size := (by omega); have hw2 : IntKind.i64.wrap (50000 - (k.size : Int) + (y : Int)) = (N : Int) := (by rw [IntKind.wrap_i64]; omega); clear hN; have x0 := HO4.out.c0; have x1 := HO4.out.c1; have hmk := made_zero N (by omega) w4; have hcz := conv_zero N (by omega) w4; have ha := (HO4.out.bel ((Below.refl _ _).alloc (Nat.le_refl _) (.cells (madeCells #[Value.int .u8 0] N) 5))); have fz5 := free_row ha.2.2.1; have z0 := ha.c0; have z1 := ha.c1; have HA := Lib.hid ha; clear ha))
      all_goals (
        have hzs : (⟨Array.replicate N 0⟩ : ByteArray).size = N := by show (Array.replicate N (0 : UInt8)).size = N; simp
        have HO9 := Lib.hid (show ORel w g l A c q4 gd k ⟨Array.replicate N 0⟩ _ from HA.out.setl)
        clear c0 x0 x1 z0 z1 fz5 hmk hcz
        go_upto_region 12 with fail
        have c0 := HO9.out.c0
        have c1 := HO9.out.c1
        have d0 := HO9.out.d0
        have d1 := HO9.out.d1
        have fz := free_row HO9.out.2.2.2.1
        go_wp2
        exact bodyPost_ret (v := .agg #[.string k, .string ⟨Array.replicate N 0⟩]) (by simp [results, Try.results77, go_sem, d0, d1, fz]) rfl (disk_end HO9.out.2.2.2.2.1 HO9.out.2.2.2.2.2 HGL.out (by omega) (by omega)))
  · have n0 : ¬ x = 0 := by omega
    have n1 : ¬ x = 1 := by omega
    have n2 : ¬ x = 2 := by omega
    have n3 : ¬ x = 3 := by omega
    go_upto_region 12 with fail
    have c0 := HO2.out.c0
    have c1 := HO2.out.c1
    have d0 := HO2.out.d0
    have d1 := HO2.out.d1
    have fz := free_row HO2.out.2.2.2.1
    go_wp2
    exact bodyPost_ret (v := .agg #[.string k, .string r]) (by simp [results, Try.results77, go_sem, d0, d1, fz]) rfl (disk_end HO2.out.2.2.2.2.1 HO2.out.2.2.2.2.2 HGL.out (by omega) (by omega))

set_option maxRecDepth 100000 in
set_option maxHeartbeats 8000000 in
theorem l6Whole_any (g : Nat) (l : List UInt8) (A : Option Addr) (c q : Nat) (w : World) (h : Cur w g l A c q) (hl : l.length ≤ 1048576) (hq : q ≤ 500000000) :
    Calls Try.prog 58 #[.pointer (some ⟨g, 0, none⟩)] w (DiskPost w g l A c q 200 60000) := by
  have HGL := Lib.hid h.lt
  have hb0 := (Below.refl w.heap.size w).alloc (Nat.le_refl _) (.cells #[.string ⟨#[]⟩, .string ⟨#[]⟩] 30)
  have HM := Lib.hid (l6Odd_any g l A c q _ (h.below hb0) hl (by omega))
  have K0 := Lib.hid (heap_alloc_new w (.cells #[.string ⟨#[]⟩, .string ⟨#[]⟩] 30))
  have HB0 := Lib.hid hb0
  clear h hb0
  go_enter Try.func58, Try.ntmps58
  go_wp2_with fail
  refine HM.out.mono ?_
  rintro e w1 ⟨k, r, q1, rfl, hsz, hq1, hC1, hG1⟩
  have hgs := hG1.size
  rw [World.size_alloc] at hgs
  have k1 := (hG1.block w.heap.size (by rw [World.size_alloc]; exact Nat.lt_succ_self _) (by have := HGL.out; simp; omega)).trans K0.out
  have HO := Lib.hid (show ORel w g l A c q1 w1.heap.size k r (w1.alloc (.cells #[.string k, .string r] 30)) from
    ⟨HGL.out, by omega, heap_alloc_new _ _, (Below.heap_alloc _ _ _ (by omega)).trans k1, hC1.below ((Below.refl _ _).alloc (Nat.le_refl _) _), grown_below (grown_trans (grown_below (grown_refl _ _) HB0.out) hG1) ((Below.refl _ _).alloc (Nat.le_refl _) _)⟩)
  obtain ⟨gd, hgd⟩ : ∃ gd, gd = w1.heap.size := ⟨_, rfl⟩
  rw [← hgd] at HO
  clear k1 hC1 hG1 hgs
  go_upto_region 2 with fail
  rw [← hgd]
  generalize w1.alloc (.cells #[.string k, .string r] 30) = W1 at *
  clear hgd
  have HP := Lib.hid (pick_any g l A c q1 5 _ HO.out.2.2.2.2.1 hl (by omega) (by omega) (by omega))
  go_wp2_with fail
  refine HP.out.mono ?_
  rintro e w2 ⟨x, q2, hx0, hx1, rfl, hq2, hC2, hG2⟩
  have HO1 := Lib.hid (HO.out.of hC2 hG2)
  clear hC2 hG2 HP HO HM K0 HB0
  by_cases hx : 0 < x
  · have c0 := HO1.out.c0
    have c1 := HO1.out.c1
    have HGD := Lib.hid (specGood_any k r w2 (by unfold Few; omega) (by unfold Few; omega))
    go_wp2_with fail
    refine HGD.out.mono ?_
    rintro e w3 ⟨rfl, hb3⟩
    have HO2 := Lib.hid (HO1.out.bel hb3)
    clear hb3 HGD HO1 c0 c1
    obtain ⟨b, hb⟩ : ∃ b, b = goodB k r := ⟨_, rfl⟩
    rw [← hb]
    clear hb
    cases b with
    | false =>
      go_upto_region 4 with fail
      have c0 := HO2.out.c0
      have c1 := HO2.out.c1
      have d0 := HO2.out.d0
      have d1 := HO2.out.d1
      have fz := free_row HO2.out.2.2.2.1
      go_wp2
      exact bodyPost_ret (v := .agg #[.string k, .string r]) (by simp [results, Try.results58, go_sem, d0, d1, fz]) rfl (disk_end HO2.out.2.2.2.2.1 HO2.out.2.2.2.2.2 HGL.out (by omega) (by omega))
    | true =>
      have HPK := Lib.hid (fun W (hC : Cur W g l A c q2) => pick_any g l A c q2 ((r.size : Int) + 1) W hC hl (by omega) (by omega) (by omega))
      have HON := Lib.hid (fun q' W (hC : Cur W g l A c q') hq' => one_any g l A c q' 3 W hC hl hq' (by omega) (by omega))
      have HFA := Lib.hid (fun y torn W => specFall_any k r y torn W (by omega) (by omega))
      simp only [DAns] at HFA
      have hfs := fun y torn => fallA_small k r y torn 60000 hsz
      have hrw : IntKind.i64.wrap ((r.size : Int) + 1) = (r.size : Int) + 1 := by rw [IntKind.wrap_i64]; omega
      have c0 := HO2.out.c0
      have c1 := HO2.out.c1
      have HD2 := Lib.hid HO2.out.drew
      go_upto_region 3 with fail
      go_region_law (first
        | ((go_simp; go_at_call 60; (with_reducible refine (HPK.out _ ?_).mono ?_); (exact HD2.out.cur); rintro e w3 ⟨y, q3, hy0, hy1, rfl, hq3, hC3, hG3⟩; have HO3 := Lib.hid (HD2.out.of hC3 hG3); have x0 := HO3.out.c0; have x1 := HO3.out.c1))
        | ((go_simp; go_at_call 64; (with_reducible refine (HON.out q3 _ HO3.out.cur (by omega)).mono ?_); rintro e w4 ⟨tn, q4, rfl, hq4, hC4, hG4⟩; have HO4 := Lib.hid (HO3.out.of hC4 hG4); have y0 := HO4.out.c0; have y1 := HO4.out.c1))
        | ((go_simp; go_at_call 43; (with_reducible refine (HFA.out y tn _).mono ?_); rintro e w5 ⟨rfl, hb5⟩; have HO5 := Lib.hid (HO4.out.bel hb5); have z0 := HO5.out.c0; have z1 := HO5.out.c1; have fz5 := free_row HO5.out.2.2.1)))
      all_goals (
        have hs5 := hfs y tn
        have HO9 := Lib.hid (show ORel w g l A c q4 gd (fallA k r y tn).1 (fallA k r y tn).2.1 _ from HO5.out.set2)
        clear c0 c1 x0 x1 y0 y1 z0 z1 fz5
        go_upto_region 4 with fail
        have c0 := HO9.out.c0
        have c1 := HO9.out.c1
        have d0 := HO9.out.d0
        have d1 := HO9.out.d1
        have fz := free_row HO9.out.2.2.2.1
        go_wp2
        exact bodyPost_ret (v := .agg #[.string (fallA k r y tn).1, .string (fallA k r y tn).2.1]) (by simp [results, Try.results58, go_sem, d0, d1, fz]) rfl (disk_end HO9.out.2.2.2.2.1 HO9.out.2.2.2.2.2 HGL.out (by omega) (by omega)))
  · go_upto_region 4 with fail
    have c0 := HO1.out.c0
    have c1 := HO1.out.c1
    have d0 := HO1.out.d0
    have d1 := HO1.out.d1
    have fz := free_row HO1.out.2.2.2.1
    go_wp2
    exact bodyPost_ret (v := .agg #[.string k, .string r]) (by simp [results, Try.results58, go_sem, d0, d1, fz]) rfl (disk_end HO1.out.2.2.2.2.1 HO1.out.2.2.2.2.2 HGL.out (by omega) (by omega))
end Go.Proofs.Ytcjejbnogghkcaa.Dk
