/-
  DrawMendDisk, DrawCutDisk.
-/
import Derived.Test.YtcjejbnogghkcaaDkDr3
namespace Go.Proofs.Ytcjejbnogghkcaa.Dk
open Go.RowKit
set_option linter.unusedVariables false
set_option linter.unusedSimpArgs false

theorem draw_start (A : Option Addr) (c : Nat) (l : List UInt8) (w : World) (h : BytesAt w A l) (hl : l.length ≤ 1048576) :
    Hid (Calls Try.prog 58 #[.pointer (some ⟨w.heap.size + 1, 0, none⟩)] ((w.alloc (.cells #[.string ⟨#[]⟩, .string ⟨#[]⟩] 30)).alloc (.cells #[.slice A l.length c, .int .i64 ((0 : Nat) : Int), .int .u64 0] 61)) (DiskPost ((w.alloc (.cells #[.string ⟨#[]⟩, .string ⟨#[]⟩] 30)).alloc (.cells #[.slice A l.length c, .int .i64 ((0 : Nat) : Int), .int .u64 0] 61)) (w.heap.size + 1) l A c 0 200 60000)) := by
  have hb0 := (Below.refl w.heap.size w).alloc (Nat.le_refl _) (.cells #[.string ⟨#[]⟩, .string ⟨#[]⟩] 30)
  have hC := cur_new _ l A c (h.below hb0)
  rw [World.size_alloc] at hC
  exact Lib.hid (l6Whole_any (w.heap.size + 1) l A c 0 _ hC hl (by omega))

set_option maxHeartbeats 1000000 in
theorem drawMend_any (A : Option Addr) (n c : Nat) (l : List UInt8) (w : World) (hn : l.length = n) (h : BytesAt w A l) (hl : n ≤ 1048576) :
    Calls Try.prog 29 #[.slice A n c] w fun e w' => ∃ k r : ByteArray, e = .returned (.agg #[.string k, .string r]) ∧ k.size + r.size ≤ 60000 ∧ Below w.heap.size w w' := by
  subst hn
  have HW := draw_start A c l w h hl
  obtain ⟨k0, k1, kb, ksz⟩ := alloc_two w (.cells #[.string ⟨#[]⟩, .string ⟨#[]⟩] 30) (.cells #[.slice A l.length c, .int .i64 ((0 : Nat) : Int), .int .u64 0] 61)
  have K0 := Lib.hid k0
  have KB := Lib.hid kb
  have KS := Lib.hid ksz
  clear h k0 k1 kb ksz
  go_enter Try.func29, Try.ntmps29
  go_wp2_with fail
  refine HW.out.mono ?_
  rintro e w3 ⟨k, r, q, rfl, hs, hq, hC, hG⟩
  have hd := (hG.block w.heap.size (by rw [KS.out]; omega) (by simp)).trans K0.out
  have HB := Lib.hid (KB.out.trans (below_of_grown hG (B := w.heap.size) (by omega) (by rw [KS.out]; omega)))
  have c0 := cell_of_row _ _ 0 _ _ (0, 0) hd
  have c1 := cell_of_row _ _ 1 _ _ (0, 0) hd
  simp only [List.getElem?_toArray, List.getElem?_cons_zero, List.getElem?_cons_succ] at c0 c1
  have fz := free_row hd
  clear hd hC hG
  go_wp2
  exact bodyPost_ret (v := .agg #[.string k, .string r]) (by simp [results, Try.results29, go_sem, c0, c1, fz]) rfl ⟨k, r, rfl, hs, (HB.out.setCell (p := ⟨w.heap.size, 0, none⟩) (Nat.le_refl _) _).setCell (p := ⟨w.heap.size, 1, none⟩) (Nat.le_refl _) _⟩

set_option maxHeartbeats 2000000 in
theorem drawCut_any (A : Option Addr) (n c : Nat) (l : List UInt8) (w : World) (hn : l.length = n) (h : BytesAt w A l) (hl : n ≤ 1048576) :
    Calls Try.prog 33 #[.slice A n c] w fun e w' => ∃ (k r : ByteArray) (m : Int), e = .returned (.tuple #[.agg #[.string k, .string r], .int .i64 m]) ∧ k.size + r.size ≤ 60000 ∧ -1 ≤ m ∧ m ≤ 4 ∧ Below w.heap.size w w' := by
  subst hn
  have HW := draw_start A c l w h hl
  obtain ⟨k0, k1, kb, ksz⟩ := alloc_two w (.cells #[.string ⟨#[]⟩, .string ⟨#[]⟩] 30) (.cells #[.slice A l.length c, .int .i64 ((0 : Nat) : Int), .int .u64 0] 61)
  have K0 := Lib.hid k0
  have KB := Lib.hid kb
  have KS := Lib.hid ksz
  clear h k0 k1 kb ksz
  go_enter Try.func33, Try.ntmps33
  go_wp2_with fail
  refine HW.out.mono ?_
  rintro e w3 ⟨k, r, q, rfl, hs, hq, hC, hG⟩
  have hgs := hG.size
  rw [KS.out] at hgs
  have hd := (hG.block w.heap.size (by rw [KS.out]; omega) (by simp)).trans K0.out
  have hd4 : (w3.alloc (.cells #[.string k, .string r] 30)).heap[w.heap.size]? = _ := (Below.heap_alloc _ _ _ (blk_lt hd)).trans hd
  have hn4 := heap_alloc_new w3 (.cells #[.string k, .string r] 30)
  have HB := Lib.hid ((KB.out.trans (below_of_grown hG (B := w.heap.size) (by omega) (by rw [KS.out]; omega))).alloc (by omega) (.cells #[.string k, .string r] 30))
  have HC := Lib.hid (hC.below ((Below.refl _ _).alloc (Nat.le_refl _) (.cells #[.string k, .string r] 30)))
  have c0 := cell_of_row _ _ 0 _ _ (0, 0) hn4
  have c1 := cell_of_row _ _ 1 _ _ (0, 0) hn4
  have d0 := cell_of_row _ _ 0 _ _ (0, 0) hd4
  have d1 := cell_of_row _ _ 1 _ _ (0, 0) hd4
  simp only [List.getElem?_toArray, List.getElem?_cons_zero, List.getElem?_cons_succ] at c0 c1 d0 d1
  have HD4 := Lib.hid hd4
  have HN4 := Lib.hid hn4
  have hw3 : w.heap.size + 1 < w3.heap.size := by omega
  clear hd hd4 hn4 hC hG hgs
  go_upto_region 3 with fail
  obtain ⟨W4, hW4⟩ : ∃ W4, W4 = w3.alloc (.cells #[.string k, .string r] 30) := ⟨_, rfl⟩
  rw [← hW4] at HB HC HD4 HN4 c0 c1 d0 d1 ⊢
  have hsz4 : W4.heap.size = w3.heap.size + 1 := by rw [hW4, World.size_alloc]
  obtain ⟨gd, hgd⟩ : ∃ gd, gd = w3.heap.size := ⟨_, rfl⟩
  rw [← hgd] at HN4 c0 c1 hw3 hsz4 ⊢
  have HPK := Lib.hid (pick_any (w.heap.size + 1) l A c q 6 W4.drew (HC.out.below ((Below.refl _ _).drew)) hl (by omega) (by omega) (by omega))
  clear hW4 hgd HW KB KS K0
  go_region_law ((go_simp; go_at_call 60; (with_reducible refine HPK.out.mono ?_); rintro e w5 ⟨x, q2, hx0, hx1, rfl, hq2, hC5, hG5⟩; have hg5 : W4.grownBy w5 (some (w.heap.size + 1)) := ⟨hG5.os, hG5.tape, hG5.output, hG5.size, hG5.block⟩; have hn5 := (hg5.block gd (by omega) (by simp; omega)).trans HN4.out; have hd5 := (hg5.block w.heap.size (by omega) (by simp)).trans HD4.out; have x0 := cell_of_row _ _ 0 _ _ (0, 0) hn5; have x1 := cell_of_row _ _ 1 _ _ (0, 0) hn5; have y0 := cell_of_row _ _ 0 _ _ (0, 0) hd5; have y1 := cell_of_row _ _ 1 _ _ (0, 0) hd5; have fz := free_row hd5; have HB5 := Lib.hid (HB.out.trans (below_of_grown hg5 (B := w.heap.size) (by omega) (by omega))); clear hn5 hd5 hg5 hG5 hC5; have hxw : IntKind.i64.wrap (x - 1) = x - 1 := (by rw [IntKind.wrap_i64]; omega)))
  all_goals (
    go_wp2
    exact bodyPost_ret (v := .tuple #[.agg #[.string k, .string r], .int .i64 (x - 1)]) (by simp [results, Try.results33, go_sem, y0, y1, fz]) rfl ⟨k, r, x - 1, rfl, hs, by omega, by omega, (HB5.out.setCell (p := ⟨w.heap.size, 0, none⟩) (Nat.le_refl _) _).setCell (p := ⟨w.heap.size, 1, none⟩) (Nat.le_refl _) _⟩)
end Go.Proofs.Ytcjejbnogghkcaa.Dk
