/-
  Contracts for copies of nets: l7Own of the model, copyNet of the program.
-/
import Derived.Test.YtojplmjoipjabaaNtOwn
import Derived.Test.YtojplmjoipjabaaNtTo
import Derived.Deep.RegionHeld3
import Derived.Deep.DeepCutAuto
namespace Go.Proofs.Ytojplmjoipjabaa.Nt
open Go.RowKit
set_option linter.unusedVariables false
set_option linter.unusedSimpArgs false

theorem keptF {W w1 : World} (hb : Below W.heap.size W w1) {b o : Nat} (h : W.frozen? ⟨b, o, none⟩ = false) (hlt : b < W.heap.size) : w1.frozen? ⟨b, o, none⟩ = false :=
  (hb.frozen (p := ⟨b, o, none⟩) hlt).trans h
theorem set_blk {w : World} {g i : Nat} {cs : Array Value} {t : TypeId} {v : Value} (h : w.heap[g]? = some (.cells cs t (0, 0))) : (w.setCell ⟨g, i, none⟩ v).heap[g]? = some (.cells (cs.setIfInBounds i v) t (0, 0)) := by
  simp [World.setCell, Array.getElem?_modify, h]
/-- A net stored leaves other blocks. -/
theorem put4_cell {w : World} {g b o : Nat} {p q r s : Value} (hne : b ≠ g) : ((((w.setCell ⟨g, 0, none⟩ p).setCell ⟨g, 1, none⟩ q).setCell ⟨g, 2, none⟩ r).setCell ⟨g, 3, none⟩ s).cell? ⟨b, o, none⟩ = w.cell? ⟨b, o, none⟩ := by
  have h := bel_put4 (a := p) (b := q) (c := r) (d := s) (Below.refl 0 w) (Nat.zero_le g)
  simp [World.cell?, World.setCell, Array.getElem?_modify, Ne.symm hne]
/-- Behind the draw of a region's order. -/
theorem below_d0 {W w1 : World} (h : Below W.drew.heap.size W.drew w1) : Below W.heap.size W w1 := Below.trans (b := W.drew) (Below.refl _ _).drew h

set_option maxRecDepth 100000 in
set_option maxHeartbeats 4000000 in
theorem l7Own_any (now far : Int) (A A' C : Option Addr) (n c n' c' m d : Nat) (is : List Int) (us : List (Int × Int × Int × ByteArray)) (B : Nat) (w : World) (hn : is.length = n) (hm : us.length = m) (h : IntsB w B A is) (hu : LetsB w B C us) (hB : B ≤ w.heap.size) (hl : n ≤ 2000000) (hlm : m ≤ 2000000) :
    Calls Try.prog 79 #[.agg #[.int .i64 now, .slice A n c, .int .i64 far, .slice A' n' c'], .slice C m d] w (NetV now is far us w) := by
  have hb0 := below2 w (.cells #[.int .i64 now, .slice A n c, .int .i64 far, .slice A' n' c'] 35) (.cells #[.int .i64 0, .slice none 0 0, .int .i64 0, .slice none 0 0] 35)
  have hk1 := heap_alloc_new w (.cells #[.int .i64 now, .slice A n c, .int .i64 far, .slice A' n' c'] 35)
  have hk2 := (below1 (w.alloc (.cells #[.int .i64 now, .slice A n c, .int .i64 far, .slice A' n' c'] 35)) (.cells #[.int .i64 0, .slice none 0 0, .int .i64 0, .slice none 0 0] 35)).block w.heap.size (by simp)
  have hr := alloc_snd w (.cells #[.int .i64 now, .slice A n c, .int .i64 far, .slice A' n' c'] 35) (.cells #[.int .i64 0, .slice none 0 0, .int .i64 0, .slice none 0 0] 35)
  have hk := hk2.trans hk1
  unfold NetV
  rw [hn, hm]
  go_enter Try.func79, Try.ntmps79
  go_upto_region 1 with fail
  obtain ⟨W0, hW0⟩ : ∃ W0, W0 = ((w.alloc (.cells #[.int .i64 now, .slice A n c, .int .i64 far, .slice A' n' c'] 35)).alloc (.cells #[.int .i64 0, .slice none 0 0, .int .i64 0, .slice none 0 0] 35)) := ⟨_, rfl⟩
  have hsz : W0.heap.size = w.heap.size + 2 := by rw [hW0]; simp
  rw [← hW0] at hb0 hk hr ⊢
  have HI := Lib.hid (fun W (hW : Below W0.heap.size W0 W) => l1Own_any A n c is B W hn (h.below ((hb0.trans (hW.mono hb0.size)).mono hB)) (Nat.le_trans hB (hb0.trans (hW.mono hb0.size)).size) hl)
  have HL := Lib.hid (fun W (hW : Below W0.heap.size W0 W) => l7OwnL_any C m d us B W hm (hu.below ((hb0.trans (hW.mono hb0.size)).mono hB)) (Nat.le_trans hB (hb0.trans (hW.mono hb0.size)).size) hlm)
  have c0 := cell_of_row _ _ 0 _ 35 (0, 0) hk
  have c1 := cell_of_row _ _ 1 _ 35 (0, 0) hk
  have c2 := cell_of_row _ _ 2 _ 35 (0, 0) hk
  have r0 := cell_of_row _ _ 0 _ 35 (0, 0) hr
  have r1 := cell_of_row _ _ 1 _ 35 (0, 0) hr
  have r2 := cell_of_row _ _ 2 _ 35 (0, 0) hr
  have r3 := cell_of_row _ _ 3 _ 35 (0, 0) hr
  have f0 := free_blk hr 0
  have f1 := free_blk hr 1
  have f2 := free_blk hr 2
  have f3 := free_blk hr 3
  have hbel := Below.refl W0.heap.size W0
  have hlt : w.heap.size + 1 < W0.heap.size := by omega
  have HB0 := Lib.hid hb0
  have HLT := Lib.hid hlt
  clear hk1 hk2 hk hr hW0 hsz h hu hn hm hb0
  simp only [List.getElem?_toArray, List.getElem?_cons_zero, List.getElem?_cons_succ] at c0 c1 c2 r0 r1 r2 r3
  have hg0 : w.heap.size < W0.heap.size := by omega
  have hne : w.heap.size ≠ w.heap.size + 1 := by omega
  have HS0 : W0.drew.cell? ⟨w.heap.size, 0, none⟩ = some (.int .i64 now) ∧ W0.drew.cell? ⟨w.heap.size, 1, none⟩ = some (.slice A n c) ∧ W0.drew.cell? ⟨w.heap.size, 2, none⟩ = some (.int .i64 far) := ⟨c0, c1, c2⟩
  go_region_held3 (fun w' => w'.cell? ⟨w.heap.size, 0, none⟩ = some (.int .i64 now) ∧ w'.cell? ⟨w.heap.size, 1, none⟩ = some (.slice A n c) ∧ w'.cell? ⟨w.heap.size, 2, none⟩ = some (.int .i64 far))
    (first | with_reducible exact HS0 | with_reducible exact ⟨kept2 hbI0 c0 hg0, kept2 hbI0 c1 hg0, kept2 hbI0 c2 hg0⟩ | with_reducible exact ⟨kept2 hbL0 c0 hg0, kept2 hbL0 c1 hg0, kept2 hbL0 c2 hg0⟩ | with_reducible exact ⟨(put4_cell hne).trans (kept2 hbI0 c0 hg0), (put4_cell hne).trans (kept2 hbI0 c1 hg0), (put4_cell hne).trans (kept2 hbI0 c2 hg0)⟩ | with_reducible exact ⟨(put4_cell hne).trans (kept2 hbL0 c0 hg0), (put4_cell hne).trans (kept2 hbL0 c1 hg0), (put4_cell hne).trans (kept2 hbL0 c2 hg0)⟩)
    (first | (go_at_call 71; (first | (with_reducible refine (HI.out _ hbel.drew).mono ?_) | (with_reducible refine (HI.out _ hbL0).mono ?_)); rintro e w4 ⟨A1, d1, rfl, ho1, hbI⟩; have hbI0 : Below W0.heap.size W0 w4 := (by first | with_reducible exact below_d0 hbI | with_reducible exact hbL0.trans (hbI.mono hbL0.size)); have y0 := kept2 hbI0 r0 hlt; have z0 := keptF hbI0 f0 hlt; have y1 := kept2 hbI0 r1 hlt; have z1 := keptF hbI0 f1 hlt; have y2 := kept2 hbI0 r2 hlt; have z2 := keptF hbI0 f2 hlt; have y3 := kept2 hbI0 r3 hlt; have z3 := keptF hbI0 f3 hlt) | (go_at_call 84; (first | (with_reducible refine (HL.out _ hbel.drew).mono ?_) | (with_reducible refine (HL.out _ hbI0).mono ?_)); rintro e w5 ⟨A2, d2, rfl, ho2, hbL⟩; have hbL0 : Below W0.heap.size W0 w5 := (by first | with_reducible exact below_d0 hbL | with_reducible exact hbI0.trans (hbL.mono hbI0.size)); have y0 := kept2 hbL0 r0 hlt; have z0 := keptF hbL0 f0 hlt; have y1 := kept2 hbL0 r1 hlt; have z1 := keptF hbL0 f1 hlt; have y2 := kept2 hbL0 r2 hlt; have z2 := keptF hbL0 f2 hlt; have y3 := kept2 hbL0 r3 hlt; have z3 := keptF hbL0 f3 hlt))
  have HO1 := Lib.hid (ho1.since hbL (Nat.le_refl _))
  have HO2 := Lib.hid ho2
  have HBF := Lib.hid (HB0.out.trans (hbL0.mono HB0.out.size))
  have hi1 : w.heap.size + 1 < w4.heap.size := Nat.lt_of_lt_of_le hlt hbI0.size
  have hi2 : w4.heap.size ≤ w5.heap.size := hbL.size
  have hi3 := HB0.out.size
  have hi5 : w.heap.size + 1 < w5.heap.size := by omega
  have hi4 : W0.drew.heap.size = W0.heap.size := rfl
  clear ho1 ho2 hbI hbL hbI0 hbL0 HS0 c0 c1 c2 r0 r1 r2 r3 f0 f1 f2 f3 HI HL
  go_wp2
  exact bodyPost_ret (v := .agg #[.int .i64 now, .slice A1 n d1, .int .i64 far, .slice A2 m d2]) (by simp [results, Try.results79, go_sem, y0, y1, y2, y3, z0, z1, z2, z3]) rfl ⟨_, _, _, _, rfl,
    (OwnI.put4 HO1.out (by omega)).wider (by omega) (by simp [World.setCell]; omega),
    (OwnL.put4 HO2.out (by omega)).wider (by omega) (by simp [World.setCell]),
    bel_put4 HBF.out (by omega)⟩

set_option maxRecDepth 100000 in
set_option maxHeartbeats 2000000 in
theorem copyNet_any (now far : Int) (A A' : Option Addr) (n c n' c' : Nat) (is : List Int) (ls : List (Int × Int × Int × ByteArray)) (B : Nat) (w : World) (hn : is.length = n) (hn' : ls.length = n') (h : IntsB w B A is) (h' : LetsB w B A' ls) (hB : B ≤ w.heap.size) (hl : n ≤ 2000000) (hl' : n' ≤ 2000000) :
    Calls Try.prog 70 #[.agg #[.int .i64 now, .slice A n c, .int .i64 far, .slice A' n' c']] w (NetV now is far ls w) := by
  have HI := Lib.hid (fun W (hW : Below w.heap.size w W) => cloneI_any A n c is B W hn (h.below (hW.mono hB)) (Nat.le_trans hB hW.size) hl)
  have HL := Lib.hid (fun W (hW : Below w.heap.size w W) => cloneL_any A' n' c' ls B W hn' (h'.below (hW.mono hB)) (Nat.le_trans hB hW.size) hl')
  have HN := Lib.hid hn
  have HN' := Lib.hid hn'
  unfold NetV
  rw [hn, hn']
  clear h h' hl hl' hn hn' hB
  go_enter Try.func70, Try.ntmps70
  go_wp2_with fail
  have hb0 := below2 w (.cells #[.int .i64 now, .slice A n c, .int .i64 far, .slice A' n' c'] 35) (.cells #[.int .i64 0, .slice none 0 0, .int .i64 0, .slice none 0 0] 35)
  refine (HI.out _ hb0).mono ?_
  rintro e w1 ⟨A1, d1, rfl, ho1, hb1⟩
  have HB1 := Lib.hid (hb0.trans (hb1.mono hb0.size))
  have hz := hb1.size
  simp only [World.size_alloc] at hz
  have hz0 : w.heap.size < w1.heap.size := by omega
  have hz1 : w.heap.size + 1 < w1.heap.size := by omega
  have hk := (hb1.block w.heap.size (by simp; omega)).trans (((below1 (w.alloc (.cells #[.int .i64 now, .slice A n c, .int .i64 far, .slice A' n' c'] 35)) (.cells #[.int .i64 0, .slice none 0 0, .int .i64 0, .slice none 0 0] 35)).block w.heap.size (by simp)).trans (heap_alloc_new w (.cells #[.int .i64 now, .slice A n c, .int .i64 far, .slice A' n' c'] 35)))
  have hr := (hb1.block (w.heap.size + 1) (by simp)).trans (alloc_snd w (.cells #[.int .i64 now, .slice A n c, .int .i64 far, .slice A' n' c'] 35) (.cells #[.int .i64 0, .slice none 0 0, .int .i64 0, .slice none 0 0] 35))
  have k1 := cell_of_row _ _ 1 _ 35 (0, 0) hk
  have k3 := cell_of_row _ _ 3 _ 35 (0, 0) hk
  have g1 := free_blk hk 1
  simp only [List.getElem?_toArray, List.getElem?_cons_zero, List.getElem?_cons_succ] at k1 k3
  have HO1 := Lib.hid ho1
  have HK := Lib.hid hk
  have HRR := Lib.hid hr
  clear hb0 hb1 ho1 hk hr
  go_wp2_with fail
  have hb2 := HB1.out.setCell (p := ⟨w.heap.size, 1, none⟩) (Nat.le_refl _) (.slice A1 n d1)
  refine (HL.out _ hb2).mono ?_
  rintro e w2 ⟨A2, d2, rfl, ho2, hb3⟩
  have HB2 := Lib.hid (hb2.trans (hb3.mono hb2.size))
  have ho1 := (HO1.out.low (p := ⟨w.heap.size, 1, none⟩) (by simp; omega) (.slice A1 n d1)).below (hb3.mono (by simp [World.setCell]))
  have hy := hb3.size
  simp only [World.size_setCell] at hy
  have hk2 := (hb3.block w.heap.size (by simpa [World.setCell] using hz0)).trans (set_blk HK.out)
  have hr2 := (hb3.block (w.heap.size + 1) (by simpa [World.setCell] using hz1)).trans ((Below.heap_setCell _ _ _ _ (by simp)).trans HRR.out)
  have q0 : w2.cell? ⟨w.heap.size, 0, none⟩ = some (.int .i64 now) := cell_of_row _ _ 0 _ 35 (0, 0) hk2
  have q1 : w2.cell? ⟨w.heap.size, 1, none⟩ = some (.slice A1 n d1) := cell_of_row _ _ 1 _ 35 (0, 0) hk2
  have q2 : w2.cell? ⟨w.heap.size, 2, none⟩ = some (.int .i64 far) := cell_of_row _ _ 2 _ 35 (0, 0) hk2
  have q3 : w2.cell? ⟨w.heap.size, 3, none⟩ = some (.slice A' n' c') := cell_of_row _ _ 3 _ 35 (0, 0) hk2
  have y0 : w2.cell? ⟨w.heap.size + 1, 0, none⟩ = some (.int .i64 0) := cell_of_row _ _ 0 _ 35 (0, 0) hr2
  have y1 : w2.cell? ⟨w.heap.size + 1, 1, none⟩ = some (.slice none 0 0) := cell_of_row _ _ 1 _ 35 (0, 0) hr2
  have y2 : w2.cell? ⟨w.heap.size + 1, 2, none⟩ = some (.int .i64 0) := cell_of_row _ _ 2 _ 35 (0, 0) hr2
  have y3 : w2.cell? ⟨w.heap.size + 1, 3, none⟩ = some (.slice none 0 0) := cell_of_row _ _ 3 _ 35 (0, 0) hr2
  have u3 := free_blk hk2 3
  have z0 := free_blk hr2 0
  have z1 := free_blk hr2 1
  have z2 := free_blk hr2 2
  have z3 := free_blk hr2 3
  have hy0 : w.heap.size < w2.heap.size := by omega
  have hy1 : w.heap.size + 1 < w2.heap.size := by omega
  have HO2 := Lib.hid ho1
  have HO3 := Lib.hid ho2
  clear HO1 ho1 ho2 hb2 hb3 hk2 hr2 k1 k3 g1
  go_wp2
  exact bodyPost_ret (v := .agg #[.int .i64 now, .slice A1 n d1, .int .i64 far, .slice A2 n' d2]) (by simp [results, Try.results70, go_sem, y0, y1, y2, y3, z0, z1, z2, z3]) rfl ⟨_, _, _, _, rfl,
    (OwnI.put4 (HO2.out.low (p := ⟨w.heap.size, 3, none⟩) (by simp; omega) _) (by simp)).wider (by simp; omega) (by simp [World.setCell]; omega),
    (OwnL.put4 (HO3.out.low (p := ⟨w.heap.size, 3, none⟩) (by simp [World.setCell]; omega) _) (by simp [World.setCell]; omega)).wider (by simp [World.setCell]; omega) (by simp [World.setCell]),
    bel_put4 (HB2.out.setCell (p := ⟨w.heap.size, 3, none⟩) (Nat.le_refl _) _) (by omega)⟩
end Go.Proofs.Ytojplmjoipjabaa.Nt
