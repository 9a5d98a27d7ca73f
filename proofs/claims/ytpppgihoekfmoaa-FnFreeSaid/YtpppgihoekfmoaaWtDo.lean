/-
  The model's drawing of watches, also ones that are not valid: l10Odd.
-/
import Derived.Test.YtpppgihoekfmoaaWtDm
import Derived.Deep.DeepCutAuto
import Derived.Deep.RegionHeld3
namespace Go.Proofs.Ytpppgihoekfmoaa.Wt
open Go.RowKit
set_option linter.unusedVariables false
set_option linter.unusedSimpArgs false

section
variable {w wr w2 : World} {g : Nat} {l : List UInt8} {A A1 A2 : Option Addr} {c q q2 gd c1 c2 n1 n2 : Nat} {tm : Int} {is : List Int} {ls : List (Int × Int × Int)}
theorem WRel.alloc (h : WRel w g l A c q gd tm is ls A1 A2 c1 c2 n1 n2 wr) (o : Obj) : WRel w g l A c q gd tm is ls A1 A2 c1 c2 n1 n2 (wr.alloc o) := h.bel (below1 wr o)
theorem WRel.set0 (h : WRel w g l A c q gd tm is ls A1 A2 c1 c2 n1 n2 wr) (tm' : Int) : WRel w g l A c q gd tm' is ls A1 A2 c1 c2 n1 n2 (wr.setCell ⟨gd, 0, none⟩ (.int .i64 tm')) := by
  obtain ⟨h1, h2, h3, h4, h5, h6, h7, h8, h9, h10⟩ := h
  refine ⟨h1, h2, set_blkW (i := 0) (v := .int .i64 tm') h3, ?_, h5.setNew (p := ⟨gd, 0, none⟩) (by show g < gd; omega) _, grown_setNew (p := ⟨gd, 0, none⟩) h6 (by show w.heap.size ≤ gd; omega) _, h7, h8, ?_, ?_⟩
  · exact (Below.heap_setCell _ _ _ _ (by show w.heap.size ≠ gd; omega)).trans h4
  · exact Own.wider (Own.otherT (p := ⟨gd, 0, none⟩) h9 h3 (by decide) (.int .i64 tm')) (Nat.le_refl _) (by simp [World.setCell])
  · exact Own.wider (Own.otherT (p := ⟨gd, 0, none⟩) h10 h3 (by decide) (.int .i64 tm')) (Nat.le_refl _) (by simp [World.setCell])
theorem WRel.set2 {ls' : List (Int × Int × Int)} {B2 : Option Addr} {d2 m2 : Nat} (h : WRel w g l A c q gd tm is ls A1 A2 c1 c2 n1 n2 wr) (hl : OwnLe wr (w.heap.size + 1) wr.heap.size B2 d2 ls') (e2 : ls'.length = m2) :
    WRel w g l A c q gd tm is ls' A1 B2 c1 d2 n1 m2 (wr.setCell ⟨gd, 2, none⟩ (.slice B2 m2 d2)) := by
  obtain ⟨h1, h2, h3, h4, h5, h6, h7, h8, h9, h10⟩ := h
  refine ⟨h1, h2, set_blkW (i := 2) (v := .slice B2 m2 d2) h3, ?_, h5.setNew (p := ⟨gd, 2, none⟩) (by show g < gd; omega) _, grown_setNew (p := ⟨gd, 2, none⟩) h6 (by show w.heap.size ≤ gd; omega) _, h7, e2, ?_, ?_⟩
  · exact (Below.heap_setCell _ _ _ _ (by show w.heap.size ≠ gd; omega)).trans h4
  · exact Own.wider (Own.otherT (p := ⟨gd, 2, none⟩) h9 h3 (by decide) (.slice B2 m2 d2)) (Nat.le_refl _) (by simp [World.setCell])
  · exact Own.wider (Own.otherT (p := ⟨gd, 2, none⟩) hl h3 (by decide) (.slice B2 m2 d2)) (Nat.le_refl _) (by simp [World.setCell])
theorem WRel.clk (h : WRel w g l A c q gd tm is ls A1 A2 c1 c2 n1 n2 wr) (hn : 0 < n1) : ∃ gg, A1 = some ⟨gg, 0, none⟩ ∧ gg < wr.heap.size ∧ (∀ i, wr.frozen? ⟨gg, i, none⟩ = false) ∧ (∃ v, wr.cell? ⟨gg, 0, none⟩ = some (.int .i64 v)) ∧ gd ≠ gg ∧ ∀ v : Int, WRel w g l A c q gd tm (is.set 0 v) ls (some ⟨gg, 0, none⟩) A2 c1 c2 n1 n2 (wr.setCell ⟨gg, 0, none⟩ (.int .i64 v)) := by
  obtain ⟨h1, h2, h3, h4, h5, h6, h7, h8, h9, h10⟩ := h
  obtain ⟨gg, cur, hA, k1, k2, k3, k4⟩ := Own.form h9 (by simpa [h7] using hn)
  subst hA
  obtain ⟨b, off, hA, hb, hc⟩ := (OwnCk.cks h9).get (by omega)
  injection hA with hA
  injection hA with e1 e2
  subst e1 e2
  have hne : gd ≠ gg := by intro e; subst e; rw [h3] at k3; injection k3 with k3; injection k3 with _ k5; exact absurd k5 (by decide)
  refine ⟨gg, rfl, lt_blk k3, free_blk k3, ⟨_, hc 0 (by omega)⟩, hne, fun v => ⟨h1, h2, ?_, ?_, h5.setNew (p := ⟨gg, 0, none⟩) (by show g < gg; omega) _, grown_setNew (p := ⟨gg, 0, none⟩) h6 (by show w.heap.size ≤ gg; omega) _, by rw [List.length_set]; exact h7, h8, ?_, ?_⟩⟩
  · exact (Below.heap_setCell _ _ _ _ hne).trans h3
  · exact (Below.heap_setCell _ _ _ _ (by show w.heap.size ≠ gg; omega)).trans h4
  · exact Own.wider (OwnCk.drift h9 (k := 0) (by omega) v) (Nat.le_refl _) (by simp [World.setCell])
  · exact Own.wider (Own.otherT (p := ⟨gg, 0, none⟩) h10 k3 (by decide) (.int .i64 v)) (Nat.le_refl _) (by simp [World.setCell])
end
section
variable {w wr w9 : World} {g : Nat} {l : List UInt8} {A A1 A2 : Option Addr} {c q gd c1 c2 n1 n2 : Nat} {tm : Int} {is : List Int} {ls : List (Int × Int × Int)} {o : Obj}
theorem WRel.notown (h : WRel w g l A c q gd tm is ls A1 A2 c1 c2 n1 n2 wr) {b : Nat} {cs : Array Value} {t : TypeId} (hb : wr.heap[b]? = some (.cells cs t (0, 0))) (ht : t ≠ 55) : some b ≠ (Value.slice A2 n2 c2).ownBlock := by
  obtain ⟨h1, h2, h3, h4, h5, h6, h7, h8, h9, h10⟩ := h
  intro e
  rcases h10 with ⟨_, rfl, _⟩ | ⟨b', cur, rfl, k1, k2, k3, k4⟩
  · simp [Value.ownBlock] at e
  · have e2 : b = b' := by simpa [Value.ownBlock] using e
    subst e2
    rw [hb] at k3
    injection k3 with k3
    injection k3 with _ k5
    exact ht k5
theorem WRel.appBox (h : WRel w g l A c q gd tm is ls A1 A2 c1 c2 n1 n2 wr) (hgr : (wr.alloc o).grownBy w9 (Value.slice A2 n2 c2).ownBlock) : w9.heap[gd]? = some (.cells #[.int .i64 tm, .slice A1 n1 c1, .slice A2 n2 c2] 30 (0, 0)) := by
  have hne := h.notown h.2.2.1 (by decide)
  have hlt := lt_blk h.2.2.1
  exact (hgr.block gd (by simp; omega) hne).trans ((Below.heap_alloc wr o gd hlt).trans h.2.2.1)
/-- A lease appended, and the row stored. -/
theorem WRel.app {ls' : List (Int × Int × Int)} {B2 : Option Addr} {d2 m2 : Nat} (h : WRel w g l A c q gd tm is ls A1 A2 c1 c2 n1 n2 wr) (hgr : (wr.alloc o).grownBy w9 (Value.slice A2 n2 c2).ownBlock) (hl : OwnLe w9 (w.heap.size + 1) w9.heap.size B2 d2 ls') (e2 : ls'.length = m2) :
    WRel w g l A c q gd tm is ls' A1 B2 c1 d2 n1 m2 (w9.setCell ⟨gd, 2, none⟩ (.slice B2 m2 d2)) := by
  have hbox := h.appBox hgr
  have hno := fun {b : Nat} {cs : Array Value} {t : TypeId} (hb : wr.heap[b]? = some (.cells cs t (0, 0))) (ht : t ≠ 55) => h.notown hb ht
  obtain ⟨h1, h2, h3, h4, h5, h6, h7, h8, h9, h10⟩ := h
  have hr := lee_row h10 h8
  have hlr := lt_blk h4
  have hb := below_app (Below.refl (w.heap.size + 1) wr) (by omega) hr hgr
  have hck : OwnCk w9 (w.heap.size + 1) w9.heap.size A1 c1 is := by
    rcases h9 with h | ⟨b, cur, hA, k1, k2, k3, k4⟩
    · exact .inl h
    · have hs := hgr.size
      have hlb := lt_blk k3
      rw [World.size_alloc] at hs
      exact .inr ⟨b, cur, hA, k1, by omega, (hgr.block b (by simp; omega) (hno k3 (by decide))).trans ((Below.heap_alloc wr o b hlb).trans k3), k4⟩
  refine ⟨h1, h2, set_blkW (i := 2) (v := .slice B2 m2 d2) hbox, ?_, (h5.belowB hb (by omega)).setNew (p := ⟨gd, 2, none⟩) (by show g < gd; omega) _, grown_setNew (p := ⟨gd, 2, none⟩) (grown_appB h6 (Nat.le_succ _) hr hgr) (by show w.heap.size ≤ gd; omega) _, h7, e2, ?_, ?_⟩
  · exact (Below.heap_setCell _ _ _ _ (by show w.heap.size ≠ gd; omega)).trans ((hb.block w.heap.size (by omega)).trans h4)
  · exact Own.wider (Own.otherT (p := ⟨gd, 2, none⟩) hck hbox (by decide) (.slice B2 m2 d2)) (Nat.le_refl _) (by simp [World.setCell])
  · exact Own.wider (Own.otherT (p := ⟨gd, 2, none⟩) hl hbox (by decide) (.slice B2 m2 d2)) (Nat.le_refl _) (by simp [World.setCell])
end
/-- Numbers in a new block. -/
def IntsA (w : World) (g b : Nat) (xs : List Int) : Prop := g < b ∧ b < w.heap.size ∧ ∀ k (h : k < xs.length), w.cell? ⟨b, k, none⟩ = some (.int .i64 xs[k])
theorem IntsA.new {X : World} {g : Nat} (xs : List Int) (hg : g < X.heap.size) : IntsA (X.alloc (.cells (xs.map (Value.int .i64)).toArray 3)) g X.heap.size xs := ⟨hg, by simp, new_ints X xs 3⟩
theorem IntsA.new1 {X : World} {g : Nat} {o : Obj} (xs : List Int) (hg : g < X.heap.size) : IntsA ((X.alloc o).alloc (.cells (xs.map (Value.int .i64)).toArray 3)) g (X.heap.size + 1) xs := by
  have h := IntsA.new (X := X.alloc o) (g := g) xs (by simp; omega)
  rw [World.size_alloc] at h
  exact h
theorem IntsA.bel {X Y : World} {g b : Nat} {xs : List Int} (h : IntsA X g b xs) (hb : Below X.heap.size X Y) : IntsA Y g b xs := ⟨h.1, Nat.lt_of_lt_of_le h.2.1 hb.size, fun k hk => (hb.cell (p := ⟨b, k, none⟩) h.2.1).trans (h.2.2 k hk)⟩
theorem IntsA.alloc {X : World} {g b : Nat} {xs : List Int} {o : Obj} (h : IntsA X g b xs) : IntsA (X.alloc o) g b xs := h.bel (below1 X o)
theorem IntsA.drew {X : World} {g b : Nat} {xs : List Int} (h : IntsA X g b xs) : IntsA X.drew g b xs := h.bel ((Below.refl _ _).drew)
theorem IntsA.grown {X Y : World} {g b : Nat} {xs : List Int} (hG : X.grownBy Y (some g)) (h : IntsA X g b xs) : IntsA Y g b xs := by
  refine ⟨h.1, Nat.lt_of_lt_of_le h.2.1 hG.size, fun k hk => ?_⟩
  have h1 := hG.block b h.2.1 (by intro e; injection e with e; have := h.1; omega)
  have h2 := h.2.2 k hk
  simp only [World.cell?] at h2 ⊢
  rw [h1]; exact h2
section
variable {w W : World} {g : Nat} {l : List UInt8} {A A1 A2 : Option Addr} {c q gd c1 c2 n1 n2 : Nat} {tm : Int} {is : List Int} {ls : List (Int × Int × Int)}
/-- A number drawn beside a watch in its cell. -/
def NumRel (w : World) (g : Nat) (l : List UInt8) (A : Option Addr) (c q gd : Nat) (tm : Int) (is : List Int) (ls : List (Int × Int × Int)) (A1 A2 : Option Addr) (c1 c2 n1 n2 : Nat) (W : World) (e : Ending) (w' : World) : Prop :=
  ∃ (x : Int) (q' : Nat), e = .returned (.int .i64 x) ∧ q' ≤ q + 2 ∧ WRel w g l A c q' gd tm is ls A1 A2 c1 c2 n1 n2 w' ∧ W.grownBy w' (some g)
theorem pick_rel (h : WRel w g l A c q gd tm is ls A1 A2 c1 c2 n1 n2 W) (hl : l.length ≤ 1048576) (hq : q ≤ 900000000) (n : Int) (h1 : 1 ≤ n) (h2 : n ≤ 1000000000) :
    Calls Try.prog 38 #[.pointer (some ⟨g, 0, none⟩), .int .i64 n] W (NumRel w g l A c q gd tm is ls A1 A2 c1 c2 n1 n2 W) := by
  refine (pick_any g l A c q n W h.cur hl hq h1 h2).mono ?_
  rintro e w' ⟨x, q', _, _, rfl, hq', hC, hG⟩
  exact ⟨x, q', rfl, hq', h.of hC hG, hG⟩
theorem among_rel (h : WRel w g l A c q gd tm is ls A1 A2 c1 c2 n1 n2 W) (hl : l.length ≤ 1048576) (hq : q ≤ 900000000) (b cap : Nat) (xs : List Int) (hx : xs.length = 3) (hI : IntsA W g b xs) :
    Calls Try.prog 39 #[.pointer (some ⟨g, 0, none⟩), .slice (some ⟨b, 0, none⟩) 3 cap] W (NumRel w g l A c q gd tm is ls A1 A2 c1 c2 n1 n2 W) := by
  refine (among_any g l A c q b 3 cap xs W h.cur hl hq hx (by omega) (by omega) (by have := hI.1; omega) hI.2.2).mono ?_
  rintro e w' ⟨x, q', _, rfl, hq', hC, hG⟩
  exact ⟨x, q', rfl, hq', h.of hC hG, hG⟩
end
def trueD : List Int := [-1, 100000, 100001]
def offD : List Int := [-6, -5, 5, 6]
def fromD : List Int := [-21, -20, 0]
def untilD : List Int := [40, 100200, 100201]
def OddP (tm : Int) (is : List Int) (ls : List (Int × Int × Int)) : Prop := is.length ≤ 5 ∧ ls.length ≤ 41
set_option maxRecDepth 100000 in
set_option maxHeartbeats 16000000 in
theorem l10Odd_any (g : Nat) (l : List UInt8) (A : Option Addr) (c q : Nat) (w : World) (h : Cur w g l A c q) (hl : l.length ≤ 1048576) (hq : q ≤ 500000000) :
    Calls Try.prog 37 #[.pointer (some ⟨g, 0, none⟩)] w (WtPost w g l A c q 500 OddP) := by
  obtain ⟨i0, hi0, hz0, hz1, hz2⟩ := info_parts infoLe
  have hlt := h.lt
  have HC0 := Lib.hid (h.allocated (.cells #[.int .i64 0, .slice none 0 0, .slice none 0 0] 30))
  have HG0 := Lib.hid (World.grownBy_alloc w (.cells #[.int .i64 0, .slice none 0 0, .slice none 0 0] 30) (some g))
  have HR0 := Lib.hid (heap_alloc_new w (.cells #[.int .i64 0, .slice none 0 0, .slice none 0 0] 30))
  clear h
  go_enter Try.func37, Try.ntmps37
  go_wp2_with fail
  refine (l10Make_any g l A c q _ HC0.out hl (by omega)).mono ?_
  rintro e w1 ⟨tm, A1, c1, is, A2, c2, ls, q1, rfl, ho1, ho2, hgd, hq1, hC1, hG1⟩
  have hsz1 := hG1.size
  rw [World.size_alloc] at hsz1
  have hlens := wchB_true hgd
  have HW := Lib.hid (show WRel w g l A c q1 w1.heap.size tm is ls A1 A2 c1 c2 is.length ls.length (w1.alloc (.cells #[.int .i64 tm, .slice A1 is.length c1, .slice A2 ls.length c2] 30)) from
    ⟨hlt, by omega, heap_alloc_new _ _, (Below.heap_alloc _ _ _ (by omega)).trans (block_kept hG1 HR0.out (by omega)), hC1.allocated _, grown_alloc (grown_trans HG0.out hG1) _, rfl, rfl, own_growG (Own.wider ho1 (by simp) (Nat.le_refl _)) (below1 _ _), own_growG (Own.wider ho2 (by simp) (Nat.le_refl _)) (below1 _ _)⟩)
  obtain ⟨gd, hgdd⟩ : ∃ gd, gd = w1.heap.size := ⟨_, rfl⟩
  rw [← hgdd] at HW
  have hnis := hlens.2.1
  have hnls := hlens.2.2.1
  obtain ⟨n1, hn1⟩ : ∃ n1, n1 = is.length := ⟨_, rfl⟩
  obtain ⟨n2, hn2⟩ : ∃ n2, n2 = ls.length := ⟨_, rfl⟩
  go_upto_region 2 with fail
  rw [← hgdd]
  rw [← hn1] at HW hnis ⊢
  rw [← hn2] at HW hnls ⊢
  generalize w1.alloc (.cells #[.int .i64 tm, .slice A1 n1 c1, .slice A2 n2 c2] 30) = W1 at *
  have HL1 := Lib.hid hn1.symm
  have HL2 := Lib.hid hn2.symm
  have hnl2 : n2 ≤ 40 := by omega
  clear hgdd ho1 ho2 hC1 hG1 hsz1 HC0 HG0 HR0 hlens hgd hn1 hn2
  go_wp2_with fail
  refine (pick_any g l A c q1 14 _ HW.out.cur hl (by omega) (by omega) (by omega)).mono ?_
  rintro e w2 ⟨x, q2, hx0, hx1, rfl, hq2, hC2, hG2⟩
  have HW2 := Lib.hid (HW.out.of hC2 hG2)
  clear hC2 hG2 HW
  have hgd2 := lt_blk HW2.out.2.2.1
  have hx : x = 0 ∨ x = 1 ∨ x = 2 ∨ x = 3 ∨ 4 ≤ x := by omega
  rcases hx with rfl | rfl | rfl | rfl | hx
  · have HA := Lib.hid (among_any g l A c q2 w2.heap.size 3 3 trueD _ (HW2.out.cur.allocated (.cells (trueD.map (Value.int .i64)).toArray 3)) hl (by omega) rfl (by omega) (by omega) (by have := HW2.out.cur.lt; omega) (new_ints w2 trueD 3))
    have HX := Lib.hid (HW2.out.alloc (.cells (trueD.map (Value.int .i64)).toArray 3))
    go_wp2_with fail
    refine HA.out.mono ?_
    rintro e w3 ⟨y, q3, hy, rfl, hq3, hC3, hG3⟩
    have HW3 := Lib.hid (HX.out.of hC3 hG3)
    have HW4 := Lib.hid (HW3.out.set0 y)
    obtain ⟨x0, x1, x2⟩ := HW3.out.cells
    have f0 := HW3.out.fz 0
    clear hC3 hG3 HA HX hy
    go_upto_region 15 with fail
    clear x0 x1 x2 f0
    generalize w3.setCell ⟨gd, 0, none⟩ (.int .i64 y) = W4 at *
    obtain ⟨c0, c1', c2'⟩ := HW4.out.cells
    obtain ⟨r0, r1, r2⟩ := HW4.out.rcells
    have fz0 := HW4.out.rfz 0
    have fz1 := HW4.out.rfz 1
    have fz2 := HW4.out.rfz 2
    go_wp2
    exact bodyPost_ret (v := .agg #[.int .i64 y, .slice A1 n1 c1, .slice A2 n2 c2]) (by simp [results, Try.results37, go_sem, r0, r1, r2, fz0, fz1, fz2]) rfl (HW4.out.result (by omega) ⟨by rw [HL1.out]; omega, by rw [HL2.out]; omega⟩)
  · have HI := Lib.hid (HW2.out.allocD (.cells (offD.map (Value.int .i64)).toArray 3))
    have HA := Lib.hid (among_any g l A c q2 w2.heap.size 4 4 offD (w2.alloc (.cells (offD.map (Value.int .i64)).toArray 3)).drew HI.out.cur hl (by omega) rfl (by omega) (by omega) (by have := HW2.out.cur.lt; omega) (new_ints w2 offD 3))
    obtain ⟨gg, hgg, _⟩ := HW2.out.clk (by omega)
    subst hgg
    obtain ⟨c0, c1', c2'⟩ := HW2.out.cells
    have h0i : (0 : Int) < (n1 : Int) := by omega
    have h0n : 0 < n1 := by omega
    go_upto_region 6 with fail
    go_region_law ((go_simp; go_at_call 39; (refine HA.out.mono ?_); rintro e w3 ⟨b, q3, hb, rfl, hq3, hC3, hG3⟩; have HW3 := Lib.hid (HI.out.of hC3 hG3); obtain ⟨x0, x1, x2⟩ := HW3.out.cells; obtain ⟨gg', hgg', hlg, hfg, ⟨v0, hv0⟩, hne, hset⟩ := HW3.out.clk (by omega); (injection hgg' with hgg'; injection hgg' with hgg'; subst hgg'); have HSET := Lib.hid (hset b); have f0 := hfg 0; clear hset hfg))
    all_goals (
      have HW4 := HSET
      clear x0 x1 x2 f0 c0 c1' c2' hv0
      go_upto_region 15 with fail
      generalize w3.setCell ⟨gg, 0, none⟩ (.int .i64 b) = W4 at *
      obtain ⟨c0, c1', c2'⟩ := HW4.out.cells
      obtain ⟨r0, r1, r2⟩ := HW4.out.rcells
      have fz0 := HW4.out.rfz 0
      have fz1 := HW4.out.rfz 1
      have fz2 := HW4.out.rfz 2
      go_wp2
      exact bodyPost_ret (v := .agg #[.int .i64 tm, .slice (some ⟨gg, 0, none⟩) n1 c1, .slice A2 n2 c2]) (by simp [results, Try.results37, go_sem, r0, r1, r2, fz0, fz1, fz2]) rfl (HW4.out.result (by omega) ⟨by rw [List.length_set, HL1.out]; omega, by rw [HL2.out]; omega⟩))
  · obtain ⟨c0, c1', c2'⟩ := HW2.out.cells
    have hg2 := HW2.out.cur.lt
    have zl2 := lt_blk HW2.out.2.2.1
    have HPK := Lib.hid (fun W (hW : WRel w g l A c q2 gd tm is ls A1 A2 c1 c2 n1 n2 W) => pick_rel hW hl (by omega) 6 (by omega) (by omega))
    have HAF := Lib.hid (fun q' W b (hq' : q' ≤ q2 + 2) (hW : WRel w g l A c q' gd tm is ls A1 A2 c1 c2 n1 n2 W) (hI : IntsA W g b fromD) => among_rel hW hl (by omega) b 3 fromD rfl hI)
    have HAU := Lib.hid (fun q' W b (hq' : q' ≤ q2 + 4) (hW : WRel w g l A c q' gd tm is ls A1 A2 c1 c2 n1 n2 W) (hI : IntsA W g b untilD) => among_rel hW hl (by omega) b 3 untilD rfl hI)
    go_upto_region 8 with fail
    go_region_law (first
      | ((go_simp; go_at_call 38; (refine (HPK.out _ ?_).mono ?_); (· (first | exact HW2.out.drew | exact (HW2.out.alloc _).drew | exact ((HW2.out.alloc _).alloc _).drew)); rintro e w3 ⟨y, q3, rfl, hq3, hW3, hG3⟩; have HW3 := Lib.hid hW3; have hg3 := hW3.cur.lt; have zl3 := lt_blk hW3.2.2.1; obtain ⟨x0, x1, x2⟩ := hW3.cells; clear hW3))
      | ((go_simp; go_at_call 39; (refine (HAF.out q3 _ _ hq3 ?_ ?_).mono ?_); (· (first | exact HW3.out | exact HW3.out.alloc _ | exact (HW3.out.alloc _).alloc _)); (· (first | exact IntsA.new fromD hg3 | exact IntsA.new1 fromD hg3 | exact (IntsA.new fromD hg3).alloc | exact IntsA.grown hG3 (IntsA.new fromD hg2).drew | exact IntsA.grown hG3 (IntsA.new fromD hg2).alloc.drew | exact IntsA.grown hG3 (IntsA.new1 fromD hg2).drew | exact (IntsA.grown hG3 (IntsA.new fromD hg2).drew).alloc | exact (IntsA.grown hG3 (IntsA.new fromD hg2).alloc.drew).alloc | exact (IntsA.grown hG3 (IntsA.new1 fromD hg2).drew).alloc)); rintro e w4 ⟨f, q4, rfl, hq4, hW4, hG4⟩; have HW4 := Lib.hid hW4; have hg4 := hW4.cur.lt; have zl4 := lt_blk hW4.2.2.1; obtain ⟨y0, y1, y2⟩ := hW4.cells; clear hW4))
      | ((go_simp; go_at_call 39; (refine (HAU.out q4 _ _ (by omega) ?_ ?_).mono ?_); (· (first | exact HW4.out | exact HW4.out.alloc _)); (· (first | exact IntsA.new untilD hg4 | exact IntsA.grown hG4 (IntsA.new untilD hg3) | exact IntsA.grown hG4 (IntsA.new1 untilD hg3) | exact IntsA.grown hG4 (IntsA.new untilD hg3).alloc | exact IntsA.grown hG4 (IntsA.grown hG3 (IntsA.new untilD hg2).drew) | exact IntsA.grown hG4 (IntsA.grown hG3 (IntsA.new untilD hg2).alloc.drew) | exact IntsA.grown hG4 (IntsA.grown hG3 (IntsA.new1 untilD hg2).drew) | exact IntsA.grown hG4 (IntsA.grown hG3 (IntsA.new untilD hg2).drew).alloc | exact IntsA.grown hG4 (IntsA.grown hG3 (IntsA.new untilD hg2).alloc.drew).alloc | exact IntsA.grown hG4 (IntsA.grown hG3 (IntsA.new1 untilD hg2).drew).alloc)); rintro e w5 ⟨u, q5, rfl, hq5, hW5, hG5⟩; have HW5 := Lib.hid hW5; have zl5 := lt_blk hW5.2.2.1; obtain ⟨z0, z1, z2⟩ := hW5.cells; have hlx : w.heap.size + 1 ≤ (w5.alloc (.cells #[.int .i64 y, .int .i64 f, .int .i64 u] 55)).heap.size := (by have := lt_blk hW5.2.2.2.1; simp; omega); have HROW := Lib.hid (row_below (lee_row hW5.2.2.2.2.2.2.2.2.2 HL2.out) (below1 w5 (.cells #[.int .i64 y, .int .i64 f, .int .i64 u] 55))); have HNEW := Lib.hid (heap_alloc_new w5 (.cells #[.int .i64 y, .int .i64 f, .int .i64 u] 55)); have HN1 := Lib.hid (show (ls ++ [(y, f, u)]).length = n2 + 1 by rw [List.length_append, HL2.out]; rfl); clear hW5))
      | (refine step_app rfl (.tmp 27) (.tmp 37) 28 rfl (w.heap.size + 1) 55 i0 _ 3 24 Try.underlying28 hi0 hz0 hz1 hz2 rfl (by decide) (.slice A2 n2 c2) n2 ((ls.map leCs).flatten) ?_ HROW.out (some ⟨w5.heap.size, 0, none⟩) 1 1 [.int .i64 y, .int .i64 f, .int .i64 u] ?_ rfl (fun _ => ⟨_, rfl, World.news_of_block (cs := #[.int .i64 y, .int .i64 f, .int .i64 u]) (t := 55) (fr := (0, 0)) HNEW.out⟩) (by simp [Value.oneCell']) (by unfold maxLen; omega) (by omega) hlx ?_; (· (first | (simp [Act.eval]; done) | (simp [Act.eval, Act.put]; done))); (· (first | (simp [Act.eval]; done) | (simp [Act.eval, Act.put]; done))); intro v5 w9 hown hgr _; obtain ⟨A5, c5, rfl, ho5⟩ := lee_snoc HL2.out hown; have HBX := Lib.hid (HW5.out.appBox hgr); have HW9 := Lib.hid (HW5.out.app hgr ho5 HN1.out); have f2 := free_blk HBX.out 2; have b2 := cell_blk (i := 2) HBX.out rfl; clear hown hgr ho5))
    all_goals (
      have HPP := Lib.hid (show OddP tm is (ls ++ [(y, f, u)]) from ⟨by rw [HL1.out]; omega, by rw [HN1.out]; omega⟩)
      clear c0 c1' c2' x0 x1 x2 y0 y1 y2 z0 z1 z2 f2 b2
      go_upto_region 15 with fail
      generalize w9.setCell ⟨gd, 2, none⟩ (.slice A5 (n2 + 1) c5) = W9 at *
      obtain ⟨c0, c1', c2'⟩ := HW9.out.cells
      obtain ⟨r0, r1, r2⟩ := HW9.out.rcells
      have fz0 := HW9.out.rfz 0
      have fz1 := HW9.out.rfz 1
      have fz2 := HW9.out.rfz 2
      go_wp2
      exact bodyPost_ret (v := .agg #[.int .i64 tm, .slice A1 n1 c1, .slice A5 (n2 + 1) c5]) (by simp [results, Try.results37, go_sem, r0, r1, r2, fz0, fz1, fz2]) rfl (HW9.out.result (by omega) HPP.out))
  · have HN := Lib.hid (own_newG w2 55 3 (by decide))
    have HX := Lib.hid (HW2.out.alloc (.cells #[] 55))
    have HW3 := Lib.hid (HX.out.set2 (ls' := []) (B2 := some ⟨w2.heap.size, 0, none⟩) (d2 := 0) (m2 := 0) (Own.wider HN.out (by have := lt_blk HW2.out.2.2.2.1; omega) (Nat.le_refl _)) rfl)
    obtain ⟨x0, x1, x2⟩ := HW2.out.cells
    have f2 := HW2.out.fz 2
    have hgl := lt_blk HW2.out.2.2.1
    clear HN HX
    have hcm : (w2.alloc (.cells #[] 55)).setCell ⟨gd, 2, none⟩ (.slice (some ⟨w2.heap.size, 0, none⟩) 0 0) = (w2.setCell ⟨gd, 2, none⟩ (.slice (some ⟨w2.heap.size, 0, none⟩) 0 0)).alloc (.cells #[] 55) := by
      exact World.setCell_alloc_past (w := w2) (.cells #[] 55) gd 2 (.slice (some ⟨w2.heap.size, 0, none⟩) 0 0) hgl
    rw [hcm] at HW3
    clear hcm
    go_upto_region 11 with fail
    clear x0 x1 x2 f2 hgl
    generalize (w2.setCell ⟨gd, 2, none⟩ (.slice (some ⟨w2.heap.size, 0, none⟩) 0 0)).alloc (.cells #[] 55) = W3 at *
    go_wp2
    go_loopw [4] (fun i wr => ∃ (k q3 : Nat) (B2 : Option Addr) (d2 : Nat) (L : List (Int × Int × Int)), k ≤ 41 ∧ i = .int .i64 k ∧ Hid (L.length = k) ∧ Hid (WRel w g l A c q3 gd tm is L A1 B2 c1 d2 n1 k wr) ∧ q3 ≤ q2 + 2 * k) (fun i _ => 41 - (intOf i).toNat)
    case atStart => exact ⟨0, q2, some ⟨_, 0, none⟩, 0, [], by omega, rfl, Lib.hid rfl, HW3, by omega⟩
    case round =>
      clear HW3 HW2
      obtain ⟨k, q3, B2, d2, L, hk, rfl, HLM, HW4, hq3⟩ := hrel
      go_wp2_with fail
      refine (pick_any g l A c q3 3 _ HW4.out.cur hl (by omega) (by omega) (by omega)).mono ?_
      rintro e w5 ⟨y, q5, hy0, hy1, rfl, hq5, hC5, hG5⟩
      have HW5 := Lib.hid (HW4.out.of hC5 hG5)
      clear hC5 hG5 HW4
      by_cases hky : (k : Int) < 39 + y
      · obtain ⟨x0, x1, x2⟩ := HW5.out.cells
        have hgl := lt_blk HW5.out.2.2.1
        have HROL := Lib.hid (lee_row HW5.out.2.2.2.2.2.2.2.2.2 HLM.out)
        have HROW := Lib.hid (row_below HROL.out (below1 w5 (.cells #[.int .i64 0, .int .i64 0, .int .i64 (-1)] 55)))
        have HNEW := Lib.hid (heap_alloc_new w5 (.cells #[.int .i64 0, .int .i64 0, .int .i64 (-1)] 55))
        have hlx : w.heap.size + 1 ≤ (w5.alloc (.cells #[.int .i64 0, .int .i64 0, .int .i64 (-1)] 55)).heap.size := by have := lt_blk HW5.out.2.2.2.1; simp; omega
        have HN1 := Lib.hid (show (L ++ [((0 : Int), (0 : Int), (-1 : Int))]).length = k + 1 by rw [List.length_append, HLM.out]; rfl)
        go_wp2_with (at_builtin; refine wpList_app rfl (.tmp 52) (.tmp 54) 28 rfl (w.heap.size + 1) 55 i0 _ 3 24 Try.underlying28 hi0 hz0 hz1 hz2 rfl (by decide) (.slice B2 k d2) k ((L.map leCs).flatten) rfl HROW.out (some ⟨w5.heap.size, 0, none⟩) 1 1 [.int .i64 0, .int .i64 0, .int .i64 (-1)] rfl rfl (fun _ => ⟨_, rfl, World.news_of_block (cs := #[.int .i64 0, .int .i64 0, .int .i64 (-1)]) (t := 55) (fr := (0, 0)) HNEW.out⟩) (by simp [Value.oneCell']) (by unfold maxLen; omega) (by omega) hlx ?_; intro v5 w9 hown hgr _; obtain ⟨A5, c5, rfl, ho5⟩ := lee_snoc HLM.out hown; have HBX := Lib.hid (HW5.out.appBox hgr); have HW9 := Lib.hid (HW5.out.app hgr ho5 HN1.out); have f2 := free_blk HBX.out 2; have z2 := cell_blk (i := 2) HBX.out rfl; clear hown hgr ho5)
        go_roundw
        case rel => exact ⟨k + 1, q5, A5, c5, L ++ [(0, 0, -1)], by omega, by go_num, HN1, HW9, by omega⟩
        case measure => simp [intOf]; omega
      · have hkd : decide ((k : Int) < 39 + y) = false := by simp; omega
        have HPP := Lib.hid (show OddP tm is L from ⟨by rw [HL1.out]; omega, by rw [HLM.out]; omega⟩)
        go_upto_region 15 with fail
        obtain ⟨c0, c1', c2'⟩ := HW5.out.cells
        obtain ⟨r0, r1, r2⟩ := HW5.out.rcells
        have fz0 := HW5.out.rfz 0
        have fz1 := HW5.out.rfz 1
        have fz2 := HW5.out.rfz 2
        go_wp2
        exact bodyPost_ret (v := .agg #[.int .i64 tm, .slice A1 n1 c1, .slice B2 k d2]) (by simp [results, Try.results37, go_sem, r0, r1, r2, fz0, fz1, fz2]) rfl (HW5.out.result (by omega) HPP.out)
  · have n0 : ¬ x = 0 := by omega
    have n1' : ¬ x = 1 := by omega
    have n2' : ¬ x = 2 := by omega
    have n3 : ¬ x = 3 := by omega
    have y0 : (x == 0) = false := by simp [n0]
    have y1 : (x == 1) = false := by simp [n1']
    have y2 : (x == 2) = false := by simp [n2']
    have y3 : (x == 3) = false := by simp [n3]
    go_upto_region 15 with fail
    obtain ⟨c0, c1', c2'⟩ := HW2.out.cells
    obtain ⟨r0, r1, r2⟩ := HW2.out.rcells
    have fz0 := HW2.out.rfz 0
    have fz1 := HW2.out.rfz 1
    have fz2 := HW2.out.rfz 2
    go_wp2
    exact bodyPost_ret (v := .agg #[.int .i64 tm, .slice A1 n1 c1, .slice A2 n2 c2]) (by simp [results, Try.results37, go_sem, r0, r1, r2, fz0, fz1, fz2]) rfl (HW2.out.result (by omega) ⟨by rw [HL1.out]; omega, by rw [HL2.out]; omega⟩)
end Go.Proofs.Ytpppgihoekfmoaa.Wt
