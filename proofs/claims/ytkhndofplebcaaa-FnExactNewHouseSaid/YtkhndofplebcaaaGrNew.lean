/-
  Contracts for NewGroup of the program and of the model.
-/
import Derived.Test.YtkhndofplebcaaaGrChM
import Derived.Test.YtkhndofplebcaaaGrOw
import Derived.Test.YtkhndofplebcaaaGrRep
import Derived.Deep.Cut
namespace Go.Proofs.Ytkhndofplebcaaa.Gr
open Go.RowKit CM
set_option linter.unusedVariables false
set_option linter.unusedSimpArgs false

def rd0 : RD := ⟨true, 0, []⟩
def newGA (many : Int) : List RD × Int × Int × Bool := if many = 3 ∨ many = 5 then (List.replicate many.toNat rd0, 0, -1, true) else noGA
theorem newGA_sz (many : Int) : rpSz (newGA many).1 ≤ 1048576 := by
  unfold newGA
  split
  · rename_i h
    rcases h with rfl | rfl <;> decide
  · unfold noGA rpSz; simp
theorem newGA_no {many : Int} (h3 : ¬ many = 3) (h5 : ¬ many = 5) : newGA many = noGA := by unfold newGA; rw [if_neg (by simp [h3, h5])]
theorem rp0_map (N p : Nat) : (List.replicate N (rp0 p)).map rdat = List.replicate N rd0 := by rw [List.map_replicate]; rfl

theorem isSizeI_any (many : Int) (r : Bool) (hr : r = (decide (many = 3) || decide (many = 5))) (w : World) :
    Calls Try.prog 105 #[.int .i64 many] w fun e w' => e = .returned (.bool r) ∧ w = w' := by
  by_cases h3 : many = 3
  · subst h3
    subst hr
    go_enter Try.func105, Try.ntmps105
    go_wp2
    go_ret
    exact ⟨rfl, rfl⟩
  · by_cases h5 : many = 5
    · subst h5
      subst hr
      go_enter Try.func105, Try.ntmps105
      go_wp2
      go_ret
      exact ⟨rfl, rfl⟩
    · have e3 : (many == 3) = false := by simp; exact h3
      have e5 : (many == 5) = false := by simp; exact h5
      have hf : r = false := by rw [hr]; simp [h3, h5]
      subst hf
      clear hr
      go_enter Try.func105, Try.ntmps105
      go_wp2
      go_ret
      exact ⟨rfl, rfl⟩

theorem bel_d2 {w w1 : World} (h : Below w.drew.heap.size w.drew w1) : Below w.heap.size w w1 := ⟨h.1, h.2, h.3, h.4, fun k hk => h.5 k hk⟩

set_option maxRecDepth 100000 in
set_option maxHeartbeats 4000000 in
theorem implNew3 (w : World) : Calls Try.prog 50 #[.int .i64 3] w (GAPost (List.replicate 3 rd0, 0, -1, true) w) := by
  have HS := Lib.hid (fun W => isSizeI_any 3 true (by decide) W)
  have HB0 := Lib.hid (below1 w (.cells #[.slice none 0 0, .int .i64 0, .int .i64 0] 45))
  have HK0 := Lib.hid (heap_alloc_new w (.cells #[.slice none 0 0, .int .i64 0, .int .i64 0] 45))
  have hkr := heap_alloc_new (w.alloc (.cells #[.slice none 0 0, .int .i64 0, .int .i64 0] 45)) (.cells #[.bool true, .slice none 0 0, .int .i64 0] 91)
  simp only [World.size_alloc] at hkr
  have HR := Lib.hid (repeat_any (w.heap.size + 1) 3 (by omega) ((w.alloc (.cells #[.slice none 0 0, .int .i64 0, .int .i64 0] 45)).alloc (.cells #[.bool true, .slice none 0 0, .int .i64 0] 91)) hkr)
  have HBX := Lib.hid (below2 w (.cells #[.slice none 0 0, .int .i64 0, .int .i64 0] 45) (.cells #[.bool true, .slice none 0 0, .int .i64 0] 91))
  have hka := (Below.heap_alloc (w.alloc (.cells #[.slice none 0 0, .int .i64 0, .int .i64 0] 45)) (.cells #[.bool true, .slice none 0 0, .int .i64 0] 91) w.heap.size (by simp)).trans HK0.out
  have HKA := Lib.hid hka
  have hsz : ((w.alloc (.cells #[.slice none 0 0, .int .i64 0, .int .i64 0] 45)).alloc (.cells #[.bool true, .slice none 0 0, .int .i64 0] 91)).heap.size = w.heap.size + 1 + 1 := by simp
  rw [show ((((3 : Nat)) : Int)) = 3 from rfl] at HR
  rw [GAPost_un]
  clear hkr hka
  go_enter Try.func50, Try.ntmps50
  go_wp2_with fail
  refine (HS.out _).mono ?_
  rintro e w1 ⟨rfl, rfl⟩
  go_wp2_with fail
  (with_reducible refine HR.out.mono ?_)
  rintro e w2 ⟨g, rfl, ho2, hb2⟩
  have hz2 := hb2.size
  have kz := (hb2.block w.heap.size (by rw [hsz]; omega)).trans HKA.out
  have z0 := cell_blk (i := 0) kz rfl
  have z1 := cell_blk (i := 1) kz rfl
  have z2 := cell_blk (i := 2) kz rfl
  have fz := free_all kz
  have zl := lt_blk kz
  have HO2 := Lib.hid ho2
  have HB2 := Lib.hid (HBX.out.trans (hb2.mono HBX.out.size))
  have HSZ := Lib.hid hsz
  clear hb2 ho2 kz hsz
  go_wp2
  exact bodyPost_ret (v := .tuple #[.agg #[.slice (some ⟨g, 0, none⟩) 3 3, .int .i64 0, .int .i64 (-1)], .bool true]) (by simp [results, Try.results50, go_sem, *]) rfl ⟨some ⟨g, 0, none⟩, 3, _, by simp, rp0_map 3 _,
    (HO2.out.keep (keep_putN (g := w.heap.size) (.inl (by rw [HSZ.out]; omega)) 0 [.slice (some ⟨g, 0, none⟩) 3 3, .int .i64 0, .int .i64 (-1)])).wider (by rw [HSZ.out]; omega) (by simp [World.setCell]),
    below_putN HB2.out (Nat.le_refl _) 0 [.slice (some ⟨g, 0, none⟩) 3 3, .int .i64 0, .int .i64 (-1)]⟩

set_option maxRecDepth 100000 in
set_option maxHeartbeats 4000000 in
theorem implNew5 (w : World) : Calls Try.prog 50 #[.int .i64 5] w (GAPost (List.replicate 5 rd0, 0, -1, true) w) := by
  have HS := Lib.hid (fun W => isSizeI_any 5 true (by decide) W)
  have HB0 := Lib.hid (below1 w (.cells #[.slice none 0 0, .int .i64 0, .int .i64 0] 45))
  have HK0 := Lib.hid (heap_alloc_new w (.cells #[.slice none 0 0, .int .i64 0, .int .i64 0] 45))
  have hkr := heap_alloc_new (w.alloc (.cells #[.slice none 0 0, .int .i64 0, .int .i64 0] 45)) (.cells #[.bool true, .slice none 0 0, .int .i64 0] 91)
  simp only [World.size_alloc] at hkr
  have HR := Lib.hid (repeat_any (w.heap.size + 1) 5 (by omega) ((w.alloc (.cells #[.slice none 0 0, .int .i64 0, .int .i64 0] 45)).alloc (.cells #[.bool true, .slice none 0 0, .int .i64 0] 91)) hkr)
  have HBX := Lib.hid (below2 w (.cells #[.slice none 0 0, .int .i64 0, .int .i64 0] 45) (.cells #[.bool true, .slice none 0 0, .int .i64 0] 91))
  have hka := (Below.heap_alloc (w.alloc (.cells #[.slice none 0 0, .int .i64 0, .int .i64 0] 45)) (.cells #[.bool true, .slice none 0 0, .int .i64 0] 91) w.heap.size (by simp)).trans HK0.out
  have HKA := Lib.hid hka
  have hsz : ((w.alloc (.cells #[.slice none 0 0, .int .i64 0, .int .i64 0] 45)).alloc (.cells #[.bool true, .slice none 0 0, .int .i64 0] 91)).heap.size = w.heap.size + 1 + 1 := by simp
  rw [show ((((5 : Nat)) : Int)) = 5 from rfl] at HR
  rw [GAPost_un]
  clear hkr hka
  go_enter Try.func50, Try.ntmps50
  go_wp2_with fail
  refine (HS.out _).mono ?_
  rintro e w1 ⟨rfl, rfl⟩
  go_wp2_with fail
  (with_reducible refine HR.out.mono ?_)
  rintro e w2 ⟨g, rfl, ho2, hb2⟩
  have hz2 := hb2.size
  have kz := (hb2.block w.heap.size (by rw [hsz]; omega)).trans HKA.out
  have z0 := cell_blk (i := 0) kz rfl
  have z1 := cell_blk (i := 1) kz rfl
  have z2 := cell_blk (i := 2) kz rfl
  have fz := free_all kz
  have zl := lt_blk kz
  have HO2 := Lib.hid ho2
  have HB2 := Lib.hid (HBX.out.trans (hb2.mono HBX.out.size))
  have HSZ := Lib.hid hsz
  clear hb2 ho2 kz hsz
  go_wp2
  exact bodyPost_ret (v := .tuple #[.agg #[.slice (some ⟨g, 0, none⟩) 5 5, .int .i64 0, .int .i64 (-1)], .bool true]) (by simp [results, Try.results50, go_sem, *]) rfl ⟨some ⟨g, 0, none⟩, 5, _, by simp, rp0_map 5 _,
    (HO2.out.keep (keep_putN (g := w.heap.size) (.inl (by rw [HSZ.out]; omega)) 0 [.slice (some ⟨g, 0, none⟩) 5 5, .int .i64 0, .int .i64 (-1)])).wider (by rw [HSZ.out]; omega) (by simp [World.setCell]),
    below_putN HB2.out (Nat.le_refl _) 0 [.slice (some ⟨g, 0, none⟩) 5 5, .int .i64 0, .int .i64 (-1)]⟩

set_option maxRecDepth 100000 in
set_option maxHeartbeats 4000000 in
theorem implNewGroup_any (many : Int) (w : World) : Calls Try.prog 50 #[.int .i64 many] w (GAPost (newGA many) w) := by
  by_cases h3 : many = 3
  · subst h3; exact implNew3 w
  by_cases h5 : many = 5
  · subst h5; exact implNew5 w
  · have HS := Lib.hid (fun W => isSizeI_any many false (by simp [h3, h5]) W)
    rw [newGA_no h3 h5]
    have e3 : (many == 3) = false := by simp; exact h3
    have e5 : (many == 5) = false := by simp; exact h5
    have b3 : (many != 3) = true := by simp; exact h3
    have b5 : (many != 5) = true := by simp; exact h5
    have kz := heap_alloc_new w (.cells #[.slice none 0 0, .int .i64 0, .int .i64 0] 45)
    have z0 := cell_blk (i := 0) kz rfl
    have z1 := cell_blk (i := 1) kz rfl
    have z2 := cell_blk (i := 2) kz rfl
    have fz := free_all kz
    have zl := lt_blk kz
    have HB0 := Lib.hid (below1 w (.cells #[.slice none 0 0, .int .i64 0, .int .i64 0] 45))
    clear kz
    go_enter Try.func50, Try.ntmps50
    go_wp2_with fail
    refine (HS.out _).mono ?_
    rintro e w1 ⟨rfl, rfl⟩
    go_wp2
    exact bodyPost_ret (v := .tuple #[.agg #[.slice none 0 0, .int .i64 0, .int .i64 0], .bool false]) (by simp [results, Try.results50, go_sem, *]) rfl (noGA_post HB0.out)

/-- A new replica appended to a group of the call's own. -/
theorem new9_app {w wr w5 : World} {k c1 : Nat} {A1 : Option Addr} {gs : List RH} {v5 : Value} (HB : Below w.heap.size w wr) (hlw : w.heap.size + 1 + 1 < wr.heap.size)
    (HKB : wr.heap[w.heap.size]? = some (.cells #[.slice none 0 0, .int .i64 0, .int .i64 0] 45 (0, 0))) (HKC : wr.heap[w.heap.size + 1 + 1]? = some (.cells #[.slice A1 k c1, .int .i64 0, .int .i64 (-1)] 45 (0, 0)))
    (HO : OwnK KR wr (w.heap.size + 1) wr.heap.size A1 c1 gs) (hk : gs.length = k) (hlo : ∀ x ∈ gs, w.heap.size + 1 + 1 < x.lo)
    (hown5 : w5.ownsRow (w.heap.size + 1) 91 3 v5 (k + 1) ((gs.map rpCs).flatten ++ [.bool true, .slice (some ⟨wr.heap.size, 0, none⟩) 0 0, .int .i64 0])) (hgr5 : ((wr.alloc (.cells #[] 35)).alloc (.cells #[.bool true, .slice (some ⟨wr.heap.size, 0, none⟩) 0 0, .int .i64 0] 91)).grownBy w5 (Value.slice A1 k c1).ownBlock) (hat5 : v5.ownBlock = (Value.slice A1 k c1).ownBlock ∨ v5.ownBlock = some ((wr.alloc (.cells #[] 35)).alloc (.cells #[.bool true, .slice (some ⟨wr.heap.size, 0, none⟩) 0 0, .int .i64 0] 91)).heap.size) :
    ∃ A5 c5, v5 = .slice A5 (k + 1) c5 ∧ w5.cell? ⟨w.heap.size + 1 + 1, 0, none⟩ = some (.slice A1 k c1) ∧ (∀ i, w5.frozen? ⟨w.heap.size + 1 + 1, i, none⟩ = false) ∧ w.heap.size + 1 + 1 < w5.heap.size ∧
      (∃ x : RH, rdat x = rd0 ∧ OwnK KR (w5.setCell ⟨w.heap.size + 1 + 1, 0, none⟩ (.slice A5 (k + 1) c5)) (w.heap.size + 1) (w5.setCell ⟨w.heap.size + 1 + 1, 0, none⟩ (.slice A5 (k + 1) c5)).heap.size A5 c5 (gs ++ [x]) ∧ (∀ y ∈ gs ++ [x], w.heap.size + 1 + 1 < y.lo) ∧ Below w.heap.size w (w5.setCell ⟨w.heap.size + 1 + 1, 0, none⟩ (.slice A5 (k + 1) c5)) ∧
      (w5.setCell ⟨w.heap.size + 1 + 1, 0, none⟩ (.slice A5 (k + 1) c5)).heap[w.heap.size]? = some (.cells #[.slice none 0 0, .int .i64 0, .int .i64 0] 45 (0, 0)) ∧ (w5.setCell ⟨w.heap.size + 1 + 1, 0, none⟩ (.slice A5 (k + 1) c5)).heap[w.heap.size + 1 + 1]? = some (.cells #[.slice A5 (k + 1) c5, .int .i64 0, .int .i64 (-1)] 45 (0, 0))) := by
  have ha := below2 wr (.cells #[] 35) (.cells #[.bool true, .slice (some ⟨wr.heap.size, 0, none⟩) 0 0, .int .i64 0] 91)
  have hb := below1 (wr.alloc (.cells #[] 35)) (.cells #[.bool true, .slice (some ⟨wr.heap.size, 0, none⟩) 0 0, .int .i64 0] 91)
  have hz1 : (wr.alloc (.cells #[] 35)).heap.size = wr.heap.size + 1 := by simp
  have hz : ((wr.alloc (.cells #[] 35)).alloc (.cells #[.bool true, .slice (some ⟨wr.heap.size, 0, none⟩) 0 0, .int .i64 0] 91)).heap.size = wr.heap.size + 1 + 1 := by simp
  have hx : KR.ow ((wr.alloc (.cells #[] 35)).alloc (.cells #[.bool true, .slice (some ⟨wr.heap.size, 0, none⟩) 0 0, .int .i64 0] 91)) ⟨true, 0, some ⟨wr.heap.size, 0, none⟩, 0, [], wr.heap.size, wr.heap.size + 1⟩ := by
    have h := (ownK_empty KE wr).since hb
    rw [show (wr.alloc (.cells #[] KE.t)).heap.size = wr.heap.size + 1 from hz1] at h
    exact ⟨Nat.le_succ _, h⟩
  have hO2 := HO.since ha
  have hkb := (ha.block w.heap.size (by omega)).trans HKB
  have hkc := (ha.block (w.heap.size + 1 + 1) (by omega)).trans HKC
  obtain ⟨A5, c5, rfl, ho5⟩ := kd_app (K := KR) (x := ⟨true, 0, some ⟨wr.heap.size, 0, none⟩, 0, [], wr.heap.size, wr.heap.size + 1⟩) hO2 (by omega) (by omega) hx (Nat.le_refl _) (by simp only [KR]; omega) hk (by decide) hown5 hgr5 hat5
  have hkb5 := (hgr5.block _ (lt_blk hkb) (kd_ne hO2 hkb (by decide))).trans hkb
  have hkc5 := (hgr5.block _ (lt_blk hkc) (kd_ne hO2 hkc (by decide))).trans hkc
  have hF : ∀ y ∈ gs ++ [(⟨true, 0, some ⟨wr.heap.size, 0, none⟩, 0, [], wr.heap.size, wr.heap.size + 1⟩ : RH)], w.heap.size + 1 + 1 < y.lo := fun y hy => by
    rcases List.mem_append.1 hy with hy | hy
    · exact hlo y hy
    · rw [List.mem_singleton.1 hy]; exact hlw
  refine ⟨A5, c5, rfl, cell_blk (i := 0) hkc5 rfl, fun i => free_blk hkc5 i, lt_blk hkc5, ⟨true, 0, some ⟨wr.heap.size, 0, none⟩, 0, [], wr.heap.size, wr.heap.size + 1⟩, rfl,
    (ho5.storeT (p := ⟨w.heap.size + 1 + 1, 0, none⟩) hkc5 (by decide) hF _).wider (Nat.le_refl _) (by simp [World.setCell]), hF, ?_, ?_, set_blk hkc5 (i := 0) _⟩
  · exact (kd_below2 hO2 (HB.trans (ha.mono HB.size)) (show w.heap.size ≤ w.heap.size + 1 by omega) (by omega) hgr5).setCell (p := ⟨w.heap.size + 1 + 1, 0, none⟩) (show w.heap.size ≤ w.heap.size + 1 + 1 by omega) _
  · exact (Below.heap_setCell (w := w5) ⟨w.heap.size + 1 + 1, 0, none⟩ _ w.heap.size (by simp; omega)).trans hkb5

set_option maxRecDepth 100000 in
set_option maxHeartbeats 8000000 in
theorem specNew3 (w : World) : Calls Try.prog 49 #[.int .i64 3] w (GAPost (List.replicate 3 rd0, 0, -1, true) w) := by
  obtain ⟨iR, hiR, hzR0, hzR1, hzR2⟩ := info_parts infoRep
  have hs1 : (w.alloc (.cells #[.slice none 0 0, .int .i64 0, .int .i64 0] 45)).heap.size = w.heap.size + 1 := by simp
  have hb0 := below3 w (.cells #[.slice none 0 0, .int .i64 0, .int .i64 0] 45) (.cells #[] 91) (.cells #[.slice (some ⟨w.heap.size + 1, 0, none⟩) 0 0, .int .i64 0, .int .i64 (-1)] 45)
  have hE := ownK_empty KR (w.alloc (.cells #[.slice none 0 0, .int .i64 0, .int .i64 0] 45))
  rw [hs1] at hE
  have HE0 := Lib.hid ((hE.keep (keep_alloc (.cells #[.slice (some ⟨w.heap.size + 1, 0, none⟩) 0 0, .int .i64 0, .int .i64 (-1)] 45))).wider (Nat.le_refl _) (by simp) : OwnK KR (((w.alloc (.cells #[.slice none 0 0, .int .i64 0, .int .i64 0] 45)).alloc (.cells #[] 91)).alloc (.cells #[.slice (some ⟨w.heap.size + 1, 0, none⟩) 0 0, .int .i64 0, .int .i64 (-1)] 45)) (w.heap.size + 1) (((w.alloc (.cells #[.slice none 0 0, .int .i64 0, .int .i64 0] 45)).alloc (.cells #[] 91)).alloc (.cells #[.slice (some ⟨w.heap.size + 1, 0, none⟩) 0 0, .int .i64 0, .int .i64 (-1)] 45)).heap.size (some ⟨w.heap.size + 1, 0, none⟩) 0 [])
  have HB0 := Lib.hid hb0
  have HKB := Lib.hid (alloc3_a w (.cells #[.slice none 0 0, .int .i64 0, .int .i64 0] 45) (.cells #[] 91) (.cells #[.slice (some ⟨w.heap.size + 1, 0, none⟩) 0 0, .int .i64 0, .int .i64 (-1)] 45))
  have HKC := Lib.hid (alloc3_c w (.cells #[.slice none 0 0, .int .i64 0, .int .i64 0] 45) (.cells #[] 91) (.cells #[.slice (some ⟨w.heap.size + 1, 0, none⟩) 0 0, .int .i64 0, .int .i64 (-1)] 45))
  rw [GAPost_un]
  clear hb0 hE hs1
  go_enter Try.func49, Try.ntmps49
  go_wp2
  go_loopw [5] (fun j wr => ∃ (gs : List RH) (A1 : Option Addr) (k c1 : Nat), Hid (gs.map rdat = List.replicate k rd0) ∧ k ≤ 3 ∧ j = .int .i64 k ∧ Hid (OwnK KR wr (w.heap.size + 1) wr.heap.size A1 c1 gs) ∧ Hid (∀ x ∈ gs, w.heap.size + 1 + 1 < x.lo) ∧ Hid (Below w.heap.size w wr) ∧ Hid (wr.heap[w.heap.size]? = some (.cells #[.slice none 0 0, .int .i64 0, .int .i64 0] 45 (0, 0))) ∧ Hid (wr.heap[w.heap.size + 1 + 1]? = some (.cells #[.slice A1 k c1, .int .i64 0, .int .i64 (-1)] 45 (0, 0)))) (fun j _ => 3 - (intOf j).toNat)
  case atStart => exact ⟨[], some ⟨w.heap.size + 1, 0, none⟩, 0, 0, rfl, by omega, rfl, HE0, by intro x hx; simp at hx, HB0, HKB, HKC⟩
  case round =>
    clear HE0 HB0 HKB HKC
    obtain ⟨gs, A1, k, c1, HG, hkN, rfl, HO, HLO, HB, HKB, HKC⟩ := hrel
    have HGL := Lib.hid (show gs.length = k by have h := congrArg List.length HG.out; simpa using h)
    have z0 := cell_blk (i := 0) HKC.out rfl
    have z1 := cell_blk (i := 1) HKC.out rfl
    have z2 := cell_blk (i := 2) HKC.out rfl
    have hlb := lt_blk HKB.out
    have hlc := lt_blk HKC.out
    by_cases hlt : k < 3
    · have hj1 : (k : Int) < 3 := by omega
      have hj0 : (0 : Int) ≤ (k : Int) := by omega
      have hkA := alloc2_b wr (.cells #[] 35) (.cells #[.bool true, .slice (some ⟨wr.heap.size, 0, none⟩) 0 0, .int .i64 0] 91)
      have hbA := below2 wr (.cells #[] 35) (.cells #[.bool true, .slice (some ⟨wr.heap.size, 0, none⟩) 0 0, .int .i64 0] 91)
      have HNEW := Lib.hid hkA
      have HROW := Lib.hid (show ((wr.alloc (.cells #[] 35)).alloc (.cells #[.bool true, .slice (some ⟨wr.heap.size, 0, none⟩) 0 0, .int .i64 0] 91)).ownsRow (w.heap.size + 1) 91 3 (.slice A1 k c1) k ((gs.map rpCs).flatten) from by
        have h7 := Own.toRow (HO.out.since hbA).1 (cs_len KR gs) (by decide)
        rw [List.length_map, HGL.out] at h7
        exact h7)
      have HWS := Lib.hid (show w.heap.size + 1 ≤ ((wr.alloc (.cells #[] 35)).alloc (.cells #[.bool true, .slice (some ⟨wr.heap.size, 0, none⟩) 0 0, .int .i64 0] 91)).heap.size by simp; omega)
      clear hkA hbA
      go_wp2_with (at_builtin; refine wpList_app rfl (.tmp 21) (.tmp 24) 43 rfl (w.heap.size + 1) 91 iR _ 3 40 Try.underlying43 hiR hzR0 hzR1 hzR2 rfl (by decide) (.slice A1 k c1) k ((gs.map rpCs).flatten) rfl HROW.out (some ⟨wr.heap.size + 1, 0, none⟩) 1 1 [.bool true, .slice (some ⟨wr.heap.size, 0, none⟩) 0 0, .int .i64 0] rfl rfl (fun _ => ⟨_, rfl, World.news_of_block (cs := #[.bool true, .slice (some ⟨wr.heap.size, 0, none⟩) 0 0, .int .i64 0]) (t := 91) (fr := (0, 0)) HNEW.out⟩) (by simp [Value.oneCell']) (by unfold maxLen; omega) (by omega) HWS.out ?_; intro v5 w5 hown5 hgr5 hat5; obtain ⟨A5, c5, rfl, t0, ft, hl5, hrel5⟩ := new9_app HB.out hlc HKB.out HKC.out HO.out HGL.out HLO.out hown5 hgr5 hat5; have HREL := Lib.hid hrel5; clear hown5 hgr5 hat5 hrel5 z0 z1 z2)
      go_roundw
      case rel =>
        obtain ⟨x, hx, h1, h2, h3, h4, h5⟩ := HREL.out
        refine ⟨gs ++ [x], A5, k + 1, c5, ?_, by omega, by go_num, h1, h2, h3, h4, h5⟩
        show _ = _
        rw [List.map_append, HG.out, List.replicate_succ', List.map_cons, List.map_nil, hx]
      case measure => simp [intOf]; omega
    · have hkn : k = 3 := by omega
      subst hkn
      have b0 := cell_blk (i := 0) HKB.out rfl
      have b1 := cell_blk (i := 1) HKB.out rfl
      have b2 := cell_blk (i := 2) HKB.out rfl
      have fb := free_all HKB.out
      go_wp2
      exact bodyPost_ret (v := .tuple #[.agg #[.slice A1 3 c1, .int .i64 0, .int .i64 (-1)], .bool true]) (by simp [results, Try.results49, go_sem, *]) rfl ⟨A1, c1, gs, by simp, HG.out,
        (HO.out.keep (keep_putN (g := w.heap.size) (.inl (Nat.lt_succ_self _)) 0 [.slice A1 3 c1, .int .i64 0, .int .i64 (-1)])).wider (Nat.le_succ _) (by simp [World.setCell]),
        below_putN HB.out (Nat.le_refl _) 0 [.slice A1 3 c1, .int .i64 0, .int .i64 (-1)]⟩

set_option maxRecDepth 100000 in
set_option maxHeartbeats 8000000 in
theorem specNew5 (w : World) : Calls Try.prog 49 #[.int .i64 5] w (GAPost (List.replicate 5 rd0, 0, -1, true) w) := by
  obtain ⟨iR, hiR, hzR0, hzR1, hzR2⟩ := info_parts infoRep
  have hs1 : (w.alloc (.cells #[.slice none 0 0, .int .i64 0, .int .i64 0] 45)).heap.size = w.heap.size + 1 := by simp
  have hb0 := below3 w (.cells #[.slice none 0 0, .int .i64 0, .int .i64 0] 45) (.cells #[] 91) (.cells #[.slice (some ⟨w.heap.size + 1, 0, none⟩) 0 0, .int .i64 0, .int .i64 (-1)] 45)
  have hE := ownK_empty KR (w.alloc (.cells #[.slice none 0 0, .int .i64 0, .int .i64 0] 45))
  rw [hs1] at hE
  have HE0 := Lib.hid ((hE.keep (keep_alloc (.cells #[.slice (some ⟨w.heap.size + 1, 0, none⟩) 0 0, .int .i64 0, .int .i64 (-1)] 45))).wider (Nat.le_refl _) (by simp) : OwnK KR (((w.alloc (.cells #[.slice none 0 0, .int .i64 0, .int .i64 0] 45)).alloc (.cells #[] 91)).alloc (.cells #[.slice (some ⟨w.heap.size + 1, 0, none⟩) 0 0, .int .i64 0, .int .i64 (-1)] 45)) (w.heap.size + 1) (((w.alloc (.cells #[.slice none 0 0, .int .i64 0, .int .i64 0] 45)).alloc (.cells #[] 91)).alloc (.cells #[.slice (some ⟨w.heap.size + 1, 0, none⟩) 0 0, .int .i64 0, .int .i64 (-1)] 45)).heap.size (some ⟨w.heap.size + 1, 0, none⟩) 0 [])
  have HB0 := Lib.hid hb0
  have HKB := Lib.hid (alloc3_a w (.cells #[.slice none 0 0, .int .i64 0, .int .i64 0] 45) (.cells #[] 91) (.cells #[.slice (some ⟨w.heap.size + 1, 0, none⟩) 0 0, .int .i64 0, .int .i64 (-1)] 45))
  have HKC := Lib.hid (alloc3_c w (.cells #[.slice none 0 0, .int .i64 0, .int .i64 0] 45) (.cells #[] 91) (.cells #[.slice (some ⟨w.heap.size + 1, 0, none⟩) 0 0, .int .i64 0, .int .i64 (-1)] 45))
  rw [GAPost_un]
  clear hb0 hE hs1
  go_enter Try.func49, Try.ntmps49
  go_wp2
  go_loopw [5] (fun j wr => ∃ (gs : List RH) (A1 : Option Addr) (k c1 : Nat), Hid (gs.map rdat = List.replicate k rd0) ∧ k ≤ 5 ∧ j = .int .i64 k ∧ Hid (OwnK KR wr (w.heap.size + 1) wr.heap.size A1 c1 gs) ∧ Hid (∀ x ∈ gs, w.heap.size + 1 + 1 < x.lo) ∧ Hid (Below w.heap.size w wr) ∧ Hid (wr.heap[w.heap.size]? = some (.cells #[.slice none 0 0, .int .i64 0, .int .i64 0] 45 (0, 0))) ∧ Hid (wr.heap[w.heap.size + 1 + 1]? = some (.cells #[.slice A1 k c1, .int .i64 0, .int .i64 (-1)] 45 (0, 0)))) (fun j _ => 5 - (intOf j).toNat)
  case atStart => exact ⟨[], some ⟨w.heap.size + 1, 0, none⟩, 0, 0, rfl, by omega, rfl, HE0, by intro x hx; simp at hx, HB0, HKB, HKC⟩
  case round =>
    clear HE0 HB0 HKB HKC
    obtain ⟨gs, A1, k, c1, HG, hkN, rfl, HO, HLO, HB, HKB, HKC⟩ := hrel
    have HGL := Lib.hid (show gs.length = k by have h := congrArg List.length HG.out; simpa using h)
    have z0 := cell_blk (i := 0) HKC.out rfl
    have z1 := cell_blk (i := 1) HKC.out rfl
    have z2 := cell_blk (i := 2) HKC.out rfl
    have hlb := lt_blk HKB.out
    have hlc := lt_blk HKC.out
    by_cases hlt : k < 5
    · have hj1 : (k : Int) < 5 := by omega
      have hj0 : (0 : Int) ≤ (k : Int) := by omega
      have hkA := alloc2_b wr (.cells #[] 35) (.cells #[.bool true, .slice (some ⟨wr.heap.size, 0, none⟩) 0 0, .int .i64 0] 91)
      have hbA := below2 wr (.cells #[] 35) (.cells #[.bool true, .slice (some ⟨wr.heap.size, 0, none⟩) 0 0, .int .i64 0] 91)
      have HNEW := Lib.hid hkA
      have HROW := Lib.hid (show ((wr.alloc (.cells #[] 35)).alloc (.cells #[.bool true, .slice (some ⟨wr.heap.size, 0, none⟩) 0 0, .int .i64 0] 91)).ownsRow (w.heap.size + 1) 91 3 (.slice A1 k c1) k ((gs.map rpCs).flatten) from by
        have h7 := Own.toRow (HO.out.since hbA).1 (cs_len KR gs) (by decide)
        rw [List.length_map, HGL.out] at h7
        exact h7)
      have HWS := Lib.hid (show w.heap.size + 1 ≤ ((wr.alloc (.cells #[] 35)).alloc (.cells #[.bool true, .slice (some ⟨wr.heap.size, 0, none⟩) 0 0, .int .i64 0] 91)).heap.size by simp; omega)
      clear hkA hbA
      go_wp2_with (at_builtin; refine wpList_app rfl (.tmp 21) (.tmp 24) 43 rfl (w.heap.size + 1) 91 iR _ 3 40 Try.underlying43 hiR hzR0 hzR1 hzR2 rfl (by decide) (.slice A1 k c1) k ((gs.map rpCs).flatten) rfl HROW.out (some ⟨wr.heap.size + 1, 0, none⟩) 1 1 [.bool true, .slice (some ⟨wr.heap.size, 0, none⟩) 0 0, .int .i64 0] rfl rfl (fun _ => ⟨_, rfl, World.news_of_block (cs := #[.bool true, .slice (some ⟨wr.heap.size, 0, none⟩) 0 0, .int .i64 0]) (t := 91) (fr := (0, 0)) HNEW.out⟩) (by simp [Value.oneCell']) (by unfold maxLen; omega) (by omega) HWS.out ?_; intro v5 w5 hown5 hgr5 hat5; obtain ⟨A5, c5, rfl, t0, ft, hl5, hrel5⟩ := new9_app HB.out hlc HKB.out HKC.out HO.out HGL.out HLO.out hown5 hgr5 hat5; have HREL := Lib.hid hrel5; clear hown5 hgr5 hat5 hrel5 z0 z1 z2)
      go_roundw
      case rel =>
        obtain ⟨x, hx, h1, h2, h3, h4, h5⟩ := HREL.out
        refine ⟨gs ++ [x], A5, k + 1, c5, ?_, by omega, by go_num, h1, h2, h3, h4, h5⟩
        show _ = _
        rw [List.map_append, HG.out, List.replicate_succ', List.map_cons, List.map_nil, hx]
      case measure => simp [intOf]; omega
    · have hkn : k = 5 := by omega
      subst hkn
      have b0 := cell_blk (i := 0) HKB.out rfl
      have b1 := cell_blk (i := 1) HKB.out rfl
      have b2 := cell_blk (i := 2) HKB.out rfl
      have fb := free_all HKB.out
      go_wp2
      exact bodyPost_ret (v := .tuple #[.agg #[.slice A1 5 c1, .int .i64 0, .int .i64 (-1)], .bool true]) (by simp [results, Try.results49, go_sem, *]) rfl ⟨A1, c1, gs, by simp, HG.out,
        (HO.out.keep (keep_putN (g := w.heap.size) (.inl (Nat.lt_succ_self _)) 0 [.slice A1 5 c1, .int .i64 0, .int .i64 (-1)])).wider (Nat.le_succ _) (by simp [World.setCell]),
        below_putN HB.out (Nat.le_refl _) 0 [.slice A1 5 c1, .int .i64 0, .int .i64 (-1)]⟩

set_option maxRecDepth 100000 in
set_option maxHeartbeats 4000000 in
theorem specNewGroup_any (many : Int) (w : World) : Calls Try.prog 49 #[.int .i64 many] w (GAPost (newGA many) w) := by
  by_cases h3 : many = 3
  · subst h3; exact specNew3 w
  by_cases h5 : many = 5
  · subst h5; exact specNew5 w
  · have HX := Lib.hid True.intro
    rw [newGA_no h3 h5]
    have e3 : (many == 3) = false := by simp; exact h3
    have e5 : (many == 5) = false := by simp; exact h5
    have b3 : (many != 3) = true := by simp; exact h3
    have b5 : (many != 5) = true := by simp; exact h5
    have kz := heap_alloc_new w (.cells #[.slice none 0 0, .int .i64 0, .int .i64 0] 45)
    have z0 := cell_blk (i := 0) kz rfl
    have z1 := cell_blk (i := 1) kz rfl
    have z2 := cell_blk (i := 2) kz rfl
    have fz := free_all kz
    have zl := lt_blk kz
    have HB0 := Lib.hid (below1 w (.cells #[.slice none 0 0, .int .i64 0, .int .i64 0] 45))
    clear kz
    go_enter Try.func49, Try.ntmps49
    go_wp2
    exact bodyPost_ret (v := .tuple #[.agg #[.slice none 0 0, .int .i64 0, .int .i64 0], .bool false]) (by simp [results, Try.results49, go_sem, *]) rfl (noGA_post HB0.out)
end Go.Proofs.Ytkhndofplebcaaa.Gr
