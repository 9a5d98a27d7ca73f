/-
  Records in memory and the laws' helpers on them: szRec, toRec, eqRec.
-/
import Derived.Test.YtkhndofplebcaaaStr
namespace Go.Proofs.Ytkhndofplebcaaa
open Go.RowKit CM
set_option linter.unusedVariables false

theorem remI_add {a b l : Nat} (h : a ≤ l) : remI b (l - a) = remI (a + b) l := by
  unfold remI
  by_cases h1 : b ≤ l - a
  · rw [if_pos h1, if_pos (by omega)]; omega
  · rw [if_neg h1, if_neg (by omega)]

section
theorem alloc3_a (w : World) (o1 o2 o3 : Obj) : (((w.alloc o1).alloc o2).alloc o3).heap[w.heap.size]? = some o1 :=
  (Below.heap_alloc _ _ _ (by simp; omega)).trans ((Below.heap_alloc _ _ _ (by simp)).trans (heap_alloc_new w o1))
theorem alloc3_b (w : World) (o1 o2 o3 : Obj) : (((w.alloc o1).alloc o2).alloc o3).heap[w.heap.size + 1]? = some o2 := by
  have h := heap_alloc_new (w.alloc o1) o2
  rw [show (w.alloc o1).heap.size = w.heap.size + 1 by simp] at h
  exact (Below.heap_alloc _ _ _ (by simp)).trans h
theorem alloc3_c (w : World) (o1 o2 o3 : Obj) : (((w.alloc o1).alloc o2).alloc o3).heap[w.heap.size + 1 + 1]? = some o3 := by
  have h := heap_alloc_new ((w.alloc o1).alloc o2) o3
  rwa [show ((w.alloc o1).alloc o2).heap.size = w.heap.size + 1 + 1 by simp] at h
theorem set_blk {w : World} {k i : Nat} {cs : Array Value} {t : TypeId} {fz : Nat × Nat} (h : w.heap[k]? = some (.cells cs t fz)) (u : Value) : (w.setCell ⟨k, i, none⟩ u).heap[k]? = some (.cells (cs.setIfInBounds i u) t fz) := by
  simp [World.setCell, Array.getElem?_modify, h]
theorem free_all {w : World} {k : Nat} {cs : Array Value} {t : TypeId} (h : w.heap[k]? = some (.cells cs t (0, 0))) : ∀ o, w.frozen? ⟨k, o, none⟩ = false := fun o => free_blk h o
end

set_option maxRecDepth 100000 in
set_option maxHeartbeats 1000000 in
theorem szRec_any (k t tm ld : Int) (y : Bool) (Ar : Option Addr) (nr cr : Nat) (rs : List ByteArray) (Aw : Option Addr) (nw cw : Nat) (ws : List (ByteArray × ByteArray × Bool)) (l B : Nat) (w : World) (hnr : rs.length = nr) (hr : StrsB w B Ar rs) (hnw : ws.length = nw) (hw : WritesB w B Aw ws) (hB : B ≤ w.heap.size) (hmr : SMax rs) (hmw : WMax ws) (hl : l ≤ 1048576) :
    Calls Try.prog 24 #[.agg #[.int .i64 k, .int .i64 t, .int .i64 tm, .int .i64 ld, .slice Ar nr cr, .slice Aw nw cw, .bool y], .int .i64 (l : Int)] w fun e w' => e = .returned (.int .i64 (remI (szSs rs + szWs ws) l)) ∧ Below w.heap.size w w' := by
  have HC := Lib.hid (fun W (hW : StrsB W B Ar rs) (hB : B ≤ W.heap.size) => szStringS_any Ar nr cr rs l B W hnr hW hB hmr hl)
  have H := Lib.hid hr
  have H' := Lib.hid hw
  by_cases h1 : szSs rs ≤ l
  · have HU := Lib.hid (fun W (hW : WritesB W B Aw ws) (hB : B ≤ W.heap.size) => szWriteS_any Aw nw cw ws (l - szSs rs) B W hnw hW hB hmw (by omega))
    rw [remI_add h1] at HU
    rw [remI_yes h1] at HC
    obtain ⟨q, hq⟩ : ∃ q, q = l - szSs rs := ⟨_, rfl⟩
    rw [show (l : Int) - (szSs rs : Int) = (q : Int) by omega] at HC
    rw [← hq] at HU
    have hq0 : (0 : Int) ≤ (q : Int) := by omega
    have HQ := Lib.hid hq
    clear hr hw hnr hnw hmr hmw hq
    by_cases h2 : szSs rs + szWs ws ≤ l
    · obtain ⟨z, hz⟩ : ∃ z, z = remI (szSs rs + szWs ws) l := ⟨_, rfl⟩
      have hz0 : (0 : Int) ≤ z := by rw [hz, remI_yes h2]; omega
      rw [← hz] at HU ⊢
      clear hz
      go_enter Try.func24, Try.ntmps24
      go_wp2_with fail
      have hb1 := below1 w (.cells #[.int .i64 k, .int .i64 t, .int .i64 tm, .int .i64 ld, .slice Ar nr cr, .slice Aw nw cw, .bool y] 25)
      refine (HC.out _ (H.out.below (hb1.mono hB)) (Nat.le_trans hB hb1.size)).mono ?_
      rintro e w1 ⟨rfl, hb2⟩
      have HB := Lib.hid (hb1.trans (hb2.mono hb1.size))
      obtain ⟨hc2, hf2⟩ := bcell hb2
      have hz1 : w.heap.size < w1.heap.size := by have := hb2.size; simp at this; omega
      clear hb1 hb2
      go_wp2_with fail
      refine (HU.out _ (H'.out.below (HB.out.mono hB)) (Nat.le_trans hB HB.out.size)).mono ?_
      rintro e w2 ⟨rfl, hb3⟩
      go_wp2
      go_ret
      exact ⟨rfl, HB.out.trans (hb3.mono HB.out.size)⟩
    · rw [remI_no (by omega)] at HU ⊢
      go_enter Try.func24, Try.ntmps24
      go_wp2_with fail
      have hb1 := below1 w (.cells #[.int .i64 k, .int .i64 t, .int .i64 tm, .int .i64 ld, .slice Ar nr cr, .slice Aw nw cw, .bool y] 25)
      refine (HC.out _ (H.out.below (hb1.mono hB)) (Nat.le_trans hB hb1.size)).mono ?_
      rintro e w1 ⟨rfl, hb2⟩
      have HB := Lib.hid (hb1.trans (hb2.mono hb1.size))
      obtain ⟨hc2, hf2⟩ := bcell hb2
      have hz1 : w.heap.size < w1.heap.size := by have := hb2.size; simp at this; omega
      clear hb1 hb2
      go_wp2_with fail
      refine (HU.out _ (H'.out.below (HB.out.mono hB)) (Nat.le_trans hB HB.out.size)).mono ?_
      rintro e w2 ⟨rfl, hb3⟩
      go_wp2
      go_ret
      exact ⟨rfl, HB.out.trans (hb3.mono HB.out.size)⟩
  · rw [remI_no (show l < szSs rs + szWs ws by omega)]
    rw [remI_no (by omega)] at HC
    clear hr hw hnr hnw hmr hmw
    go_enter Try.func24, Try.ntmps24
    go_wp2_with fail
    have hb1 := below1 w (.cells #[.int .i64 k, .int .i64 t, .int .i64 tm, .int .i64 ld, .slice Ar nr cr, .slice Aw nw cw, .bool y] 25)
    refine (HC.out _ (H.out.below (hb1.mono hB)) (Nat.le_trans hB hb1.size)).mono ?_
    rintro e w1 ⟨rfl, hb2⟩
    go_wp2
    go_ret
    exact ⟨rfl, hb1.trans (hb2.mono hb1.size)⟩

/-- What toRec hands back: the same record, its slices in new blocks. -/
def ToRPost (k t tm ld : Int) (y : Bool) (nr : Nat) (rs : List ByteArray) (nw : Nat) (ws : List (ByteArray × ByteArray × Bool)) (w : World) (e : Ending) (w' : World) : Prop :=
  ∃ g1 g2 m, e = .returned (.agg #[.int .i64 k, .int .i64 t, .int .i64 tm, .int .i64 ld, .slice (some ⟨g1, 0, none⟩) nr nr, .slice (some ⟨g2, 0, none⟩) nw nw, .bool y]) ∧ OwnS w' w.heap.size m (some ⟨g1, 0, none⟩) nr rs ∧ OwnW w' m w'.heap.size (some ⟨g2, 0, none⟩) nw ws ∧ w.heap.size ≤ m ∧ m ≤ w'.heap.size ∧ Below w.heap.size w w'

set_option maxRecDepth 100000 in
set_option maxHeartbeats 2000000 in
theorem toRec_any (k t tm ld : Int) (y : Bool) (Ar : Option Addr) (nr cr : Nat) (rs : List ByteArray) (Aw : Option Addr) (nw cw : Nat) (ws : List (ByteArray × ByteArray × Bool)) (B : Nat) (w : World) (hnr : rs.length = nr) (hr : StrsB w B Ar rs) (hnw : ws.length = nw) (hw : WritesB w B Aw ws) (hB : B ≤ w.heap.size) (hlr : nr ≤ 1048576) (hlw : nw ≤ 1048576) :
    Calls Try.prog 27 #[.agg #[.int .i64 k, .int .i64 t, .int .i64 tm, .int .i64 ld, .slice Ar nr cr, .slice Aw nw cw, .bool y]] w (ToRPost k t tm ld y nr rs nw ws w) := by
  have HC := Lib.hid (fun W (hW : StrsB W B Ar rs) (hB : B ≤ W.heap.size) => toStringS_any Ar nr cr rs B W hnr hW hB hlr)
  have HU := Lib.hid (fun W (hW : WritesB W B Aw ws) (hB : B ≤ W.heap.size) => toWriteS_any Aw nw cw ws B W hnw hW hB hlw)
  have H := Lib.hid hr
  have H' := Lib.hid hw
  clear hr hw hnr hnw
  go_enter Try.func27, Try.ntmps27
  go_wp2_with fail
  have hb3 := below3 w (.cells #[.int .i64 k, .int .i64 t, .int .i64 tm, .int .i64 ld, .slice Ar nr cr, .slice Aw nw cw, .bool y] 25) (.cells #[.int .i64 0, .int .i64 0, .int .i64 0, .int .i64 0, .slice none 0 0, .slice none 0 0, .bool false] 33) (.cells #[.int .i64 k, .int .i64 t, .int .i64 tm, .int .i64 ld, .slice none 0 0, .slice none 0 0, .bool false] 33)
  refine (HC.out _ (H.out.below (hb3.mono hB)) (Nat.le_trans hB hb3.size)).mono ?_
  rintro e w4 ⟨g1, rfl, hg1, ho1, hb4⟩
  have hz : w.heap.size + 1 + 1 < w4.heap.size := by have := hb4.size; simp at this; omega
  have kb := (hb4.block w.heap.size (by simp; omega)).trans (alloc3_a _ _ _ _)
  have kr := (hb4.block (w.heap.size + 1) (by simp)).trans (alloc3_b _ _ _ _)
  have ko := (hb4.block (w.heap.size + 1 + 1) (by simp)).trans (alloc3_c _ _ _ _)
  have b5 := cell_blk (i := 5) kb rfl
  have o4 := cell_blk (i := 4) ko rfl
  have fo := free_all ko
  have hKB := Lib.hid kb
  have hKR := Lib.hid kr
  have hKO := Lib.hid ko
  clear kb kr ko
  have hge1 : w.heap.size + 3 ≤ g1 := by rw [hg1]; simp
  have HO1 := Lib.hid (ho1.wider (lo' := w.heap.size + 3) (by simp) (Nat.le_refl _))
  have HB4 := Lib.hid (hb3.trans (hb4.mono hb3.size))
  have HGE := Lib.hid hge1
  clear hb3 hb4 ho1 hg1 hge1
  go_wp2_with fail
  have hbs : Below w.heap.size w (w4.setCell ⟨w.heap.size + 1 + 1, 4, none⟩ (.slice (some ⟨g1, 0, none⟩) nr nr)) := HB4.out.setCell (by simp; omega) _
  refine (HU.out _ (H'.out.below (hbs.mono hB)) (Nat.le_trans hB hbs.size)).mono ?_
  rintro e w5 ⟨g2, rfl, hg2, ho2, hb5⟩
  clear b5 o4 fo
  have kb := (hb5.block w.heap.size (by simp [World.setCell]; omega)).trans ((Below.heap_setCell _ _ _ _ (by simp; omega)).trans hKB.out)
  have kr := (hb5.block (w.heap.size + 1) (by simp [World.setCell]; omega)).trans ((Below.heap_setCell _ _ _ _ (by simp)).trans hKR.out)
  have ko := (hb5.block (w.heap.size + 1 + 1) (by simp [World.setCell]; omega)).trans (set_blk hKO.out _)
  have b6 := cell_blk (i := 6) kb rfl
  have o0 := cell_blk (i := 0) ko rfl
  have r0 := cell_blk (i := 0) kr rfl
  have o1 := cell_blk (i := 1) ko rfl
  have r1 := cell_blk (i := 1) kr rfl
  have o2 := cell_blk (i := 2) ko rfl
  have r2 := cell_blk (i := 2) kr rfl
  have o3 := cell_blk (i := 3) ko rfl
  have r3 := cell_blk (i := 3) kr rfl
  have o4 := cell_blk (i := 4) ko rfl
  have r4 := cell_blk (i := 4) kr rfl
  have o5 := cell_blk (i := 5) ko rfl
  have r5 := cell_blk (i := 5) kr rfl
  have o6 := cell_blk (i := 6) ko rfl
  have r6 := cell_blk (i := 6) kr rfl
  have fo := free_all ko
  have fr := free_all kr
  clear kb kr ko
  have hz5 : w4.heap.size ≤ w5.heap.size := by have := hb5.size; simpa [World.setCell] using this
  have hz6 : w.heap.size + 1 + 1 < w5.heap.size := by omega
  have HO1' := Lib.hid ((HO1.out.other (p := ⟨w.heap.size + 1 + 1, 4, none⟩) (by intro x hx; injection hx with hx; subst hx; have := HGE.out; simp; omega) (.slice (some ⟨g1, 0, none⟩) nr nr)).below (by simpa [World.setCell] using hb5))
  have HO2 := Lib.hid ho2
  have HB5 := Lib.hid (hbs.trans (hb5.mono hbs.size))
  have HG2 := Lib.hid hg2
  clear hbs hb5 ho2 hg2
  go_wp2
  have HM : ∀ W, Mid (w.heap.size + 1) (w.heap.size + 3) w5 W → ToRPost k t tm ld y nr rs nw ws w (.returned (.agg #[.int .i64 k, .int .i64 t, .int .i64 tm, .int .i64 ld, .slice (some ⟨g1, 0, none⟩) nr nr, .slice (some ⟨g2, 0, none⟩) nw nw, .bool y])) W := fun W hm => by
    have hm5 : w.heap.size + 3 ≤ w5.heap.size := by omega
    have hs : w5.heap.size ≤ W.heap.size := hm.2.2.2.1
    refine ⟨g1, g2, w4.heap.size, rfl, ?_, ?_, by omega, by omega, HB5.out.trans ((hm.below (by omega)).mono (by omega))⟩
    · exact (HO1'.out.mid hm (.inl (Nat.le_refl _))).wider (by omega) (Nat.le_refl _)
    · have h2 : OwnW w5 w4.heap.size w5.heap.size (some ⟨g2, 0, none⟩) nw ws := by
        have := HO2.out
        simpa [World.setCell] using this
      exact (h2.mid hm (.inl (by omega))).wider (Nat.le_refl _) hs
  refine bodyPost_ret (v := .agg #[.int .i64 k, .int .i64 t, .int .i64 tm, .int .i64 ld, .slice (some ⟨g1, 0, none⟩) nr nr, .slice (some ⟨g2, 0, none⟩) nw nw, .bool y]) (by simp [results, Try.results27, go_sem, *]) rfl (HM _ ?_)
  refine Mid.set ?_ (by simp) _
  refine Mid.set ?_ (by simp) _
  refine Mid.set ?_ (by simp) _
  refine Mid.set ?_ (by simp) _
  refine Mid.set ?_ (by simp) _
  refine Mid.set ?_ (by simp) _
  refine Mid.set ?_ (by simp) _
  refine Mid.set ?_ (by simp) _
  refine Mid.set ?_ (by simp) _
  exact Mid.refl _ _ _
end Go.Proofs.Ytkhndofplebcaaa
