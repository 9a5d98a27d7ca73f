/-
  Copies of clocks, leases and watches: slices.Clone, copyWatch of the program, l10Own of the model.
-/
import Derived.Test.YtpppgihoekfmoaaWtTo
import Derived.Test.YtpppgihoekfmoaaCopy
import Derived.Laws.Cover3
import Derived.Deep.RegionHeld3
import Derived.Deep.DeepCutAuto
namespace Go.Proofs.Ytpppgihoekfmoaa.Wt
open Go.RowKit
set_option linter.unusedVariables false
set_option linter.unusedSimpArgs false

def CopyCk (is : List Int) (n : Nat) (w : World) (e : Ending) (w' : World) : Prop :=
  ∃ A c, e = .returned (.slice A n c) ∧ OwnCk w' w.heap.size w'.heap.size A c is ∧ Below w.heap.size w w'
def CopyLe (ls : List (Int × Int × Int)) (n : Nat) (w : World) (e : Ending) (w' : World) : Prop :=
  ∃ A c, e = .returned (.slice A n c) ∧ OwnLe w' w.heap.size w'.heap.size A c ls ∧ Below w.heap.size w w'
theorem cks_src {w : World} {B n : Nat} {A : Option Addr} {is : List Int} (h : CksB w B A is) (hn : is.length = n) (h0 : 0 < n) : ∃ ad, A = some ad ∧ ∀ j u, ((is.map ckCs).flatten)[j]? = some u → w.cell? (ad.add j) = some u := by
  obtain ⟨b, off, hA, _⟩ := h.get (by omega)
  subst hA
  exact ⟨_, rfl, row_src h (ckCs_len _) (by decide)⟩
theorem les_src {w : World} {B n : Nat} {A : Option Addr} {ls : List (Int × Int × Int)} (h : LesB w B A ls) (hn : ls.length = n) (h0 : 0 < n) : ∃ ad, A = some ad ∧ ∀ j u, ((ls.map leCs).flatten)[j]? = some u → w.cell? (ad.add j) = some u := by
  obtain ⟨b, off, hA, _⟩ := h.get (by omega)
  subst hA
  exact ⟨_, rfl, row_src h (leCs_len _) (by decide)⟩
theorem ck_flat {is : List Int} {n : Nat} (hn : is.length = n) : ((is.map ckCs).flatten).length = n * 1 := by rw [flat_len (ckCs_len _), List.length_map, hn]
theorem le_flat {ls : List (Int × Int × Int)} {n : Nat} (hn : ls.length = n) : ((ls.map leCs).flatten).length = n * 3 := by rw [flat_len (leCs_len _), List.length_map, hn]

set_option maxHeartbeats 1000000 in
theorem cloneCk_any (A : Option Addr) (n c : Nat) (is : List Int) (B : Nat) (w : World) (hn : is.length = n) (h : CksB w B A is) (hB : B ≤ w.heap.size) (hl : n ≤ 2000000) :
    Calls Try.prog 46 #[.slice A n c] w (CopyCk is n w) := by
  obtain ⟨i0, hi, hz0, hz1, hz2⟩ := info_parts infoCk
  have heq := fun (ad : Option Addr) (W : World) => show (binOp .eql 24 (.slice ad n c) (.slice none 0 0)).run Try.prog W = .ok (.bool ad.isNone) W by
    simp only [binOp]
    simp [run_equal_slice_nil W 24 27 ad n c Try.underlying24]
  cases A with
  | none =>
    have h0 : is = [] := by
      rcases h with h | ⟨b, off, hA, _⟩
      · simpa using h
      · cases hA
    subst h0
    simp only [List.length_nil] at hn
    subst hn
    have heq := heq none
    simp only [Option.isNone_none] at heq
    have hc : (Value.slice none 0 c) = .slice none 0 c := rfl
    go_enter Try.func46, Try.ntmps46
    go_wp2
    go_ret
    exact ⟨_, _, rfl, .inl ⟨rfl, rfl, rfl⟩, Below.refl _ _⟩
  | some ad =>
    have heq := heq (some ad)
    simp only [Option.isNone_some] at heq
    have HO := Lib.hid (own_empty w w.heap.size 27 1 (Nat.le_refl _))
    have HSRC := Lib.hid (cks_src (h.below ((below1 w (.cells #[] 27)).mono hB)) hn)
    have HLEN := Lib.hid (ck_flat hn)
    have HONE := Lib.hid (ckCs_one is)
    have HN := Lib.hid hn
    clear h hn
    go_enter Try.func46, Try.ntmps46
    go_wp2_with (at_builtin; refine wpList_app rfl (.tmp 5) (.tmp 6) 24 rfl w.heap.size 27 i0 _ 1 8 Try.underlying24 hi hz0 hz1 hz2 rfl (by decide) (.slice (some ⟨w.heap.size, 0, none⟩) 0 0) 0 [] rfl HO.out (some ad) n c ((is.map ckCs).flatten) rfl HLEN.out HSRC.out HONE.out (by unfold maxLen; omega) (by omega) (by simp) ?_; intro v1 w1 hown1 hgr1 _; have hx := Own.ofRow (w := w1) (lo := w.heap.size) (t := 27) (sz := 1) (n := n) (v := v1) (L := is.map ckCs) (hi := w1.heap.size) (by simpa using hown1) (ckCs_len _) (by decide) (fun k hk => (hown1.lt k hk).2); obtain ⟨A1, c1, rfl, _, ho⟩ := hx; rw [List.length_map, HN.out])
    have HB := Lib.hid ((below1 w (.cells #[] 27)).grown hgr1 (by simp) (fun k hk => by simp [Value.ownBlock] at hk; omega))
    have HOW := Lib.hid ho
    clear hown1 hgr1 ho
    go_ret
    exact ⟨_, _, rfl, HOW.out, HB.out⟩

set_option maxHeartbeats 1000000 in
theorem cloneLe_any (A : Option Addr) (n c : Nat) (ls : List (Int × Int × Int)) (B : Nat) (w : World) (hn : ls.length = n) (h : LesB w B A ls) (hB : B ≤ w.heap.size) (hl : n ≤ 2000000) :
    Calls Try.prog 47 #[.slice A n c] w (CopyLe ls n w) := by
  obtain ⟨i0, hi, hz0, hz1, hz2⟩ := info_parts infoLe
  have heq := fun (ad : Option Addr) (W : World) => show (binOp .eql 28 (.slice ad n c) (.slice none 0 0)).run Try.prog W = .ok (.bool ad.isNone) W by
    simp only [binOp]
    simp [run_equal_slice_nil W 28 55 ad n c Try.underlying28]
  cases A with
  | none =>
    have h0 : ls = [] := by
      rcases h with h | ⟨b, off, hA, _⟩
      · simpa using h
      · cases hA
    subst h0
    simp only [List.length_nil] at hn
    subst hn
    have heq := heq none
    simp only [Option.isNone_none] at heq
    have hc : (Value.slice none 0 c) = .slice none 0 c := rfl
    go_enter Try.func47, Try.ntmps47
    go_wp2
    go_ret
    exact ⟨_, _, rfl, .inl ⟨rfl, rfl, rfl⟩, Below.refl _ _⟩
  | some ad =>
    have heq := heq (some ad)
    simp only [Option.isNone_some] at heq
    have HO := Lib.hid (own_empty w w.heap.size 55 3 (Nat.le_refl _))
    have HSRC := Lib.hid (les_src (h.below ((below1 w (.cells #[] 55)).mono hB)) hn)
    have HLEN := Lib.hid (le_flat hn)
    have HONE := Lib.hid (leCs_one ls)
    have HN := Lib.hid hn
    clear h hn
    go_enter Try.func47, Try.ntmps47
    go_wp2_with (at_builtin; refine wpList_app rfl (.tmp 5) (.tmp 6) 28 rfl w.heap.size 55 i0 _ 3 24 Try.underlying28 hi hz0 hz1 hz2 rfl (by decide) (.slice (some ⟨w.heap.size, 0, none⟩) 0 0) 0 [] rfl HO.out (some ad) n c ((ls.map leCs).flatten) rfl HLEN.out HSRC.out HONE.out (by unfold maxLen; omega) (by omega) (by simp) ?_; intro v1 w1 hown1 hgr1 _; have hx := Own.ofRow (w := w1) (lo := w.heap.size) (t := 55) (sz := 3) (n := n) (v := v1) (L := ls.map leCs) (hi := w1.heap.size) (by simpa using hown1) (leCs_len _) (by decide) (fun k hk => (hown1.lt k hk).2); obtain ⟨A1, c1, rfl, _, ho⟩ := hx; rw [List.length_map, HN.out])
    have HB := Lib.hid ((below1 w (.cells #[] 55)).grown hgr1 (by simp) (fun k hk => by simp [Value.ownBlock] at hk; omega))
    have HOW := Lib.hid ho
    clear hown1 hgr1 ho
    go_ret
    exact ⟨_, _, rfl, HOW.out, HB.out⟩

theorem keptFW {W w1 : World} (hb : Below W.heap.size W w1) {b o : Nat} (h : W.frozen? ⟨b, o, none⟩ = false) (hlt : b < W.heap.size) : w1.frozen? ⟨b, o, none⟩ = false :=
  (hb.frozen (p := ⟨b, o, none⟩) hlt).trans h
theorem set_blkW {w : World} {g i : Nat} {cs : Array Value} {t : TypeId} {v : Value} (h : w.heap[g]? = some (.cells cs t (0, 0))) : (w.setCell ⟨g, i, none⟩ v).heap[g]? = some (.cells (cs.setIfInBounds i v) t (0, 0)) := by
  simp [World.setCell, Array.getElem?_modify, h]
theorem put3_cell {w : World} {g b o : Nat} {p q r : Value} (hne : b ≠ g) : (((w.setCell ⟨g, 0, none⟩ p).setCell ⟨g, 1, none⟩ q).setCell ⟨g, 2, none⟩ r).cell? ⟨b, o, none⟩ = w.cell? ⟨b, o, none⟩ := by
  simp [World.cell?, World.setCell, Array.getElem?_modify, Ne.symm hne]
theorem below_d0W {W w1 : World} (h : Below W.drew.heap.size W.drew w1) : Below W.heap.size W w1 := Below.trans (b := W.drew) (Below.refl _ _).drew h

set_option maxRecDepth 100000 in
set_option maxHeartbeats 2000000 in
theorem copyWatch_any (tm : Int) (A A' : Option Addr) (n c n' c' : Nat) (is : List Int) (ls : List (Int × Int × Int)) (B : Nat) (w : World) (hn : is.length = n) (hn' : ls.length = n') (h : CksB w B A is) (h' : LesB w B A' ls) (hB : B ≤ w.heap.size) (hl : n ≤ 2000000) (hl' : n' ≤ 2000000) :
    Calls Try.prog 24 #[.agg #[.int .i64 tm, .slice A n c, .slice A' n' c']] w (WtV tm is ls w) := by
  have HI := Lib.hid (fun W (hW : Below w.heap.size w W) => cloneCk_any A n c is B W hn (h.below (hW.mono hB)) (Nat.le_trans hB hW.size) hl)
  have HL := Lib.hid (fun W (hW : Below w.heap.size w W) => cloneLe_any A' n' c' ls B W hn' (h'.below (hW.mono hB)) (Nat.le_trans hB hW.size) hl')
  unfold WtV
  rw [hn, hn']
  clear h h' hl hl' hn hn' hB
  go_enter Try.func24, Try.ntmps24
  go_wp2_with fail
  have hb0 := below2 w (.cells #[.int .i64 tm, .slice A n c, .slice A' n' c'] 30) (.cells #[.int .i64 0, .slice none 0 0, .slice none 0 0] 30)
  refine (HI.out _ hb0).mono ?_
  rintro e w1 ⟨A1, d1, rfl, ho1, hb1⟩
  have HB1 := Lib.hid (hb0.trans (hb1.mono hb0.size))
  have hz := hb1.size
  simp only [World.size_alloc] at hz
  have hz0 : w.heap.size < w1.heap.size := by omega
  have hz1 : w.heap.size + 1 < w1.heap.size := by omega
  have hk := (hb1.block w.heap.size (by simp; omega)).trans (((below1 (w.alloc (.cells #[.int .i64 tm, .slice A n c, .slice A' n' c'] 30)) (.cells #[.int .i64 0, .slice none 0 0, .slice none 0 0] 30)).block w.heap.size (by simp)).trans (heap_alloc_new w (.cells #[.int .i64 tm, .slice A n c, .slice A' n' c'] 30)))
  have hr := (hb1.block (w.heap.size + 1) (by simp)).trans (alloc_snd w (.cells #[.int .i64 tm, .slice A n c, .slice A' n' c'] 30) (.cells #[.int .i64 0, .slice none 0 0, .slice none 0 0] 30))
  have k1 := cell_of_row _ _ 1 _ 30 (0, 0) hk
  have k2 := cell_of_row _ _ 2 _ 30 (0, 0) hk
  have g1 := free_blk hk 1
  simp only [List.getElem?_toArray, List.getElem?_cons_zero, List.getElem?_cons_succ] at k1 k2
  have HO1 := Lib.hid ho1
  have HK := Lib.hid hk
  have HRR := Lib.hid hr
  clear hb0 hb1 ho1 hk hr
  go_wp2_with fail
  have hb2 := HB1.out.setCell (p := ⟨w.heap.size, 1, none⟩) (Nat.le_refl _) (.slice A1 n d1)
  refine (HL.out _ hb2).mono ?_
  rintro e w2 ⟨A2, d2, rfl, ho2, hb3⟩
  have HB2 := Lib.hid (hb2.trans (hb3.mono hb2.size))
  have ho1 := (HO1.out.low (p := ⟨w.heap.size, 1, none⟩) (by simp; omega) (.slice A1 n d1)).below (hb3.mono (by simp [World.setCell]))
  have hy := hb3.size
  simp only [World.size_setCell] at hy
  have hk2 := (hb3.block w.heap.size (by simpa [World.setCell] using hz0)).trans (set_blkW HK.out)
  have hr2 := (hb3.block (w.heap.size + 1) (by simpa [World.setCell] using hz1)).trans ((Below.heap_setCell _ _ _ _ (by simp)).trans HRR.out)
  have q0 : w2.cell? ⟨w.heap.size, 0, none⟩ = some (.int .i64 tm) := cell_of_row _ _ 0 _ 30 (0, 0) hk2
  have q1 : w2.cell? ⟨w.heap.size, 1, none⟩ = some (.slice A1 n d1) := cell_of_row _ _ 1 _ 30 (0, 0) hk2
  have q2 : w2.cell? ⟨w.heap.size, 2, none⟩ = some (.slice A' n' c') := cell_of_row _ _ 2 _ 30 (0, 0) hk2
  have y0 : w2.cell? ⟨w.heap.size + 1, 0, none⟩ = some (.int .i64 0) := cell_of_row _ _ 0 _ 30 (0, 0) hr2
  have y1 : w2.cell? ⟨w.heap.size + 1, 1, none⟩ = some (.slice none 0 0) := cell_of_row _ _ 1 _ 30 (0, 0) hr2
  have y2 : w2.cell? ⟨w.heap.size + 1, 2, none⟩ = some (.slice none 0 0) := cell_of_row _ _ 2 _ 30 (0, 0) hr2
  have u2 := free_blk hk2 2
  have z0 := free_blk hr2 0
  have z1 := free_blk hr2 1
  have z2 := free_blk hr2 2
  have hy0 : w.heap.size < w2.heap.size := by omega
  have hy1 : w.heap.size + 1 < w2.heap.size := by omega
  have HO2 := Lib.hid ho1
  have HO3 := Lib.hid ho2
  clear HO1 ho1 ho2 hb2 hb3 hk2 hr2 k1 k2 g1
  go_wp2
  exact bodyPost_ret (v := .agg #[.int .i64 tm, .slice A1 n d1, .slice A2 n' d2]) (by simp [results, Try.results24, go_sem, y0, y1, y2, z0, z1, z2]) rfl ⟨_, _, _, _, rfl,
    (OwnCk.put3 (HO2.out.low (p := ⟨w.heap.size, 2, none⟩) (by simp; omega) _) (by simp)).wider (by simp; omega) (by simp [World.setCell]; omega),
    (OwnLe.put3 (HO3.out.low (p := ⟨w.heap.size, 2, none⟩) (by simp [World.setCell]; omega) _) (by simp [World.setCell]; omega)).wider (by simp [World.setCell]; omega) (by simp [World.setCell]),
    bel_put3 (HB2.out.setCell (p := ⟨w.heap.size, 2, none⟩) (Nat.le_refl _) _) (by omega)⟩

/-! ### l10Own: two appends in one drawn region -/
theorem own_eW {X : World} {z g sz : Nat} {t : TypeId} (h : X.heap[g]? = some (.cells #[] t (0, 0))) (hz : z ≤ g) : X.ownsRow z t sz (.slice (some ⟨g, 0, none⟩) 0 0) 0 [] :=
  ⟨by simp, .inr ⟨g, 0, #[], rfl, hz, h, Nat.le_refl _, Nat.zero_le _, by simp, by simp⟩⟩
theorem eA (W : World) (o : Obj) : ((W.alloc o).drew).heap[W.heap.size]? = some o := heap_alloc_new W o
theorem eB (W : World) (o p : Obj) : (((W.alloc o).alloc p).drew).heap[W.heap.size]? = some o := ((below1 (W.alloc o) p).block W.heap.size (by simp)).trans (heap_alloc_new W o)
theorem eC (W : World) (o p : Obj) : (((W.alloc o).alloc p).drew).heap[W.heap.size + 1]? = some p := alloc_snd W o p
theorem bA (W : World) (o : Obj) : Below W.heap.size W ((W.alloc o).drew) := ((Below.refl W.heap.size W).alloc (Nat.le_refl _) o).drew
theorem bB (W : World) (o p : Obj) : Below W.heap.size W (((W.alloc o).alloc p).drew) := (((Below.refl W.heap.size W).alloc (Nat.le_refl _) o).alloc (by simp) p).drew
theorem bC {W X : World} (h : Below W.heap.size W X) (o : Obj) : Below W.heap.size W (X.alloc o) := h.alloc h.size o
theorem ck_step {W X w' : World} {v' : Value} {g n : Nat} {is : List Int} (hX : Below W.heap.size W X) (hown : w'.ownsRow W.heap.size 27 1 v' (0 + n) ([] ++ (is.map ckCs).flatten)) (hgr : X.grownBy w' (Value.slice (some ⟨g, 0, none⟩) 0 0).ownBlock) (hg : W.heap.size ≤ g) (hn : is.length = n) :
    ∃ A c, v' = .slice A n c ∧ OwnCk w' W.heap.size w'.heap.size A c is ∧ Below W.heap.size W w' := by
  rw [List.nil_append] at hown
  obtain ⟨A, c, hv, hl, ho⟩ := Own.ofRow hown (ckCs_len _) (by decide) (hi := w'.heap.size) (fun k hk => (hown.lt k hk).2)
  rw [List.length_map, hn] at hv
  exact ⟨A, c, hv, ho, hX.grown hgr hX.size (fun k hk => by simp [Value.ownBlock] at hk; omega)⟩
theorem le_step {W X w' : World} {v' : Value} {g n : Nat} {ls : List (Int × Int × Int)} (hX : Below W.heap.size W X) (hown : w'.ownsRow W.heap.size 55 3 v' (0 + n) ([] ++ (ls.map leCs).flatten)) (hgr : X.grownBy w' (Value.slice (some ⟨g, 0, none⟩) 0 0).ownBlock) (hg : W.heap.size ≤ g) (hn : ls.length = n) :
    ∃ A c, v' = .slice A n c ∧ OwnLe w' W.heap.size w'.heap.size A c ls ∧ Below W.heap.size W w' := by
  rw [List.nil_append] at hown
  obtain ⟨A, c, hv, hl, ho⟩ := Own.ofRow hown (leCs_len _) (by decide) (hi := w'.heap.size) (fun k hk => (hown.lt k hk).2)
  rw [List.length_map, hn] at hv
  exact ⟨A, c, hv, ho, hX.grown hgr hX.size (fun k hk => by simp [Value.ownBlock] at hk; omega)⟩
/-- What is owned stays where a row of another type has grown. -/
theorem own_grown {X w' : World} {lo hi sz cap g : Nat} {t t' : TypeId} {A : Option Addr} {L : List (List Value)} {cur : Array Value} (h : Own X lo hi t sz A cap L) (hgr : X.grownBy w' (Value.slice (some ⟨g, 0, none⟩) 0 0).ownBlock) (hg : X.heap[g]? = some (.cells cur t' (0, 0))) (ht : t ≠ t') : Own w' lo hi t sz A cap L := by
  rcases h with h | ⟨b, cs, hA, h1, h2, h3, h4⟩
  · exact .inl h
  · refine .inr ⟨b, cs, hA, h1, h2, ?_, h4⟩
    refine (hgr.block b (lt_blk h3) ?_).trans h3
    intro e
    have e2 : b = g := by simpa [Value.ownBlock] using e
    subst e2
    rw [hg] at h3
    simp only [Option.some.injEq, Obj.cells.injEq] at h3
    exact ht h3.2.1.symm
theorem kept3 {W w' : World} {g : Nat} {v0 v1 v2 : Value} (hb : Below W.heap.size W w') (y : W.cell? ⟨g, 0, none⟩ = some v0 ∧ W.cell? ⟨g, 1, none⟩ = some v1 ∧ W.cell? ⟨g, 2, none⟩ = some v2) (hlp : g < W.heap.size) : w'.cell? ⟨g, 0, none⟩ = some v0 ∧ w'.cell? ⟨g, 1, none⟩ = some v1 ∧ w'.cell? ⟨g, 2, none⟩ = some v2 :=
  ⟨kept2 hb y.1 hlp, kept2 hb y.2.1 hlp, kept2 hb y.2.2 hlp⟩
theorem put3_kept {w : World} {g b : Nat} {p q r v0 v1 v2 : Value} (hne : b ≠ g) (y : w.cell? ⟨b, 0, none⟩ = some v0 ∧ w.cell? ⟨b, 1, none⟩ = some v1 ∧ w.cell? ⟨b, 2, none⟩ = some v2) : (((w.setCell ⟨g, 0, none⟩ p).setCell ⟨g, 1, none⟩ q).setCell ⟨g, 2, none⟩ r).cell? ⟨b, 0, none⟩ = some v0 ∧ (((w.setCell ⟨g, 0, none⟩ p).setCell ⟨g, 1, none⟩ q).setCell ⟨g, 2, none⟩ r).cell? ⟨b, 1, none⟩ = some v1 ∧ (((w.setCell ⟨g, 0, none⟩ p).setCell ⟨g, 1, none⟩ q).setCell ⟨g, 2, none⟩ r).cell? ⟨b, 2, none⟩ = some v2 :=
  ⟨(put3_cell hne).trans y.1, (put3_cell hne).trans y.2.1, (put3_cell hne).trans y.2.2⟩
/-- The three cells of a watch's variable, and that they may be written. -/
def Cells3 (w : World) (g : Nat) (v0 v1 v2 : Value) : Prop :=
  w.cell? ⟨g, 0, none⟩ = some v0 ∧ w.cell? ⟨g, 1, none⟩ = some v1 ∧ w.cell? ⟨g, 2, none⟩ = some v2 ∧ w.frozen? ⟨g, 0, none⟩ = false ∧ w.frozen? ⟨g, 1, none⟩ = false ∧ w.frozen? ⟨g, 2, none⟩ = false
theorem Cells3.kept {W w' : World} {g : Nat} {v0 v1 v2 : Value} (h : Cells3 W g v0 v1 v2) (hb : Below W.heap.size W w') (hlp : g < W.heap.size) : Cells3 w' g v0 v1 v2 :=
  ⟨kept2 hb h.1 hlp, kept2 hb h.2.1 hlp, kept2 hb h.2.2.1 hlp, keptFW hb h.2.2.2.1 hlp, keptFW hb h.2.2.2.2.1 hlp, keptFW hb h.2.2.2.2.2 hlp⟩
theorem cells3_of {w : World} {g : Nat} {v0 v1 v2 : Value} {t : TypeId} (h : w.heap[g]? = some (.cells #[v0, v1, v2] t (0, 0))) : Cells3 w g v0 v1 v2 :=
  ⟨cell_blk h rfl, cell_blk h rfl, cell_blk h rfl, free_blk h 0, free_blk h 1, free_blk h 2⟩

set_option maxRecDepth 100000 in
set_option maxHeartbeats 8000000 in
theorem l10Own_any (tm : Int) (A A' : Option Addr) (n c n' c' : Nat) (is : List Int) (ls : List (Int × Int × Int)) (B : Nat) (w : World) (hn : is.length = n) (hn' : ls.length = n') (h : CksB w B A is) (h' : LesB w B A' ls) (hB : B ≤ w.heap.size) (hl : n ≤ 2000000) (hl' : n' ≤ 2000000) :
    Calls Try.prog 26 #[.agg #[.int .i64 tm, .slice A n c, .slice A' n' c']] w (WtV tm is ls w) := by
  have hb0 := below2 w (.cells #[.int .i64 tm, .slice A n c, .slice A' n' c'] 30) (.cells #[.int .i64 0, .slice none 0 0, .slice none 0 0] 30)
  have hk := ((below1 (w.alloc (.cells #[.int .i64 tm, .slice A n c, .slice A' n' c'] 30)) (.cells #[.int .i64 0, .slice none 0 0, .slice none 0 0] 30)).block w.heap.size (by simp)).trans (heap_alloc_new w (.cells #[.int .i64 tm, .slice A n c, .slice A' n' c'] 30))
  have hr := alloc_snd w (.cells #[.int .i64 tm, .slice A n c, .slice A' n' c'] 30) (.cells #[.int .i64 0, .slice none 0 0, .slice none 0 0] 30)
  obtain ⟨i0, hi, hz0, hz1, hz2⟩ := info_parts infoCk
  obtain ⟨j0, hj, hy0, hy1, hy2⟩ := info_parts infoLe
  have hsz0 : ((w.alloc (.cells #[.int .i64 tm, .slice A n c, .slice A' n' c'] 30)).alloc (.cells #[.int .i64 0, .slice none 0 0, .slice none 0 0] 30)).heap.size = w.heap.size + 2 := by simp
  obtain ⟨W0, hW0⟩ : ∃ W0, W0 = ((w.alloc (.cells #[.int .i64 tm, .slice A n c, .slice A' n' c'] 30)).alloc (.cells #[.int .i64 0, .slice none 0 0, .slice none 0 0] 30)) := ⟨_, rfl⟩
  rw [← hW0] at hb0 hk hr hsz0
  have HSC := Lib.hid (fun W (hW : Below W0.heap.size W0 W) => cks_src (h.below ((hb0.trans (hW.mono hb0.size)).mono hB)) hn)
  have HSL := Lib.hid (fun W (hW : Below W0.heap.size W0 W) => les_src (h'.below ((hb0.trans (hW.mono hb0.size)).mono hB)) hn')
  have HLC := Lib.hid (ck_flat hn)
  have HLL := Lib.hid (le_flat hn')
  have HOC1 := Lib.hid (ckCs_one is)
  have HOL1 := Lib.hid (leCs_one ls)
  have HN := Lib.hid hn
  have HN' := Lib.hid hn'
  have HB0 := Lib.hid hb0
  have HK3 : W0.cell? ⟨w.heap.size, 0, none⟩ = some (.int .i64 tm) ∧ W0.cell? ⟨w.heap.size, 1, none⟩ = some (.slice A n c) ∧ W0.cell? ⟨w.heap.size, 2, none⟩ = some (.slice A' n' c') := ⟨cell_blk hk rfl, cell_blk hk rfl, cell_blk hk rfl⟩
  have HS0 : W0.drew.cell? ⟨w.heap.size, 0, none⟩ = some (.int .i64 tm) ∧ W0.drew.cell? ⟨w.heap.size, 1, none⟩ = some (.slice A n c) ∧ W0.drew.cell? ⟨w.heap.size, 2, none⟩ = some (.slice A' n' c') := HK3
  have HY := Lib.hid (cells3_of hr)
  have hlp : w.heap.size < W0.heap.size := by omega
  have hlr : w.heap.size + 1 < W0.heap.size := by omega
  have hne : w.heap.size ≠ w.heap.size + 1 := by omega
  unfold WtV
  rw [hn, hn']
  clear h h' hn hn' hb0 hk hr hsz0
  go_enter Try.func26, Try.ntmps26
  go_upto_region 1 with fail
  rw [← hW0]
  clear hW0
  go_region_held3 (fun w' => w'.cell? ⟨w.heap.size, 0, none⟩ = some (.int .i64 tm) ∧ w'.cell? ⟨w.heap.size, 1, none⟩ = some (.slice A n c) ∧ w'.cell? ⟨w.heap.size, 2, none⟩ = some (.slice A' n' c'))
    (first | with_reducible exact HS0 | with_reducible exact kept3 (bA W0 _) HK3 hlp | with_reducible exact kept3 (bB W0 _ _) HK3 hlp | with_reducible exact kept3 hb6 HK3 hlp | with_reducible exact kept3 (bC hb6 _) HK3 hlp | with_reducible exact kept3 hb7 HK3 hlp | with_reducible exact put3_kept hne (kept3 hb7 HK3 hlp))
    (first
      | (refine step_app (by rfl) _ _ _ (by rfl) W0.heap.size 27 i0 _ 1 8 Try.underlying24 hi hz0 hz1 hz2 rfl (by decide) _ 0 [] (by rfl) (own_eW (eA W0 (.cells #[] 27)) (by simp)) A n c ((is.map ckCs).flatten) (by rfl) HLC.out (HSC.out _ (bA W0 (.cells #[] 27))) HOC1.out (by unfold maxLen; omega) (by omega) ((bA W0 (.cells #[] 27))).size ?_; intro v6 w6 hown6 hgr6 _; obtain ⟨A6, c6, rfl, ho6, hb6⟩ := ck_step (bA W0 (.cells #[] 27)) hown6 hgr6 (by simp) HN.out; have h29 := heap_alloc_new w6 (.cells #[] 55); have hb6' := bC hb6 (.cells #[] 55); have ho6' := ho6.below (below1 w6 (.cells #[] 55)))
      | (refine step_app (by rfl) _ _ _ (by rfl) W0.heap.size 27 i0 _ 1 8 Try.underlying24 hi hz0 hz1 hz2 rfl (by decide) _ 0 [] (by rfl) (own_eW (eB W0 (.cells #[] 27) (.cells #[] 55)) (by simp)) A n c ((is.map ckCs).flatten) (by rfl) HLC.out (HSC.out _ (bB W0 (.cells #[] 27) (.cells #[] 55))) HOC1.out (by unfold maxLen; omega) (by omega) ((bB W0 (.cells #[] 27) (.cells #[] 55))).size ?_; intro v6 w6 hown6 hgr6 _; obtain ⟨A6, c6, rfl, ho6, hb6⟩ := ck_step (bB W0 (.cells #[] 27) (.cells #[] 55)) hown6 hgr6 (by simp) HN.out; have h29 := (hgr6.block (W0.heap.size + 1) (by simp) (by simp [Value.ownBlock])).trans (eC W0 (.cells #[] 27) (.cells #[] 55)))
      | (refine step_app (by rfl) _ _ _ (by rfl) W0.heap.size 27 i0 _ 1 8 Try.underlying24 hi hz0 hz1 hz2 rfl (by decide) _ 0 [] (by rfl) (own_eW (eC W0 (.cells #[] 55) (.cells #[] 27)) (by simp)) A n c ((is.map ckCs).flatten) (by rfl) HLC.out (HSC.out _ (bB W0 (.cells #[] 55) (.cells #[] 27))) HOC1.out (by unfold maxLen; omega) (by omega) ((bB W0 (.cells #[] 55) (.cells #[] 27))).size ?_; intro v6 w6 hown6 hgr6 _; obtain ⟨A6, c6, rfl, ho6, hb6⟩ := ck_step (bB W0 (.cells #[] 55) (.cells #[] 27)) hown6 hgr6 (by simp) HN.out; have h29 := (hgr6.block (W0.heap.size) (by simp <;> omega) (by simp [Value.ownBlock])).trans (eB W0 (.cells #[] 55) (.cells #[] 27)))
      | (refine step_app (by rfl) _ _ _ (by rfl) W0.heap.size 55 j0 _ 3 24 Try.underlying28 hj hy0 hy1 hy2 rfl (by decide) _ 0 [] (by rfl) (own_eW h29 (by have := hb6.size; omega)) A' n' c' ((ls.map leCs).flatten) (by rfl) HLL.out (HSL.out _ hb6') HOL1.out (by unfold maxLen; omega) (by omega) (hb6').size ?_; intro v7 w7 hown7 hgr7 _; obtain ⟨A7, c7, rfl, ho7, hb7⟩ := le_step hb6' hown7 hgr7 (by have := hb6.size; omega) HN'.out; have hoc := own_grown ho6' hgr7 h29 (by decide); have HQ3 := HY.out.kept hb7 hlr; obtain ⟨y0, y1, y2, z0, z1, z2⟩ := HQ3)
      | (refine step_app (by rfl) _ _ _ (by rfl) W0.heap.size 55 j0 _ 3 24 Try.underlying28 hj hy0 hy1 hy2 rfl (by decide) _ 0 [] (by rfl) (own_eW h29 (by simp)) A' n' c' ((ls.map leCs).flatten) (by rfl) HLL.out (HSL.out _ hb6) HOL1.out (by unfold maxLen; omega) (by omega) (hb6).size ?_; intro v7 w7 hown7 hgr7 _; obtain ⟨A7, c7, rfl, ho7, hb7⟩ := le_step hb6 hown7 hgr7 (by simp) HN'.out; have hoc := own_grown ho6 hgr7 h29 (by decide); have HQ3 := HY.out.kept hb7 hlr; obtain ⟨y0, y1, y2, z0, z1, z2⟩ := HQ3))
  all_goals
    (have HOC := Lib.hid hoc
     have HOL := Lib.hid ho7
     have HBF := Lib.hid (HB0.out.trans (hb7.mono HB0.out.size))
     have hzz := HB0.out.size
     have hz7 := hb7.size
     have hz6 : w6.heap.size ≤ w7.heap.size := by first | exact hgr7.size | exact Nat.le_trans (by simp) hgr7.size
     have hz0 := hb6.size
     clear hoc ho7 hb7 hb6 HK3 HS0
     go_wp2
     exact bodyPost_ret (v := .agg #[.int .i64 tm, .slice A6 n c6, .slice A7 n' c7]) (by simp [results, Try.results26, go_sem, y0, y1, y2, z0, z1, z2]) rfl ⟨_, _, _, _, rfl,
      (OwnCk.put3 HOC.out (by omega)).wider (by omega) (by simp [World.setCell]; omega),
      (OwnLe.put3 HOL.out (by omega)).wider (by omega) (by simp [World.setCell]),
      bel_put3 HBF.out (by omega)⟩)
end Go.Proofs.Ytpppgihoekfmoaa.Wt
