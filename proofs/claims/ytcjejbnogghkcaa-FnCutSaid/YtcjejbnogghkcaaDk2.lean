/-
  Contracts for WriteDisk and SyncDisk, of the program and of the model.
-/
import Derived.Test.YtcjejbnogghkcaaDk1
import Derived.Deep.RegionHeld3
import Derived.Deep.DeepCutAuto
namespace Go.Proofs.Ytcjejbnogghkcaa.Dk
open Go.RowKit C1
set_option linter.unusedVariables false
set_option linter.unusedSimpArgs false

/-- A disk and whether there is one, as an answer. -/
def DAns (r : ByteArray × ByteArray × Bool) : Ending := .returned (.tuple #[.agg #[.string r.1, .string r.2.1], .bool r.2.2])
def noD : ByteArray × ByteArray × Bool := (⟨#[]⟩, ⟨#[]⟩, false)
def syncA (k l : ByteArray) : ByteArray × ByteArray × Bool := if goodB k l = true then (k ++ l, ⟨#[]⟩, true) else noD
def writeA (k l s : ByteArray) : ByteArray × ByteArray × Bool := if goodB k l = true ∧ s.size ≤ 700 ∧ goodB k (l ++ frm s) = true then (k, l ++ frm s, true) else noD
theorem few_of {s : ByteArray} (h : s.size ≤ 1048576) : Few s := by unfold Few; omega
theorem goodB_few {k l : ByteArray} (h : goodB k l = true) : k.size ≤ 50000 ∧ l.size ≤ 50000 := by have := goodB_le h; omega

set_option maxHeartbeats 400000 in
theorem implSync_any (k l : ByteArray) (w : World) (hk : k.size ≤ 1048576) (hl : l.size ≤ 1048576) :
    Calls Try.prog 25 #[.agg #[.string k, .string l]] w fun e w' => e = DAns (syncA k l) ∧ Below w.heap.size w w' := by
  have HG := Lib.hid (fun W => implGood_any k l W (few_of hk) (few_of hl))
  have HN := Lib.hid (fun W => newDisk_any (k ++ l) ⟨#[]⟩ W)
  have hadd := fun (W : World) => run_string_add_sum (P := Try.prog) (w := W) k l (by omega)
  cases hg : goodB k l with
  | false =>
    rw [hg] at HG
    rw [show syncA k l = noD by unfold syncA; rw [hg]; rfl]
    clear hg HN
    go_enter Try.func25, Try.ntmps25
    go_wp2_with fail
    refine (HG.out _).mono ?_
    rintro e w1 ⟨rfl, hb1⟩
    have B1 := Lib.hid ((below2 _ _ _).trans (hb1.mono (below2 _ _ _).size))
    obtain ⟨hc, hf⟩ := bcell hb1
    have hz : w.heap.size + 1 < w1.heap.size := by have := hb1.size; simp at this; omega
    clear hb1
    go_wp2
    exact bodyPost_ret (v := .tuple #[.agg #[.string ⟨#[]⟩, .string ⟨#[]⟩], .bool false]) (by simp [results, Try.results25, go_sem, hc, hf, hz]) rfl ⟨rfl, (B1.out.setCell (p := ⟨w.heap.size + 1, 0, none⟩) (by simp) _).setCell (p := ⟨w.heap.size + 1, 1, none⟩) (by simp) _⟩
  | true =>
    rw [hg] at HG
    have hsz := goodB_le hg
    rw [show syncA k l = (k ++ l, ⟨#[]⟩, true) by unfold syncA; rw [hg]; rfl]
    have HN2 := Lib.hid (fun W => HN.out W (by rw [ByteArray.size_append]; omega) (by decide))
    clear hg HN
    go_enter Try.func25, Try.ntmps25
    go_wp2_with fail
    refine (HG.out _).mono ?_
    rintro e w1 ⟨rfl, hb1⟩
    have B1 := (below2 _ _ _).trans (hb1.mono (below2 _ _ _).size)
    obtain ⟨hc, hf⟩ := bcell hb1
    go_wp2_with fail
    refine (HN2.out _).mono ?_
    rintro e w2 ⟨rfl, hb2⟩
    have B2 := Lib.hid (B1.trans (hb2.mono B1.size))
    clear hc hf
    obtain ⟨hc, hf⟩ := bcell (hb1.trans (hb2.mono hb1.size))
    have hz : w.heap.size + 1 < w2.heap.size := by have := (hb1.trans (hb2.mono hb1.size)).size; simp at this; omega
    clear hb1 hb2 B1
    go_wp2
    exact bodyPost_ret (v := .tuple #[.agg #[.string (k ++ l), .string ⟨#[]⟩], .bool true]) (by simp [results, Try.results25, go_sem, hc, hf, hz]) rfl ⟨rfl, (B2.out.setCell (p := ⟨w.heap.size + 1, 0, none⟩) (by simp) _).setCell (p := ⟨w.heap.size + 1, 1, none⟩) (by simp) _⟩

set_option maxHeartbeats 400000 in
theorem specSync_any (k l : ByteArray) (w : World) (hk : k.size ≤ 1048576) (hl : l.size ≤ 1048576) :
    Calls Try.prog 42 #[.agg #[.string k, .string l]] w fun e w' => e = DAns (syncA k l) ∧ Below w.heap.size w w' := by
  have HG := Lib.hid (fun W => specGood_any k l W (few_of hk) (few_of hl))
  have hadd := fun (W : World) => run_string_add_sum (P := Try.prog) (w := W) k l (by omega)
  cases hg : goodB k l with
  | false =>
    rw [hg] at HG
    rw [show syncA k l = noD by unfold syncA; rw [hg]; rfl]
    clear hg
    go_enter Try.func42, Try.ntmps42
    go_wp2_with fail
    refine (HG.out _).mono ?_
    rintro e w1 ⟨rfl, hb1⟩
    have B1 := Lib.hid ((below2 _ _ _).trans (hb1.mono (below2 _ _ _).size))
    obtain ⟨hc, hf⟩ := bcell hb1
    have hz : w.heap.size + 1 < w1.heap.size := by have := hb1.size; simp at this; omega
    clear hb1
    go_wp2
    exact bodyPost_ret (v := .tuple #[.agg #[.string ⟨#[]⟩, .string ⟨#[]⟩], .bool false]) (by simp [results, Try.results42, go_sem, hc, hf, hz]) rfl ⟨rfl, (B1.out.setCell (p := ⟨w.heap.size + 1, 0, none⟩) (by simp) _).setCell (p := ⟨w.heap.size + 1, 1, none⟩) (by simp) _⟩
  | true =>
    rw [hg] at HG
    rw [show syncA k l = (k ++ l, ⟨#[]⟩, true) by unfold syncA; rw [hg]; rfl]
    clear hg
    go_enter Try.func42, Try.ntmps42
    go_wp2_with fail
    refine (HG.out _).mono ?_
    rintro e w1 ⟨rfl, hb1⟩
    have B1 := Lib.hid ((below2 _ _ _).trans (hb1.mono (below2 _ _ _).size))
    obtain ⟨hc, hf⟩ := bcell hb1
    have hz : w.heap.size + 1 < w1.heap.size := by have := hb1.size; simp at this; omega
    clear hb1
    go_wp2
    exact bodyPost_ret (v := .tuple #[.agg #[.string (k ++ l), .string ⟨#[]⟩], .bool true]) (by simp [results, Try.results42, go_sem, hc, hf, hz]) rfl ⟨rfl, (B1.out.setCell (p := ⟨w.heap.size + 1, 0, none⟩) (by simp) _).setCell (p := ⟨w.heap.size + 1, 1, none⟩) (by simp) _⟩

theorem writeA_no {k l s : ByteArray} (h : ¬ (goodB k l = true ∧ s.size ≤ 700 ∧ goodB k (l ++ frm s) = true)) : writeA k l s = noD := if_neg h
theorem writeA_yes {k l s : ByteArray} (h1 : goodB k l = true) (h2 : s.size ≤ 700) (h3 : goodB k (l ++ frm s) = true) : writeA k l s = (k, l ++ frm s, true) := if_pos ⟨h1, h2, h3⟩

set_option maxHeartbeats 1000000 in
theorem implWrite_any (k l s : ByteArray) (w : World) (hk : k.size ≤ 1048576) (hl : l.size ≤ 1048576) (hs : s.size ≤ maxLen) :
    Calls Try.prog 22 #[.agg #[.string k, .string l], .string s] w fun e w' => e = DAns (writeA k l s) ∧ Below w.heap.size w w' := by
  have HG := Lib.hid (fun W => implGood_any k l W (few_of hk) (few_of hl))
  by_cases h7 : s.size ≤ 700
  · have HF := Lib.hid (fun W => implFrame_yes s W h7)
    have hfb := frm_two s h7
    cases hg : goodB k l with
    | false =>
      rw [hg] at HG
      rw [writeA_no (k := k) (l := l) (s := s) (by rw [hg]; simp)]
      clear hg hfb
      go_enter Try.func22, Try.ntmps22
      go_wp2_with fail
      refine (HF.out _).mono ?_
      rintro e w0 ⟨rfl, hb0⟩
      obtain ⟨hc, hf⟩ := bcell hb0
      go_wp2_with fail
      refine (HG.out _).mono ?_
      rintro e w1 ⟨rfl, hb1⟩
      have hb2 := hb0.trans (hb1.mono hb0.size)
      have B1 := Lib.hid ((below2 _ _ _).trans (hb2.mono (below2 _ _ _).size))
      clear hc hf
      obtain ⟨hc, hf⟩ := bcell hb2
      have hz : w.heap.size + 1 < w1.heap.size := by have := hb2.size; simp at this; omega
      clear hb0 hb1 hb2
      go_wp2
      exact bodyPost_ret (v := .tuple #[.agg #[.string ⟨#[]⟩, .string ⟨#[]⟩], .bool false]) (by simp [results, Try.results22, go_sem, hc, hf, hz]) rfl ⟨rfl, (B1.out.setCell (p := ⟨w.heap.size + 1, 0, none⟩) (by simp) _).setCell (p := ⟨w.heap.size + 1, 1, none⟩) (by simp) _⟩
    | true =>
      rw [hg] at HG
      obtain ⟨hk5, hl5⟩ := goodB_few hg
      have hla : (l ++ frm s).size ≤ 1048576 := by rw [ByteArray.size_append]; omega
      have HN := Lib.hid (fun W => newDisk_any k (l ++ frm s) W hk hla)
      have HG2 := Lib.hid (fun W => implGood_any k (l ++ frm s) W (few_of hk) (few_of hla))
      have hadd := fun (W : World) => run_string_add_sum (P := Try.prog) (w := W) l (frm s) (by omega)
      obtain ⟨t, ht⟩ : ∃ t, t = l ++ frm s := ⟨_, rfl⟩
      have HT := Lib.hid ht
      rw [← ht] at HN HG2 hla
      simp only [← ht] at hadd
      clear ht
      cases hg2 : goodB k t with
      | false =>
        rw [hg2] at HG2
        rw [writeA_no (k := k) (l := l) (s := s) (by rw [← HT.out, hg2]; simp)]
        clear hg hg2 hfb
        go_enter Try.func22, Try.ntmps22
        go_wp2_with fail
        refine (HF.out _).mono ?_
        rintro e w0 ⟨rfl, hb0⟩
        obtain ⟨hc, hf⟩ := bcell hb0
        go_wp2_with fail
        refine (HG.out _).mono ?_
        rintro e w1 ⟨rfl, hb1⟩
        have hb2 := hb0.trans (hb1.mono hb0.size)
        clear hc hf
        obtain ⟨hc, hf⟩ := bcell hb2
        go_wp2_with fail
        refine (HN.out _).mono ?_
        rintro e w2 ⟨rfl, hb3⟩
        have hb4 := hb2.trans (hb3.mono hb2.size)
        clear hc hf
        go_wp2_with fail
        refine (HG2.out _).mono ?_
        rintro e w3 ⟨rfl, hb5⟩
        have hb6 := hb4.trans (((below1 _ _).trans (hb5.mono (below1 _ _).size)).mono hb4.size)
        have B1 := Lib.hid ((below2 _ _ _).trans (hb6.mono (below2 _ _ _).size))
        obtain ⟨hc, hf⟩ := bcell hb6
        have hz : w.heap.size + 1 < w3.heap.size := by have := hb6.size; simp at this; omega
        clear hb0 hb1 hb2 hb3 hb4 hb5 hb6
        go_wp2
        exact bodyPost_ret (v := .tuple #[.agg #[.string ⟨#[]⟩, .string ⟨#[]⟩], .bool false]) (by simp [results, Try.results22, go_sem, hc, hf, hz]) rfl ⟨rfl, (B1.out.setCell (p := ⟨w.heap.size + 1, 0, none⟩) (by simp) _).setCell (p := ⟨w.heap.size + 1, 1, none⟩) (by simp) _⟩
      | true =>
        rw [hg2] at HG2
        rw [writeA_yes (k := k) (l := l) (s := s) hg h7 (by rw [← HT.out]; exact hg2), ← HT.out]
        clear hg hg2 hfb
        go_enter Try.func22, Try.ntmps22
        go_wp2_with fail
        refine (HF.out _).mono ?_
        rintro e w0 ⟨rfl, hb0⟩
        obtain ⟨hc, hf⟩ := bcell hb0
        go_wp2_with fail
        refine (HG.out _).mono ?_
        rintro e w1 ⟨rfl, hb1⟩
        have hb2 := hb0.trans (hb1.mono hb0.size)
        clear hc hf
        obtain ⟨hc, hf⟩ := bcell hb2
        go_wp2_with fail
        refine (HN.out _).mono ?_
        rintro e w2 ⟨rfl, hb3⟩
        have hb4 := hb2.trans (hb3.mono hb2.size)
        clear hc hf
        go_wp2_with fail
        refine (HG2.out _).mono ?_
        rintro e w3 ⟨rfl, hb5⟩
        have hb6 := hb4.trans (((below1 _ _).trans (hb5.mono (below1 _ _).size)).mono hb4.size)
        have B1 := Lib.hid ((below2 _ _ _).trans (hb6.mono (below2 _ _ _).size))
        have z0 : w3.cell? ⟨w2.heap.size, 0, none⟩ = some (.string k) := (hb5.cell (p := ⟨w2.heap.size, 0, none⟩) (by simp)).trans (cell_of_row _ _ 0 _ 30 (0, 0) (heap_alloc_new w2 _))
        have z1 : w3.cell? ⟨w2.heap.size, 1, none⟩ = some (.string t) := (hb5.cell (p := ⟨w2.heap.size, 1, none⟩) (by simp)).trans (cell_of_row _ _ 1 _ 30 (0, 0) (heap_alloc_new w2 _))
        obtain ⟨hc, hf⟩ := bcell hb6
        have hz : w.heap.size + 1 < w3.heap.size := by have := hb6.size; simp at this; omega
        clear hb0 hb1 hb2 hb3 hb4 hb5 hb6
        go_wp2
        exact bodyPost_ret (v := .tuple #[.agg #[.string k, .string t], .bool true]) (by simp [results, Try.results22, go_sem, hc, hf, hz]) rfl ⟨rfl, (B1.out.setCell (p := ⟨w.heap.size + 1, 0, none⟩) (by simp) _).setCell (p := ⟨w.heap.size + 1, 1, none⟩) (by simp) _⟩
  · have HF := Lib.hid (fun W => implFrame_no s W hs (by omega))
    rw [writeA_no (k := k) (l := l) (s := s) (fun h => h7 h.2.1)]
    clear h7 hs
    have B1 := Lib.hid (below2 w (.cells #[.string k, .string l] 30) (.cells #[.string ⟨#[]⟩, .string ⟨#[]⟩] 30))
    go_enter Try.func22, Try.ntmps22
    go_wp2_with fail
    refine (HF.out _).mono ?_
    rintro e w1 ⟨rfl, rfl⟩
    go_wp2
    exact bodyPost_ret (v := .tuple #[.agg #[.string ⟨#[]⟩, .string ⟨#[]⟩], .bool false]) (by simp [results, Try.results22, go_sem]) rfl ⟨rfl, B1.out⟩

theorem set_two {w : World} {g : Nat} {x y a b : Value} {T : TypeId} (h : w.heap[g]? = some (.cells #[x, y] T (0, 0))) : ((w.setCell ⟨g, 0, none⟩ a).setCell ⟨g, 1, none⟩ b).heap[g]? = some (.cells #[a, b] T (0, 0)) := by
  simp [World.setCell, Array.getElem?_modify, h]
set_option maxRecDepth 100000 in
set_option maxHeartbeats 4000000 in
theorem specWrite_any (k l s : ByteArray) (w : World) (hk : k.size ≤ 1048576) (hl : l.size ≤ 1048576) (hs : s.size ≤ 1048576) :
    Calls Try.prog 23 #[.agg #[.string k, .string l], .string s] w fun e w' => e = DAns (writeA k l s) ∧ Below w.heap.size w w' := by
  have HF := Lib.hid (fun W => l6Frame_any s W hs)
  have HG := Lib.hid (fun W => specGood_any k l W (few_of hk) (few_of hl))
  have hfb := frm_bound s
  have hadd := fun (W : World) => run_string_add_sum (P := Try.prog) (w := W) l (frm s) (by omega)
  have HG2 := Lib.hid (fun W => specGood_any k (l ++ frm s) W (few_of hk) (by unfold Few; rw [ByteArray.size_append]; omega))
  obtain ⟨f, hfd⟩ : ∃ f, f = frm s := ⟨_, rfl⟩
  rw [← hfd] at HF hfb HG2
  simp only [← hfd] at hadd
  obtain ⟨t, ht⟩ : ∃ t, t = l ++ f := ⟨_, rfl⟩
  rw [← ht] at HG2
  simp only [← ht] at hadd
  have HT := Lib.hid (ht.trans (by rw [hfd]) : t = l ++ frm s)
  clear ht hfd
  have hn := heap_alloc_new w (.cells #[.string k, .string l] 30)
  have hbx := below1 (w.alloc (.cells #[.string k, .string l] 30)) (.cells #[.string ⟨#[]⟩, .string ⟨#[]⟩] 30)
  have c0 : ((w.alloc (.cells #[.string k, .string l] 30)).alloc (.cells #[.string ⟨#[]⟩, .string ⟨#[]⟩] 30)).cell? ⟨w.heap.size, 0, none⟩ = some (.string k) := (hbx.cell (p := ⟨w.heap.size, 0, none⟩) (by simp)).trans (cell_of_row _ _ 0 _ 30 (0, 0) hn)
  have c1 : ((w.alloc (.cells #[.string k, .string l] 30)).alloc (.cells #[.string ⟨#[]⟩, .string ⟨#[]⟩] 30)).cell? ⟨w.heap.size, 1, none⟩ = some (.string l) := (hbx.cell (p := ⟨w.heap.size, 1, none⟩) (by simp)).trans (cell_of_row _ _ 1 _ 30 (0, 0) hn)
  have kr0 := heap_alloc_new (w.alloc (.cells #[.string k, .string l] 30)) (.cells #[.string ⟨#[]⟩, .string ⟨#[]⟩] 30)
  rw [World.size_alloc] at kr0
  have hw0 := below2 w (.cells #[.string k, .string l] 30) (.cells #[.string ⟨#[]⟩, .string ⟨#[]⟩] 30)
  have HW0 := Lib.hid hw0
  clear hn hbx hw0
  go_enter Try.func23, Try.ntmps23
  go_upto_region 1 with fail
  have hsz : ((w.alloc (.cells #[.string k, .string l] 30)).alloc (.cells #[.string ⟨#[]⟩, .string ⟨#[]⟩] 30)).heap.size = w.heap.size + 2 := by simp
  obtain ⟨W0, hW0⟩ : ∃ W0, W0 = ((w.alloc (.cells #[.string k, .string l] 30)).alloc (.cells #[.string ⟨#[]⟩, .string ⟨#[]⟩] 30)) := ⟨_, rfl⟩
  rw [← hW0] at HW0 c0 c1 hsz kr0 ⊢
  have KR0 := Lib.hid kr0
  clear kr0
  have HSZ := Lib.hid hsz
  have hl1 : w.heap.size + 1 < W0.heap.size := by omega
  have hl0 : w.heap.size < W0.heap.size := by omega
  clear hW0 hsz
  go_cut [6] (fun s6 wx => ∃ g : Nat, s6 = .pointer (some ⟨g, 0, none⟩) ∧ wx.heap[g]? = some (.cells #[.string k, .string t] 30 (0, 0)) ∧ Below W0.heap.size W0 wx)
  case first =>
    go_region_law (go_simp; go_at_call 50; (with_reducible refine (HF.out _).mono ?_); rintro e w2 ⟨rfl, hb2⟩; (first | (have hb3 : Below (W0.drew.alloc (.cells #[.string ⟨#[]⟩, .string ⟨#[]⟩] 30)).heap.size (W0.drew.alloc (.cells #[.string ⟨#[]⟩, .string ⟨#[]⟩] 30)) w2 := hb2; have kb : w2.heap[W0.heap.size]? = some (.cells #[.string ⟨#[]⟩, .string ⟨#[]⟩] 30 (0, 0)) := (hb3.block W0.heap.size (by rw [World.size_alloc]; exact Nat.lt_succ_self W0.heap.size)).trans (heap_alloc_new W0.drew _); have HB := Lib.hid (show Below W0.heap.size W0 w2 from (show Below W0.heap.size W0 (W0.drew.alloc (.cells #[.string ⟨#[]⟩, .string ⟨#[]⟩] 30)) from ((Below.refl W0.heap.size W0).drew).alloc (Nat.le_refl _) _).trans (hb3.mono (by rw [World.size_alloc]; exact Nat.le_succ W0.heap.size))); have y0 := cell_of_row _ _ 0 _ 30 (0, 0) kb; have y1 := cell_of_row _ _ 1 _ 30 (0, 0) kb; have yf : ∀ i, w2.frozen? ⟨W0.heap.size, i, none⟩ = false := (fun i => by simp [World.frozen?, kb])) | (have hb3 : Below W0.drew.heap.size W0.drew w2 := hb2; have HB := Lib.hid (show Below W0.heap.size W0 w2 from ⟨hb3.os, hb3.tape, hb3.output, hb3.size, hb3.block⟩))); have z0 : w2.cell? ⟨w.heap.size, 0, none⟩ = some (.string k) := (HB.out.cell (p := ⟨w.heap.size, 0, none⟩) (show w.heap.size < W0.heap.size by rw [HSZ.out]; omega)).trans c0; have z1 : w2.cell? ⟨w.heap.size, 1, none⟩ = some (.string l) := (HB.out.cell (p := ⟨w.heap.size, 1, none⟩) (show w.heap.size < W0.heap.size by rw [HSZ.out]; omega)).trans c1; have hlt1 : w.heap.size + 1 < w2.heap.size := (by have h1 := HB.out.size; have h2 := HSZ.out; omega); have hlt0 : w.heap.size < w2.heap.size := Nat.lt_of_succ_lt hlt1)
    all_goals (go_wp2_with fail; go_meet; first | exact ⟨_, rfl, heap_alloc_new _ _, HB.out.alloc HB.out.size _⟩ | exact ⟨_, rfl, set_two kb, (HB.out.setCell (p := ⟨W0.heap.size, 0, none⟩) (Nat.le_refl _) _).setCell (p := ⟨W0.heap.size, 1, none⟩) (Nat.le_refl _) _⟩)
  case rest =>
    obtain ⟨g, rfl, hg, hbw⟩ := hcut
    have HBW := Lib.hid (HW0.out.trans (hbw.mono HW0.out.size))
    have hz := hbw.size
    have z0 : wc.cell? ⟨w.heap.size, 0, none⟩ = some (.string k) := (hbw.cell (p := ⟨w.heap.size, 0, none⟩) hl0).trans c0
    have z1 : wc.cell? ⟨w.heap.size, 1, none⟩ = some (.string l) := (hbw.cell (p := ⟨w.heap.size, 1, none⟩) hl0).trans c1
    have hgl : g < wc.heap.size := (Array.getElem?_eq_some_iff.1 hg).1
    clear c0 c1
    cases hg1 : goodB k l with
    | false =>
      rw [hg1] at HG
      have HA := Lib.hid (writeA_no (k := k) (l := l) (s := s) (by rw [hg1]; simp))
      clear hg1
      go_wp2_with fail
      refine (HG.out _).mono ?_
      rintro e w3 ⟨rfl, hb3⟩
      have kr := (hb3.block (w.heap.size + 1) (by omega)).trans ((hbw.block (w.heap.size + 1) hl1).trans KR0.out)
      have x0 := cell_of_row _ _ 0 _ 30 (0, 0) kr
      have x1 := cell_of_row _ _ 1 _ 30 (0, 0) kr
      have xf : ∀ i, w3.frozen? ⟨w.heap.size + 1, i, none⟩ = false := (fun i => by simp [World.frozen?, kr])
      have B1 := Lib.hid (HBW.out.trans (hb3.mono HBW.out.size))
      clear hb3 kr HBW
      go_wp2
      exact bodyPost_ret (v := .tuple #[.agg #[.string ⟨#[]⟩, .string ⟨#[]⟩], .bool false]) (by simp [results, Try.results23, go_sem, x0, x1, xf]) rfl ⟨by rw [HA.out]; rfl, (B1.out.setCell (p := ⟨w.heap.size + 1, 0, none⟩) (by simp) _).setCell (p := ⟨w.heap.size + 1, 1, none⟩) (by simp) _⟩
    | true =>
      rw [hg1] at HG
      by_cases h7 : s.size ≤ 700
      · cases hg2 : goodB k t with
        | false =>
          rw [hg2] at HG2
          have HA := Lib.hid (writeA_no (k := k) (l := l) (s := s) (by rw [← HT.out, hg2]; simp))
          clear hg1 hg2
          go_wp2_with fail
          refine (HG.out _).mono ?_
          rintro e w3 ⟨rfl, hb3⟩
          have g0 : w3.cell? ⟨g, 0, none⟩ = some (.string k) := (hb3.cell (p := ⟨g, 0, none⟩) hgl).trans (cell_of_row _ _ 0 _ 30 (0, 0) hg)
          have g1 : w3.cell? ⟨g, 1, none⟩ = some (.string t) := (hb3.cell (p := ⟨g, 1, none⟩) hgl).trans (cell_of_row _ _ 1 _ 30 (0, 0) hg)
          go_wp2_with fail
          refine (HG2.out _).mono ?_
          rintro e w4 ⟨rfl, hb4⟩
          have hb5 := hb3.trans (hb4.mono hb3.size)
          clear hb3 hb4 g0 g1
          have g0 : w4.cell? ⟨g, 0, none⟩ = some (.string k) := (hb5.cell (p := ⟨g, 0, none⟩) hgl).trans (cell_of_row _ _ 0 _ 30 (0, 0) hg)
          have g1 : w4.cell? ⟨g, 1, none⟩ = some (.string t) := (hb5.cell (p := ⟨g, 1, none⟩) hgl).trans (cell_of_row _ _ 1 _ 30 (0, 0) hg)
          have kr := (hb5.block (w.heap.size + 1) (by omega)).trans ((hbw.block (w.heap.size + 1) hl1).trans KR0.out)
          have x0 := cell_of_row _ _ 0 _ 30 (0, 0) kr
          have x1 := cell_of_row _ _ 1 _ 30 (0, 0) kr
          have xf : ∀ i, w4.frozen? ⟨w.heap.size + 1, i, none⟩ = false := (fun i => by simp [World.frozen?, kr])
          have B1 := Lib.hid (HBW.out.trans (hb5.mono HBW.out.size))
          clear hb5 kr HBW
          go_wp2
          exact bodyPost_ret (v := .tuple #[.agg #[.string ⟨#[]⟩, .string ⟨#[]⟩], .bool false]) (by simp [results, Try.results23, go_sem, x0, x1, xf]) rfl ⟨by rw [HA.out]; rfl, (B1.out.setCell (p := ⟨w.heap.size + 1, 0, none⟩) (by simp) _).setCell (p := ⟨w.heap.size + 1, 1, none⟩) (by simp) _⟩
        | true =>
          rw [hg2] at HG2
          have HA := Lib.hid (show writeA k l s = (k, t, true) by rw [writeA_yes (k := k) (l := l) (s := s) hg1 h7 (by rw [← HT.out]; exact hg2), ← HT.out])
          clear hg1 hg2
          go_wp2_with fail
          refine (HG.out _).mono ?_
          rintro e w3 ⟨rfl, hb3⟩
          have g0 : w3.cell? ⟨g, 0, none⟩ = some (.string k) := (hb3.cell (p := ⟨g, 0, none⟩) hgl).trans (cell_of_row _ _ 0 _ 30 (0, 0) hg)
          have g1 : w3.cell? ⟨g, 1, none⟩ = some (.string t) := (hb3.cell (p := ⟨g, 1, none⟩) hgl).trans (cell_of_row _ _ 1 _ 30 (0, 0) hg)
          go_wp2_with fail
          refine (HG2.out _).mono ?_
          rintro e w4 ⟨rfl, hb4⟩
          have hb5 := hb3.trans (hb4.mono hb3.size)
          clear hb3 hb4 g0 g1
          have g0 : w4.cell? ⟨g, 0, none⟩ = some (.string k) := (hb5.cell (p := ⟨g, 0, none⟩) hgl).trans (cell_of_row _ _ 0 _ 30 (0, 0) hg)
          have g1 : w4.cell? ⟨g, 1, none⟩ = some (.string t) := (hb5.cell (p := ⟨g, 1, none⟩) hgl).trans (cell_of_row _ _ 1 _ 30 (0, 0) hg)
          have kr := (hb5.block (w.heap.size + 1) (by omega)).trans ((hbw.block (w.heap.size + 1) hl1).trans KR0.out)
          have x0 := cell_of_row _ _ 0 _ 30 (0, 0) kr
          have x1 := cell_of_row _ _ 1 _ 30 (0, 0) kr
          have xf : ∀ i, w4.frozen? ⟨w.heap.size + 1, i, none⟩ = false := (fun i => by simp [World.frozen?, kr])
          have B1 := Lib.hid (HBW.out.trans (hb5.mono HBW.out.size))
          clear hb5 kr HBW
          go_wp2
          exact bodyPost_ret (v := .tuple #[.agg #[.string k, .string t], .bool true]) (by simp [results, Try.results23, go_sem, x0, x1, xf]) rfl ⟨by rw [HA.out]; rfl, (B1.out.setCell (p := ⟨w.heap.size + 1, 0, none⟩) (by simp) _).setCell (p := ⟨w.heap.size + 1, 1, none⟩) (by simp) _⟩
      · have HA := Lib.hid (writeA_no (k := k) (l := l) (s := s) (fun h => h7 h.2.1))
        clear hg1
        go_wp2_with fail
        refine (HG.out _).mono ?_
        rintro e w3 ⟨rfl, hb3⟩
        have kr := (hb3.block (w.heap.size + 1) (by omega)).trans ((hbw.block (w.heap.size + 1) hl1).trans KR0.out)
        have x0 := cell_of_row _ _ 0 _ 30 (0, 0) kr
        have x1 := cell_of_row _ _ 1 _ 30 (0, 0) kr
        have xf : ∀ i, w3.frozen? ⟨w.heap.size + 1, i, none⟩ = false := (fun i => by simp [World.frozen?, kr])
        have B1 := Lib.hid (HBW.out.trans (hb3.mono HBW.out.size))
        clear hb3 kr HBW
        go_wp2
        exact bodyPost_ret (v := .tuple #[.agg #[.string ⟨#[]⟩, .string ⟨#[]⟩], .bool false]) (by simp [results, Try.results23, go_sem, x0, x1, xf]) rfl ⟨by rw [HA.out]; rfl, (B1.out.setCell (p := ⟨w.heap.size + 1, 0, none⟩) (by simp) _).setCell (p := ⟨w.heap.size + 1, 1, none⟩) (by simp) _⟩
end Go.Proofs.Ytcjejbnogghkcaa.Dk
