/-
  The contract of the model's CutDisk.
-/
import Derived.Test.YtcjejbnogghkcaaDk8
import Derived.Deep.RegionLaw
namespace Go.Proofs.Ytcjejbnogghkcaa.Dk
open Go.RowKit C1
set_option linter.unusedVariables false
set_option linter.unusedSimpArgs false

/-- The first bytes of k, up to where the first n frames end, are those frames' bytes. -/
theorem cut_bytes (k : ByteArray) (n : Nat) (h : n ≤ (frs k k.size 0).1.length) : k.extract 0 (frs k n 0).2 = ⟨(frmL ((frs k k.size 0).1.take n)).toArray⟩ := by
  apply ByteArray.ext
  apply Array.ext'
  rw [ext_list]
  have := frs_bytes (b := k) n 0 (Nat.zero_le _)
  simp only [List.drop_zero, Nat.sub_zero] at this ⊢
  rw [this, frs_take k.size 0 n h]
def catF (L : List ByteArray) (i : Nat) : ByteArray := ⟨(frmL (L.take i)).toArray⟩
theorem catF_zero (L : List ByteArray) : catF L 0 = ⟨#[]⟩ := by simp [catF, frmL]
theorem catF_step (L : List ByteArray) (i : Nat) (h : i < L.length) : catF L (i + 1) = catF L i ++ frm L[i] := by
  unfold catF
  rw [List.take_succ_eq_append_getElem h, frmL_app]
  apply ByteArray.ext
  apply Array.ext'
  simp [frmL]
theorem catF_size (k : ByteArray) (n i : Nat) (hi : i ≤ n) (h : n ≤ (frs k k.size 0).1.length) : (catF (frs k k.size 0).1 i).size ≤ k.size := by
  have h1 := cut_bytes k i (by omega)
  have h2 := congrArg ByteArray.size h1
  rw [ByteArray.size_extract] at h2
  have := (frs_zero k i).1
  unfold catF
  omega
theorem strs_cell {w : World} {base c : Nat} {A : Option Addr} {L : List ByteArray} (h : w.ownsRow base 9 1 (.slice A L.length c) L.length (S9 L)) (i : Nat) (hi : i < L.length) : ∃ g, A = some ⟨g, 0, none⟩ ∧ base ≤ g ∧ g < w.heap.size ∧ w.cell? ⟨g, i, none⟩ = some (.string L[i]) := by
  obtain ⟨g, cap, e, h1, h2⟩ := h.form (by omega)
  injection e with e1 e2 e3
  subst e1 e3
  have h3 := (h.lt g rfl)
  have h4 := h.cellAt i (by omega)
  refine ⟨g, rfl, h3.1, h3.2, ?_⟩
  rw [h4]
  simp [S9, List.getElem?_eq_getElem hi]

theorem set_fst {w : World} {g : Nat} {x y a : Value} {T : TypeId} (h : w.heap[g]? = some (.cells #[x, y] T (0, 0))) : (w.setCell ⟨g, 0, none⟩ a).heap[g]? = some (.cells #[a, y] T (0, 0)) := by
  simp [World.setCell, Array.getElem?_modify, h]
/-- What the loop of the model's CutDisk keeps. -/
def CRel (W : World) (g : Nat) (L : List ByteArray) (n : Nat) (i : Value) (wr : World) : Prop :=
  ∃ j : Nat, j ≤ n ∧ i = .int .i64 (j : Int) ∧ wr.heap[g]? = some (.cells #[.string (catF L j), .string ⟨#[]⟩] 30 (0, 0)) ∧ Two W wr g g

set_option maxRecDepth 100000 in
set_option maxHeartbeats 4000000 in
theorem specCut_yes (k : ByteArray) (n : Nat) (w : World) (hk : k.size ≤ 1048576) (hg : goodB k ⟨#[]⟩ = true) (hn : n ≤ (frs k k.size 0).1.length) :
    Calls Try.prog 35 #[.agg #[.string k, .string ⟨#[]⟩], .int .i64 (n : Int)] w fun e w' => e = DAns (k.extract 0 (frs k n 0).2, ⟨#[]⟩, true) ∧ Below w.heap.size w w' := by
  have HG := Lib.hid (fun W => specGood_any k ⟨#[]⟩ W (few_of hk) (by unfold Few; decide))
  rw [hg] at HG
  have HO := Lib.hid (fun W => l6Frames_any k W hk)
  have HC := Lib.hid (cut_bytes k n hn)
  have HSZ := Lib.hid (fun i (hi : i ≤ n) => catF_size k n i hi hn)
  have HS7 := Lib.hid (frs_sizes (b := k) k.size 0 (Nat.zero_le _))
  have hln := (frs_zero k k.size).2
  have hI := fun W => l1In_yes (n : Int) 0 ((frs k k.size 0).1.length : Int) W (by omega) (by omega)
  rcases hfr : frs k k.size 0 with ⟨L, y⟩
  rw [hfr] at HO HC HSZ HS7 hn hln hI
  unfold LEnd at HO
  simp only at HO HC HSZ HS7 hn hln hI
  have HI := Lib.hid hI
  clear hg hfr hI
  go_enter Try.func35, Try.ntmps35
  go_wp2_with fail
  refine (HG.out _).mono ?_
  rintro e w1 ⟨rfl, hb1⟩
  have b1 := (below2 _ _ _).trans (hb1.mono (below2 _ _ _).size)
  obtain ⟨hc, hf⟩ := bcell hb1
  go_wp2_with fail
  refine (HO.out _).mono ?_
  rintro e w2 ⟨A, c, rfl, ho, hb2⟩
  have b2 := b1.trans (hb2.mono b1.size)
  have hb3 := hb1.trans (hb2.mono hb1.size)
  have b2s := b1.size
  clear hc hf
  obtain ⟨hc, hf⟩ := bcell hb3
  go_wp2_with fail
  refine (HI.out _).mono ?_
  rintro e w3 ⟨rfl, rfl⟩
  go_wp2_with fail
  have kr1 := (hb3.block (w.heap.size + 1) (by simp)).trans (show ((w.alloc (.cells #[.string k, .string ⟨#[]⟩] 30)).alloc (.cells #[.string ⟨#[]⟩, .string ⟨#[]⟩] 30)).heap[w.heap.size + 1]? = some (.cells #[.string ⟨#[]⟩, .string ⟨#[]⟩] 30 (0, 0)) from by have := heap_alloc_new (w.alloc (.cells #[.string k, .string ⟨#[]⟩] 30)) (.cells #[.string ⟨#[]⟩, .string ⟨#[]⟩] 30); rwa [World.size_alloc] at this)
  have hl1 : w.heap.size + 1 < w2.heap.size := blk_lt kr1
  have HGN := Lib.hid (heap_alloc_new w2 (.cells #[.string ⟨#[]⟩, .string ⟨#[]⟩] 30))
  have HKR := Lib.hid ((Below.heap_alloc w2 (.cells #[.string ⟨#[]⟩, .string ⟨#[]⟩] 30) _ hl1).trans kr1)
  have HRW := Lib.hid (ho.alloc (.cells #[.string ⟨#[]⟩, .string ⟨#[]⟩] 30))
  have HBW := Lib.hid (b2.alloc b2.size (.cells #[.string ⟨#[]⟩, .string ⟨#[]⟩] 30))
  have HGA := Lib.hid (fun g (h : (Value.slice A L.length c).ownBlock = some g) => (ho.lt g h).2)
  have hszW : (w2.alloc (.cells #[.string ⟨#[]⟩, .string ⟨#[]⟩] 30)).heap.size = w2.heap.size + 1 := by simp
  obtain ⟨W0, hW0⟩ : ∃ W0, W0 = w2.alloc (.cells #[.string ⟨#[]⟩, .string ⟨#[]⟩] 30) := ⟨_, rfl⟩
  rw [← hW0] at HGN HKR HRW HBW hszW ⊢
  obtain ⟨g, hgd⟩ : ∃ g, g = w2.heap.size := ⟨_, rfl⟩
  rw [← hgd] at HGN HGA hl1 hszW ⊢
  have HSW := Lib.hid hszW
  clear hW0 hgd hc hf hb1 hb2 hb3 b1 b2 b2s ho kr1 hszW
  go_loopw [9] (fun i wr => CRel W0 g L n i wr) (fun i _ => n - (intOf i).toNat)
  case atStart => exact ⟨0, Nat.zero_le _, rfl, by rw [catF_zero]; exact HGN.out, Two.refl _ _ _⟩
  case round =>
    obtain ⟨j, hj, rfl, hkg, hT⟩ := hrel
    by_cases hlt : j < n
    · have hlt' : (j : Int) < (n : Int) := by omega
      have hjL : j < L.length := by omega
      obtain ⟨ga, rfl, ga1, ga2, ga3⟩ := strs_cell HRW.out j hjL
      have hga := HGA.out ga rfl
      have hke : wr.heap[ga]? = W0.heap[ga]? := hT.2.2.2.2 ga ga2 (by omega) (by omega)
      have d0 : wr.cell? ⟨ga, j, none⟩ = some (.string L[j]) := by
        rw [← ga3]; simp only [World.cell?, hke]
      obtain ⟨s, hs⟩ : ∃ s, s = L[j] := ⟨_, rfl⟩
      rw [← hs] at d0
      have hs7 : s.size ≤ 700 := by rw [hs]; exact HS7.out _ (List.getElem_mem hjL)
      have HF := Lib.hid (fun W => l6Frame_any s W (by omega))
      have hst := catF_step L j hjL
      rw [← hs] at hst
      have hsj := HSZ.out j (by omega)
      have hsj1 := HSZ.out (j + 1) (by omega)
      have hfb := (frm_bound s).2
      have hadd := fun (W : World) => run_string_add_sum (P := Try.prog) (w := W) (catF L j) (frm s) (by omega)
      obtain ⟨t, ht⟩ : ∃ t, t = catF L (j + 1) := ⟨_, rfl⟩
      obtain ⟨u, hu⟩ : ∃ u, u = catF L j := ⟨_, rfl⟩
      obtain ⟨f, hf⟩ : ∃ f, f = frm s := ⟨_, rfl⟩
      rw [← ht, ← hu, ← hf] at hst
      rw [← hf] at HF
      simp only [← hu, ← hf, ← hst] at hadd
      rw [← hu] at hkg
      have HTD := Lib.hid ht
      have HKG := Lib.hid hkg
      have HT := Lib.hid hT
      have c0 := cell_of_row _ _ 0 _ _ (0, 0) hkg
      simp only [List.getElem?_toArray, List.getElem?_cons_zero] at c0
      have lgr := blk_lt hkg
      have lga : ga < wr.heap.size := Nat.lt_of_lt_of_le ga2 hT.2.2.2.1
      clear hst hs ht hu hf hkg hT hke ga3 hsj hsj1 hfb hs7
      go_wp2_with fail
      go_region_law (go_simp; go_at_call 50; (with_reducible refine (HF.out _).mono ?_); rintro e w5 ⟨rfl, hb5⟩; have hb6 : Below wr.heap.size wr w5 := ⟨hb5.os, hb5.tape, hb5.output, hb5.size, hb5.block⟩; have m0 := (hb6.block g lgr).trans HKG.out; have x0 : w5.cell? ⟨g, 0, none⟩ = some (.string u) := cell_of_row _ _ 0 _ _ (0, 0) m0; have xf := free_row m0 0; have HM := Lib.hid m0; have HB6 := Lib.hid hb6; clear m0 hb6)
      all_goals (
        have HN1 := Lib.hid (show (w5.setCell ⟨g, 0, none⟩ (.string t)).heap[g]? = some (.cells #[.string (catF L (j + 1)), .string ⟨#[]⟩] 30 (0, 0)) from by rw [← HTD.out]; exact set_fst HM.out)
        have HN2 := Lib.hid ((HT.out.belowR HB6.out).set (p := ⟨g, 0, none⟩) (.inl rfl) (.string t))
        clear hb5
        go_wp2
        go_roundw
        case rel => exact ⟨j + 1, by omega, by go_num, HN1.out, HN2.out⟩
        case measure => simp [intOf]; omega)
    · have hjn : j = n := by omega
      subst hjn
      have c0 := cell_of_row _ _ 0 _ _ (0, 0) hkg
      have c1 := cell_of_row _ _ 1 _ _ (0, 0) hkg
      simp only [List.getElem?_toArray, List.getElem?_cons_zero, List.getElem?_cons_succ] at c0 c1
      have kr := (hT.2.2.2.2 (w.heap.size + 1) (by have := HSW.out; omega) (by omega) (by omega)).trans HKR.out
      have x0 := cell_of_row _ _ 0 _ _ (0, 0) kr
      have x1 := cell_of_row _ _ 1 _ _ (0, 0) kr
      simp only [List.getElem?_toArray, List.getElem?_cons_zero, List.getElem?_cons_succ] at x0 x1
      have xf := free_row kr
      have hsg := HBW.out.size
      have hsx := HSW.out
      have B1 := Lib.hid (HBW.out.trans (hT.below (B := W0.heap.size - 1) (by omega) (by omega) (by omega) |>.mono (by omega)))
      have hCat : k.extract 0 (frs k j 0).2 = catF L j := HC.out
      obtain ⟨t, ht⟩ : ∃ t, t = catF L j := ⟨_, rfl⟩
      have HA := Lib.hid (hCat.trans ht.symm)
      rw [← ht] at c0
      clear hkg hT kr ht hCat hlt hsg hsx
      go_wp2
      exact bodyPost_ret (v := .tuple #[.agg #[.string t, .string ⟨#[]⟩], .bool true]) (by simp [results, Try.results35, go_sem, x0, x1, xf]) rfl ⟨by rw [HA.out]; rfl, (B1.out.setCell (p := ⟨w.heap.size + 1, 0, none⟩) (by simp) _).setCell (p := ⟨w.heap.size + 1, 1, none⟩) (by simp) _⟩

set_option maxRecDepth 100000 in
set_option maxHeartbeats 2000000 in
theorem specCut_any (k l : ByteArray) (n : Int) (w : World) (hk : k.size ≤ 1048576) (hl : l.size ≤ 1048576) :
    Calls Try.prog 35 #[.agg #[.string k, .string l], .int .i64 n] w fun e w' => e = DAns (cutA k l n) ∧ Below w.heap.size w w' := by
  have HG := Lib.hid (fun W => specGood_any k l W (few_of hk) (few_of hl))
  cases hg : goodB k l with
  | false =>
    rw [hg] at HG
    rw [cutA_no (k := k) (l := l) (n := n) (by rw [hg]; simp)]
    clear hg
    go_enter Try.func35, Try.ntmps35
    go_wp2_with fail
    refine (HG.out _).mono ?_
    rintro e w1 ⟨rfl, hb1⟩
    have B1 := Lib.hid ((below2 _ _ _).trans (hb1.mono (below2 _ _ _).size))
    obtain ⟨hc, hf⟩ := bcell hb1
    have hz : w.heap.size + 1 < w1.heap.size := by have := hb1.size; simp at this; omega
    clear hb1
    go_wp2
    exact bodyPost_ret (v := .tuple #[.agg #[.string ⟨#[]⟩, .string ⟨#[]⟩], .bool false]) (by simp [results, Try.results35, go_sem, hc, hf, hz]) rfl ⟨rfl, (B1.out.setCell (p := ⟨w.heap.size + 1, 0, none⟩) (by simp) _).setCell (p := ⟨w.heap.size + 1, 1, none⟩) (by simp) _⟩
  | true =>
    by_cases h0 : l.size = 0
    · have hl0 := nil_of h0
      subst hl0
      by_cases hin : 0 ≤ n ∧ n ≤ ((frs k k.size 0).1.length : Int)
      · obtain ⟨m, rfl⟩ : ∃ m : Nat, n = m := ⟨n.toNat, by omega⟩
        rw [cutA_yes hg rfl (by omega)]
        exact specCut_yes k m w hk hg (by omega)
      · rw [hg] at HG
        rw [cutA_no (k := k) (n := n) (fun h => hin ⟨h.2.2.1, h.2.2.2⟩)]
        have HO := Lib.hid (fun W => l6Frames_any k W hk)
        have hI := fun W => l1In_no n 0 ((frs k k.size 0).1.length : Int) W (by omega)
        rcases hfr : frs k k.size 0 with ⟨L, y⟩
        rw [hfr] at HO hI
        unfold LEnd at HO
        simp only at HO hI
        have HI := Lib.hid hI
        clear hg hfr hI hin h0
        go_enter Try.func35, Try.ntmps35
        go_wp2_with fail
        refine (HG.out _).mono ?_
        rintro e w1 ⟨rfl, hb1⟩
        have b1 := (below2 _ _ _).trans (hb1.mono (below2 _ _ _).size)
        obtain ⟨hc, hf⟩ := bcell hb1
        go_wp2_with fail
        refine (HO.out _).mono ?_
        rintro e w2 ⟨A, c, rfl, ho, hb2⟩
        have B1 := Lib.hid (b1.trans (hb2.mono b1.size))
        have hb3 := hb1.trans (hb2.mono hb1.size)
        clear hc hf ho
        obtain ⟨hc, hf⟩ := bcell hb3
        have hz : w.heap.size + 1 < w2.heap.size := by have := hb3.size; simp at this; omega
        clear hb1 hb2 hb3 b1
        go_wp2_with fail
        refine (HI.out _).mono ?_
        rintro e w3 ⟨rfl, rfl⟩
        go_wp2
        exact bodyPost_ret (v := .tuple #[.agg #[.string ⟨#[]⟩, .string ⟨#[]⟩], .bool false]) (by simp [results, Try.results35, go_sem, hc, hf, hz]) rfl ⟨rfl, (B1.out.setCell (p := ⟨w.heap.size + 1, 0, none⟩) (by simp) _).setCell (p := ⟨w.heap.size + 1, 1, none⟩) (by simp) _⟩
    · rw [hg] at HG
      rw [cutA_no (k := k) (l := l) (n := n) (fun h => h0 h.2.1)]
      have hne := ne_nil h0
      clear hg h0
      go_enter Try.func35, Try.ntmps35
      go_wp2_with fail
      refine (HG.out _).mono ?_
      rintro e w1 ⟨rfl, hb1⟩
      have B1 := Lib.hid ((below2 _ _ _).trans (hb1.mono (below2 _ _ _).size))
      obtain ⟨hc, hf⟩ := bcell hb1
      have hz : w.heap.size + 1 < w1.heap.size := by have := hb1.size; simp at this; omega
      clear hb1
      go_wp2
      exact bodyPost_ret (v := .tuple #[.agg #[.string ⟨#[]⟩, .string ⟨#[]⟩], .bool false]) (by simp [results, Try.results35, go_sem, hc, hf, hz]) rfl ⟨rfl, (B1.out.setCell (p := ⟨w.heap.size + 1, 0, none⟩) (by simp) _).setCell (p := ⟨w.heap.size + 1, 1, none⟩) (by simp) _⟩
end Go.Proofs.Ytcjejbnogghkcaa.Dk
