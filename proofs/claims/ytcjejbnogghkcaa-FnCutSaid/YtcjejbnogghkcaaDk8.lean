/-
  Contracts for FramesOn and MendDisk, of the program and of the model.
-/
import Derived.Test.YtcjejbnogghkcaaDk7
import Derived.Test.YtcjejbnogghkcaaDk2
namespace Go.Proofs.Ytcjejbnogghkcaa.Dk
open Go.RowKit C1
set_option linter.unusedVariables false
set_option linter.unusedSimpArgs false

/-- Frames, the offset behind them and whether there are any, as an answer. -/
def OEnd (r : List ByteArray × Nat × Bool) (w : World) (e : Ending) (w' : World) : Prop :=
  ∃ (A : Option Addr) (c : Nat), e = .returned (.tuple #[.slice A r.1.length c, .int .i64 (r.2.1 : Int), .bool r.2.2]) ∧ w'.ownsRow w.heap.size 9 1 (.slice A r.1.length c) r.1.length (S9 r.1) ∧ Below w.heap.size w w'
def onA (k l : ByteArray) : List ByteArray × Nat × Bool := if goodB k l = true then ((frs (k ++ l) (k ++ l).size 0).1, (frs (k ++ l) (k ++ l).size 0).2, true) else ([], 0, false)
theorem onA_yes {k l : ByteArray} (h : goodB k l = true) : onA k l = ((frs (k ++ l) (k ++ l).size 0).1, (frs (k ++ l) (k ++ l).size 0).2, true) := if_pos h
theorem onA_no {k l : ByteArray} (h : goodB k l = false) : onA k l = ([], 0, false) := if_neg (by rw [h]; simp)

set_option maxRecDepth 100000 in
set_option maxHeartbeats 1000000 in
theorem implOn_any (k l : ByteArray) (w : World) (hk : k.size ≤ 1048576) (hl : l.size ≤ 1048576) :
    Calls Try.prog 27 #[.agg #[.string k, .string l]] w (OEnd (onA k l) w) := by
  have HG := Lib.hid (fun W => implGood_any k l W (few_of hk) (few_of hl))
  have hadd := fun (W : World) => run_string_add_sum (P := Try.prog) (w := W) k l (by omega)
  cases hg : goodB k l with
  | false =>
    rw [hg] at HG
    rw [onA_no hg]
    clear hg
    go_enter Try.func27, Try.ntmps27
    go_wp2_with fail
    refine (HG.out _).mono ?_
    rintro e w1 ⟨rfl, hb1⟩
    have B1 := Lib.hid ((below1 _ _).trans (hb1.mono (below1 _ _).size))
    clear hb1
    go_wp2
    go_ret3
    exact ⟨none, 0, rfl, World.ownsRow_nil _ _ _ _, B1.out⟩
  | true =>
    rw [hg] at HG
    have hsz := goodB_le hg
    rw [onA_yes hg]
    obtain ⟨t, ht⟩ : ∃ t, t = k ++ l := ⟨_, rfl⟩
    simp only [← ht] at hadd ⊢
    have hts : t.size ≤ 50000 := by rw [ht, ByteArray.size_append]; omega
    have HF := Lib.hid (fun W => framesIn_any t t.size W (by omega) (by omega))
    clear hg ht
    go_enter Try.func27, Try.ntmps27
    go_wp2_with fail
    refine (HG.out _).mono ?_
    rintro e w1 ⟨rfl, hb1⟩
    have B1 := (below1 _ _).trans (hb1.mono (below1 _ _).size)
    obtain ⟨hc, hf⟩ := bcell hb1
    go_wp2_with fail
    refine (HF.out _).mono ?_
    rintro e w2 ⟨A, c, rfl, ho, hb2⟩
    have B2 := Lib.hid (B1.trans (hb2.mono B1.size))
    have HO := Lib.hid (row_mono (lo' := w.heap.size) ho B1.size)
    clear hc hf hb1 hb2 B1 ho
    go_wp2
    go_ret3
    exact ⟨A, c, rfl, HO.out, B2.out⟩

set_option maxRecDepth 100000 in
set_option maxHeartbeats 1000000 in
theorem specOn_any (k l : ByteArray) (w : World) (hk : k.size ≤ 1048576) (hl : l.size ≤ 1048576) :
    Calls Try.prog 32 #[.agg #[.string k, .string l]] w (OEnd (onA k l) w) := by
  have HG := Lib.hid (fun W => specGood_any k l W (few_of hk) (few_of hl))
  have hadd := fun (W : World) => run_string_add_sum (P := Try.prog) (w := W) k l (by omega)
  cases hg : goodB k l with
  | false =>
    rw [hg] at HG
    rw [onA_no hg]
    clear hg
    go_enter Try.func32, Try.ntmps32
    go_wp2_with fail
    refine (HG.out _).mono ?_
    rintro e w1 ⟨rfl, hb1⟩
    have b1 := (below1 _ _).trans (hb1.mono (below1 _ _).size)
    have B1 := Lib.hid b1
    have HO := Lib.hid (World.ownsRow_lit (base := w.heap.size) (e := 9) (size := 1) w1 #[] 0 b1.size (by unfold maxLen; omega) rfl)
    clear hb1 b1
    go_wp2
    go_ret3
    exact ⟨_, 0, rfl, HO.out, B1.out.alloc B1.out.size _⟩
  | true =>
    rw [hg] at HG
    have hsz := goodB_le hg
    rw [onA_yes hg]
    obtain ⟨t, ht⟩ : ∃ t, t = k ++ l := ⟨_, rfl⟩
    simp only [← ht] at hadd ⊢
    have hts : t.size ≤ 50000 := by rw [ht, ByteArray.size_append]; omega
    have HF := Lib.hid (fun W => l6Frames_any t W (by omega))
    clear hg ht
    go_enter Try.func32, Try.ntmps32
    go_wp2_with fail
    refine (HG.out _).mono ?_
    rintro e w1 ⟨rfl, hb1⟩
    have B1 := (below1 _ _).trans (hb1.mono (below1 _ _).size)
    obtain ⟨hc, hf⟩ := bcell hb1
    go_wp2_with fail
    refine (HF.out _).mono ?_
    rintro e w2 ⟨A, c, rfl, ho, hb2⟩
    have B2 := Lib.hid (B1.trans (hb2.mono B1.size))
    have HO := Lib.hid (row_mono (lo' := w.heap.size) ho B1.size)
    clear hc hf hb1 hb2 B1 ho
    go_wp2
    go_ret3
    exact ⟨A, c, rfl, HO.out, B2.out⟩

def mendA (k l : ByteArray) : ByteArray × ByteArray × Bool := if goodB k l = true ∧ l.size = 0 then (k.extract 0 (frs k k.size 0).2, ⟨#[]⟩, true) else noD
theorem mendA_no {k l : ByteArray} (h : ¬ (goodB k l = true ∧ l.size = 0)) : mendA k l = noD := if_neg h
theorem mendA_yes {k l : ByteArray} (h : goodB k l = true) (h0 : l.size = 0) : mendA k l = (k.extract 0 (frs k k.size 0).2, ⟨#[]⟩, true) := if_pos ⟨h, h0⟩
theorem nil_of {l : ByteArray} (h : l.size = 0) : l = ⟨#[]⟩ := by
  apply ByteArray.ext
  exact Array.eq_empty_of_size_eq_zero h
theorem add_nil (k : ByteArray) : k ++ (⟨#[]⟩ : ByteArray) = k := by
  apply ByteArray.ext
  apply Array.ext'
  simp
theorem frs_zero (k : ByteArray) (f : Nat) : (frs k f 0).2 ≤ k.size ∧ (frs k f 0).1.length ≤ k.size := by
  have := frs_end (b := k) f 0 (Nat.zero_le _)
  omega

set_option maxRecDepth 100000 in
set_option maxHeartbeats 2000000 in
theorem implMend_any (k l : ByteArray) (w : World) (hk : k.size ≤ 1048576) (hl : l.size ≤ 1048576) :
    Calls Try.prog 30 #[.agg #[.string k, .string l]] w fun e w' => e = DAns (mendA k l) ∧ Below w.heap.size w w' := by
  have HO := Lib.hid (fun W => implOn_any k l W hk hl)
  cases hg : goodB k l with
  | false =>
    rw [onA_no hg] at HO
    rw [mendA_no (k := k) (l := l) (by rw [hg]; simp)]
    clear hg
    go_enter Try.func30, Try.ntmps30
    go_wp2_with fail
    refine (HO.out _).mono ?_
    rintro e w1 ⟨A, c, rfl, ho, hb1⟩
    have B1 := Lib.hid ((below2 _ _ _).trans (hb1.mono (below2 _ _ _).size))
    obtain ⟨hc, hf⟩ := bcell hb1
    have hz : w.heap.size + 1 < w1.heap.size := by have := hb1.size; simp at this; omega
    clear hb1 ho
    go_wp2
    exact bodyPost_ret (v := .tuple #[.agg #[.string ⟨#[]⟩, .string ⟨#[]⟩], .bool false]) (by simp [results, Try.results30, go_sem, hc, hf, hz]) rfl ⟨rfl, (B1.out.setCell (p := ⟨w.heap.size + 1, 0, none⟩) (by simp) _).setCell (p := ⟨w.heap.size + 1, 1, none⟩) (by simp) _⟩
  | true =>
    by_cases h0 : l.size = 0
    · have hl0 := nil_of h0
      subst hl0
      rw [mendA_yes hg rfl]
      rw [onA_yes hg, add_nil] at HO
      obtain ⟨hy, hn⟩ := frs_zero k k.size
      rcases hfr : frs k k.size 0 with ⟨L, y⟩
      rw [hfr] at HO hy hn
      simp only at HO hy hn ⊢
      have HN := Lib.hid (fun W => newDisk_any (k.extract 0 y) ⟨#[]⟩ W (by rw [ByteArray.size_extract]; omega) (by decide))
      have hy' : (y : Int) ≤ (k.size : Int) := by omega
      clear hg h0 hfr hl
      go_enter Try.func30, Try.ntmps30
      go_wp2_with fail
      refine (HO.out _).mono ?_
      rintro e w1 ⟨A, c, rfl, ho, hb1⟩
      have b1 := (below2 _ _ _).trans (hb1.mono (below2 _ _ _).size)
      obtain ⟨hc, hf⟩ := bcell hb1
      go_wp2_with fail
      refine (HN.out _).mono ?_
      rintro e w2 ⟨rfl, hb2⟩
      have B1 := Lib.hid (b1.trans (hb2.mono b1.size))
      have hb3 := hb1.trans (hb2.mono hb1.size)
      clear hc hf
      obtain ⟨hc, hf⟩ := bcell hb3
      have hz : w.heap.size + 1 < w2.heap.size := by have := hb3.size; simp at this; omega
      clear hb1 hb2 hb3 b1 ho
      go_wp2
      exact bodyPost_ret (v := .tuple #[.agg #[.string (k.extract 0 y), .string ⟨#[]⟩], .bool true]) (by simp [results, Try.results30, go_sem, hc, hf, hz]) rfl ⟨rfl, (B1.out.setCell (p := ⟨w.heap.size + 1, 0, none⟩) (by simp) _).setCell (p := ⟨w.heap.size + 1, 1, none⟩) (by simp) _⟩
    · rw [mendA_no (k := k) (l := l) (fun h => h0 h.2)]
      rw [onA_yes hg] at HO
      have hne : (l.toList == []) = false := by
        rw [beq_eq_false_iff_ne, ByteArray.toList_eq]
        intro e
        have := congrArg List.length e
        rw [data_len] at this
        exact h0 this
      clear hg h0
      go_enter Try.func30, Try.ntmps30
      go_wp2_with fail
      refine (HO.out _).mono ?_
      rintro e w1 ⟨A, c, rfl, ho, hb1⟩
      have B1 := Lib.hid ((below2 _ _ _).trans (hb1.mono (below2 _ _ _).size))
      obtain ⟨hc, hf⟩ := bcell hb1
      have hz : w.heap.size + 1 < w1.heap.size := by have := hb1.size; simp at this; omega
      clear hb1 ho
      go_wp2
      exact bodyPost_ret (v := .tuple #[.agg #[.string ⟨#[]⟩, .string ⟨#[]⟩], .bool false]) (by simp [results, Try.results30, go_sem, hc, hf, hz]) rfl ⟨rfl, (B1.out.setCell (p := ⟨w.heap.size + 1, 0, none⟩) (by simp) _).setCell (p := ⟨w.heap.size + 1, 1, none⟩) (by simp) _⟩

theorem ne_nil {l : ByteArray} (h : ¬ l.size = 0) : (l.toList == []) = false := by
  rw [beq_eq_false_iff_ne, ByteArray.toList_eq]
  intro e
  have := congrArg List.length e
  rw [data_len] at this
  exact h this
set_option maxRecDepth 100000 in
set_option maxHeartbeats 2000000 in
theorem specMend_any (k l : ByteArray) (w : World) (hk : k.size ≤ 1048576) (hl : l.size ≤ 1048576) :
    Calls Try.prog 31 #[.agg #[.string k, .string l]] w fun e w' => e = DAns (mendA k l) ∧ Below w.heap.size w w' := by
  have HG := Lib.hid (fun W => specGood_any k l W (few_of hk) (few_of hl))
  have HO := Lib.hid (fun W => l6Frames_any k W hk)
  cases hg : goodB k l with
  | false =>
    rw [hg] at HG
    rw [mendA_no (k := k) (l := l) (by rw [hg]; simp)]
    clear hg
    go_enter Try.func31, Try.ntmps31
    go_wp2_with fail
    refine (HG.out _).mono ?_
    rintro e w1 ⟨rfl, hb1⟩
    have B1 := Lib.hid ((below2 _ _ _).trans (hb1.mono (below2 _ _ _).size))
    obtain ⟨hc, hf⟩ := bcell hb1
    have hz : w.heap.size + 1 < w1.heap.size := by have := hb1.size; simp at this; omega
    clear hb1
    go_wp2
    exact bodyPost_ret (v := .tuple #[.agg #[.string ⟨#[]⟩, .string ⟨#[]⟩], .bool false]) (by simp [results, Try.results31, go_sem, hc, hf, hz]) rfl ⟨rfl, (B1.out.setCell (p := ⟨w.heap.size + 1, 0, none⟩) (by simp) _).setCell (p := ⟨w.heap.size + 1, 1, none⟩) (by simp) _⟩
  | true =>
    rw [hg] at HG
    by_cases h0 : l.size = 0
    · have hl0 := nil_of h0
      subst hl0
      rw [mendA_yes hg rfl]
      obtain ⟨hy, hn⟩ := frs_zero k k.size
      rcases hfr : frs k k.size 0 with ⟨L, y⟩
      rw [hfr] at HO hy hn
      unfold LEnd at HO
      simp only at HO hy hn ⊢
      have hy' : (y : Int) ≤ (k.size : Int) := by omega
      clear hg h0 hfr hl
      go_enter Try.func31, Try.ntmps31
      go_wp2_with fail
      refine (HG.out _).mono ?_
      rintro e w1 ⟨rfl, hb1⟩
      have b1 := (below2 _ _ _).trans (hb1.mono (below2 _ _ _).size)
      obtain ⟨hc, hf⟩ := bcell hb1
      go_wp2_with fail
      refine (HO.out _).mono ?_
      rintro e w2 ⟨A, c, rfl, ho, hb2⟩
      have B1 := Lib.hid (b1.trans (hb2.mono b1.size))
      have hb3 := hb1.trans (hb2.mono hb1.size)
      clear hc hf
      obtain ⟨hc, hf⟩ := bcell hb3
      have hz : w.heap.size + 1 < w2.heap.size := by have := hb3.size; simp at this; omega
      clear hb1 hb2 hb3 b1 ho
      go_wp2
      exact bodyPost_ret (v := .tuple #[.agg #[.string (k.extract 0 y), .string ⟨#[]⟩], .bool true]) (by simp [results, Try.results31, go_sem, hc, hf, hz]) rfl ⟨rfl, (B1.out.setCell (p := ⟨w.heap.size + 1, 0, none⟩) (by simp) _).setCell (p := ⟨w.heap.size + 1, 1, none⟩) (by simp) _⟩
    · rw [mendA_no (k := k) (l := l) (fun h => h0 h.2)]
      have hne := ne_nil h0
      clear hg h0
      go_enter Try.func31, Try.ntmps31
      go_wp2_with fail
      refine (HG.out _).mono ?_
      rintro e w1 ⟨rfl, hb1⟩
      have B1 := Lib.hid ((below2 _ _ _).trans (hb1.mono (below2 _ _ _).size))
      obtain ⟨hc, hf⟩ := bcell hb1
      have hz : w.heap.size + 1 < w1.heap.size := by have := hb1.size; simp at this; omega
      clear hb1
      go_wp2
      exact bodyPost_ret (v := .tuple #[.agg #[.string ⟨#[]⟩, .string ⟨#[]⟩], .bool false]) (by simp [results, Try.results31, go_sem, hc, hf, hz]) rfl ⟨rfl, (B1.out.setCell (p := ⟨w.heap.size + 1, 0, none⟩) (by simp) _).setCell (p := ⟨w.heap.size + 1, 1, none⟩) (by simp) _⟩

/-! CutDisk -/
def cutA (k l : ByteArray) (n : Int) : ByteArray × ByteArray × Bool := if goodB k l = true ∧ l.size = 0 ∧ 0 ≤ n ∧ n ≤ ((frs k k.size 0).1.length : Int) then (k.extract 0 (frs k n.toNat 0).2, ⟨#[]⟩, true) else noD
theorem cutA_no {k l : ByteArray} {n : Int} (h : ¬ (goodB k l = true ∧ l.size = 0 ∧ 0 ≤ n ∧ n ≤ ((frs k k.size 0).1.length : Int))) : cutA k l n = noD := if_neg h
theorem cutA_yes {k l : ByteArray} {n : Nat} (h : goodB k l = true) (h0 : l.size = 0) (h1 : n ≤ (frs k k.size 0).1.length) : cutA k l n = (k.extract 0 (frs k n 0).2, ⟨#[]⟩, true) := if_pos ⟨h, h0, by omega, by omega⟩
theorem frs_more {b : ByteArray} (f n q : Nat) (h : n ≤ f) : (frs b n q).1.length ≤ (frs b f q).1.length := by
  induction n generalizing f q with
  | zero => simp [frs]
  | succ n ih =>
    obtain ⟨f, rfl⟩ : ∃ f', f = f' + 1 := ⟨f - 1, by omega⟩
    cases e : fread b q with
    | none => rw [frs_none e, frs_none e]; exact Nat.le_refl _
    | some p =>
      obtain ⟨s, y⟩ := p
      rw [frs_some e, frs_some e]
      simp only [List.length_cons]
      have := ih f y (by omega)
      omega
/-- The first n frames are all n exactly where there are so many. -/
theorem frs_full (k : ByteArray) (n : Nat) : n ≤ (frs k n 0).1.length ↔ n ≤ (frs k k.size 0).1.length := by
  rcases Nat.le_total n k.size with h | h
  · constructor
    · intro h1; exact Nat.le_trans h1 (frs_more _ _ _ h)
    · intro h1
      rw [frs_take k.size 0 n h1, List.length_take]; omega
  · rw [(frs_enough n 0 k.size (Nat.zero_le _) (by omega) (by omega)).1]
set_option maxRecDepth 100000 in
set_option maxHeartbeats 2000000 in
theorem implCut_any (k l : ByteArray) (n : Int) (w : World) (hk : k.size ≤ 1048576) (hl : l.size ≤ 1048576) (hn : (Lit.int .i64 n).wf = true) :
    Calls Try.prog 34 #[.agg #[.string k, .string l], .int .i64 n] w fun e w' => e = DAns (cutA k l n) ∧ Below w.heap.size w w' := by
  have HG := Lib.hid (fun W => implGood_any k l W (few_of hk) (few_of hl))
  cases hg : goodB k l with
  | false =>
    rw [hg] at HG
    rw [cutA_no (k := k) (l := l) (n := n) (by rw [hg]; simp)]
    clear hg hn
    go_enter Try.func34, Try.ntmps34
    go_wp2_with fail
    refine (HG.out _).mono ?_
    rintro e w1 ⟨rfl, hb1⟩
    have B1 := Lib.hid ((below2 _ _ _).trans (hb1.mono (below2 _ _ _).size))
    obtain ⟨hc, hf⟩ := bcell hb1
    have hz : w.heap.size + 1 < w1.heap.size := by have := hb1.size; simp at this; omega
    clear hb1
    go_wp2
    exact bodyPost_ret (v := .tuple #[.agg #[.string ⟨#[]⟩, .string ⟨#[]⟩], .bool false]) (by simp [results, Try.results34, go_sem, hc, hf, hz]) rfl ⟨rfl, (B1.out.setCell (p := ⟨w.heap.size + 1, 0, none⟩) (by simp) _).setCell (p := ⟨w.heap.size + 1, 1, none⟩) (by simp) _⟩
  | true =>
    rw [hg] at HG
    by_cases h0 : l.size = 0
    · have hl0 := nil_of h0
      subst hl0
      by_cases hn0 : 0 ≤ n
      · obtain ⟨m, rfl⟩ : ∃ m : Nat, n = m := ⟨n.toNat, by omega⟩
        have hm : (m : Int) ≤ 9223372036854775807 := (bounds_i64 hn).2
        have HF := Lib.hid (fun W => framesIn_any k m W hk hm)
        obtain ⟨hy, hln⟩ := frs_zero k m
        have hfull := frs_full k m
        by_cases hcut : m ≤ (frs k k.size 0).1.length
        · rw [cutA_yes hg rfl hcut]
          have hlen := hfull.2 hcut
          rcases hfr : frs k m 0 with ⟨L, y⟩
          rw [hfr] at HF hy hln hlen
          unfold LEnd at HF
          simp only at HF hy hln hlen ⊢
          have HN := Lib.hid (fun W => newDisk_any (k.extract 0 y) ⟨#[]⟩ W (by rw [ByteArray.size_extract]; omega) (by decide))
          have hy' : (y : Int) ≤ (k.size : Int) := by omega
          have hl' : decide ((L.length : Int) < (m : Int)) = false := by simp; omega
          have hl'' : decide (L.length < m) = false := by simp; omega
          clear hg h0 hfr hl hfull hcut hlen hn
          go_enter Try.func34, Try.ntmps34
          go_wp2_with fail
          refine (HG.out _).mono ?_
          rintro e w1 ⟨rfl, hb1⟩
          have b1 := (below2 _ _ _).trans (hb1.mono (below2 _ _ _).size)
          obtain ⟨hc, hf⟩ := bcell hb1
          go_wp2_with fail
          refine (HF.out _).mono ?_
          rintro e w2 ⟨A, c, rfl, ho, hb2⟩
          have b2 := b1.trans (hb2.mono b1.size)
          have hb3 := hb1.trans (hb2.mono hb1.size)
          clear hc hf
          obtain ⟨hc, hf⟩ := bcell hb3
          go_wp2_with fail
          refine (HN.out _).mono ?_
          rintro e w3 ⟨rfl, hb4⟩
          have B1 := Lib.hid (b2.trans (hb4.mono b2.size))
          have hb5 := hb3.trans (hb4.mono hb3.size)
          clear hc hf
          obtain ⟨hc, hf⟩ := bcell hb5
          have hz : w.heap.size + 1 < w3.heap.size := by have := hb5.size; simp at this; omega
          clear hb1 hb2 hb3 hb4 hb5 b1 b2 ho
          go_wp2
          exact bodyPost_ret (v := .tuple #[.agg #[.string (k.extract 0 y), .string ⟨#[]⟩], .bool true]) (by simp [results, Try.results34, go_sem, hc, hf, hz]) rfl ⟨rfl, (B1.out.setCell (p := ⟨w.heap.size + 1, 0, none⟩) (by simp) _).setCell (p := ⟨w.heap.size + 1, 1, none⟩) (by simp) _⟩
        · rw [cutA_no (k := k) (n := (m : Int)) (fun h => hcut (by have := h.2.2.2; omega))]
          have hlen : ¬ m ≤ (frs k m 0).1.length := fun h => hcut (hfull.1 h)
          rcases hfr : frs k m 0 with ⟨L, y⟩
          rw [hfr] at HF hlen
          unfold LEnd at HF
          simp only at HF hlen ⊢
          have hl' : decide ((L.length : Int) < (m : Int)) = true := by simp; omega
          have hl'' : decide (L.length < m) = true := by simp; omega
          clear hg h0 hfr hl hfull hcut hlen hn hy hln
          go_enter Try.func34, Try.ntmps34
          go_wp2_with fail
          refine (HG.out _).mono ?_
          rintro e w1 ⟨rfl, hb1⟩
          have b1 := (below2 _ _ _).trans (hb1.mono (below2 _ _ _).size)
          obtain ⟨hc, hf⟩ := bcell hb1
          go_wp2_with fail
          refine (HF.out _).mono ?_
          rintro e w2 ⟨A, c, rfl, ho, hb2⟩
          have B1 := Lib.hid (b1.trans (hb2.mono b1.size))
          have hb3 := hb1.trans (hb2.mono hb1.size)
          clear hc hf
          obtain ⟨hc, hf⟩ := bcell hb3
          have hz : w.heap.size + 1 < w2.heap.size := by have := hb3.size; simp at this; omega
          clear hb1 hb2 hb3 b1 ho
          go_wp2
          exact bodyPost_ret (v := .tuple #[.agg #[.string ⟨#[]⟩, .string ⟨#[]⟩], .bool false]) (by simp [results, Try.results34, go_sem, hc, hf, hz]) rfl ⟨rfl, (B1.out.setCell (p := ⟨w.heap.size + 1, 0, none⟩) (by simp) _).setCell (p := ⟨w.heap.size + 1, 1, none⟩) (by simp) _⟩
      · rw [cutA_no (k := k) (n := n) (fun h => hn0 h.2.2.1)]
        have hn1 : n < 0 := by omega
        clear hg h0 hn hn0
        go_enter Try.func34, Try.ntmps34
        go_wp2_with fail
        refine (HG.out _).mono ?_
        rintro e w1 ⟨rfl, hb1⟩
        have B1 := Lib.hid ((below2 _ _ _).trans (hb1.mono (below2 _ _ _).size))
        obtain ⟨hc, hf⟩ := bcell hb1
        have hz : w.heap.size + 1 < w1.heap.size := by have := hb1.size; simp at this; omega
        clear hb1
        go_wp2
        exact bodyPost_ret (v := .tuple #[.agg #[.string ⟨#[]⟩, .string ⟨#[]⟩], .bool false]) (by simp [results, Try.results34, go_sem, hc, hf, hz]) rfl ⟨rfl, (B1.out.setCell (p := ⟨w.heap.size + 1, 0, none⟩) (by simp) _).setCell (p := ⟨w.heap.size + 1, 1, none⟩) (by simp) _⟩
    · rw [cutA_no (k := k) (l := l) (n := n) (fun h => h0 h.2.1)]
      have hne := ne_nil h0
      clear hg h0 hn
      go_enter Try.func34, Try.ntmps34
      go_wp2_with fail
      refine (HG.out _).mono ?_
      rintro e w1 ⟨rfl, hb1⟩
      have B1 := Lib.hid ((below2 _ _ _).trans (hb1.mono (below2 _ _ _).size))
      obtain ⟨hc, hf⟩ := bcell hb1
      have hz : w.heap.size + 1 < w1.heap.size := by have := hb1.size; simp at this; omega
      clear hb1
      go_wp2
      exact bodyPost_ret (v := .tuple #[.agg #[.string ⟨#[]⟩, .string ⟨#[]⟩], .bool false]) (by simp [results, Try.results34, go_sem, hc, hf, hz]) rfl ⟨rfl, (B1.out.setCell (p := ⟨w.heap.size + 1, 0, none⟩) (by simp) _).setCell (p := ⟨w.heap.size + 1, 1, none⟩) (by simp) _⟩
end Go.Proofs.Ytcjejbnogghkcaa.Dk
