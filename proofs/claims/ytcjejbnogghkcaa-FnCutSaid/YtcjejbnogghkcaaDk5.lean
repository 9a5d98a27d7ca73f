/-
  Contracts for FallDisk of program and model: the closures that keep the first bytes and tear the last of them.
-/
import Derived.Test.YtcjejbnogghkcaaDk8
namespace Go.Proofs.Ytcjejbnogghkcaa.Dk
open Go.RowKit C1
set_option linter.unusedVariables false
set_option linter.unusedSimpArgs false

/-- The first n bytes, the last of them turned over if it is torn. -/
def fallL (l : List UInt8) (n : Nat) (torn : Bool) : List UInt8 := if torn = true ∧ 0 < n then (l.take n).set (n - 1) (255 - (l.take n).getD (n - 1) 0) else l.take n
theorem fallL_len (l : List UInt8) (n : Nat) (torn : Bool) (h : n ≤ l.length) : (fallL l n torn).length = n := by
  unfold fallL
  split <;> simp <;> omega
theorem inv_int (b : UInt8) : (((255 - b : UInt8)).toNat : Int) = 255 - (b.toNat : Int) := by
  have h := b.toNat_lt
  rw [UInt8.toNat_sub]
  have : (255 : UInt8).toNat = 255 := rfl
  omega
def fallA (k l : ByteArray) (n : Int) (torn : Bool) : ByteArray × ByteArray × Bool := if goodB k l = true ∧ 0 ≤ n ∧ n ≤ (l.size : Int) then (k ++ ⟨(fallL l.data.toList n.toNat torn).toArray⟩, ⟨#[]⟩, true) else noD
theorem fallA_no {k l : ByteArray} {n : Int} {torn : Bool} (h : ¬ (goodB k l = true ∧ 0 ≤ n ∧ n ≤ (l.size : Int))) : fallA k l n torn = noD := if_neg h
theorem fallA_yes {k l : ByteArray} {n : Nat} {torn : Bool} (h : goodB k l = true) (h1 : n ≤ l.size) : fallA k l n torn = (k ++ ⟨(fallL l.data.toList n torn).toArray⟩, ⟨#[]⟩, true) := if_pos ⟨h, by omega, by omega⟩

theorem keepFirst_any (n : Int) (w : World) :
    Calls Try.prog 55 #[.int .i64 n] w fun e w' => e = .returned (.func (.func 74) #[] #[.pointer (some ⟨w.heap.size, 0, none⟩)]) ∧ w' = w.alloc (.cells #[.int .i64 n] 3) := by
  have hmf : ∀ (fn : Fn) (first cap : Array Value) (w : World), (Instr.makeFunc fn first cap).run Try.prog w = .ok (.func fn first cap) w := fun _ _ _ _ => rfl
  go_enter Try.func55, Try.ntmps55
  go_wp2
  go_ret
  exact ⟨rfl, rfl⟩
theorem tearLast_any (v : Value) (w : World) (hv : ∃ f a b, v = .func f a b) :
    Calls Try.prog 56 #[v] w fun e w' => e = .returned (.func (.func 75) #[] #[.pointer (some ⟨w.heap.size, 0, none⟩)]) ∧ w' = w.alloc (.cells #[v] 70) := by
  have hmf : ∀ (fn : Fn) (first cap : Array Value) (w : World), (Instr.makeFunc fn first cap).run Try.prog w = .ok (.func fn first cap) w := fun _ _ _ _ => rfl
  obtain ⟨f, a, b, rfl⟩ := hv
  go_enter Try.func56, Try.ntmps56
  go_wp2
  go_ret
  exact ⟨rfl, rfl⟩

theorem keepIn_any (A : Addr) (m c n : Nat) (g : Nat) (w : World) (hn : n ≤ m) (hc : m ≤ c) (hm : m ≤ 1048576) (h0 : w.cell? ⟨g, 0, none⟩ = some (.int .i64 (n : Int))) :
    Calls Try.prog 74 #[.slice (some A) m c, .pointer (some ⟨g, 0, none⟩)] w fun e w' => e = .returned (.slice (some A) n c) ∧ w = w' := by
  have i0 : (0 : Int) ≤ (n : Int) := by omega
  have i1 : (n : Int) ≤ (c : Int) := by omega
  have i2 : n ≤ c := by omega
  go_enter Try.func74, Try.ntmps74
  go_wp2
  go_ret
  exact ⟨rfl, rfl⟩

/-- The bytes of a string, in a block of their own; the first n of them read back, also after the last of those was turned over. -/
theorem SRow.conv_take {W : World} {g cap : Nat} {s : ByteArray} (h : SRow W g s cap) (n : Nat) (hn : n ≤ s.data.toList.length) :
    (convert 22 9 (.slice (some ⟨g, 0, none⟩) n cap)).run Try.prog W = .ok (.string ⟨(s.data.toList.take n).toArray⟩) W := by
  have hl : (s.data.toList.take n).length = n := by rw [List.length_take]; omega
  have := run_convert_bytes_back W 22 9 5 ⟨g, 0, none⟩ cap (s.data.toList.take n) Try.underlying22 Try.underlying5 Try.underlying9 (fun j hj => by
    have hj' : j < n := by rw [hl] at hj; exact hj
    have h1 := h.byte j (by omega)
    rw [List.getElem_take]
    have hadd : (⟨g, 0, none⟩ : Addr).add j = ⟨g, j, none⟩ := by unfold Addr.add; split <;> simp_all
    rw [hadd]
    exact h1)
  rw [hl] at this
  exact this
theorem SRow.conv_tear {W : World} {g cap : Nat} {s : ByteArray} (h : SRow W g s cap) (n : Nat) (hn : n + 1 ≤ s.data.toList.length) :
    (convert 22 9 (.slice (some ⟨g, 0, none⟩) (n + 1) cap)).run Try.prog (W.setCell ⟨g, n, none⟩ (.int .u8 (255 - (s.data.toList[n].toNat : Int)))) = .ok (.string ⟨(fallL s.data.toList (n + 1) true).toArray⟩) (W.setCell ⟨g, n, none⟩ (.int .u8 (255 - (s.data.toList[n].toNat : Int)))) := by
  have hl := fallL_len s.data.toList (n + 1) true hn
  have hcell := (SRow.at_ h n (by have := h.1; rw [data_len] at hn; omega)).1
  have := run_convert_bytes_back (W.setCell ⟨g, n, none⟩ (.int .u8 (255 - (s.data.toList[n].toNat : Int)))) 22 9 5 ⟨g, 0, none⟩ cap (fallL s.data.toList (n + 1) true) Try.underlying22 Try.underlying5 Try.underlying9 (fun j hj => by
    have hj' : j < n + 1 := by rw [hl] at hj; exact hj
    have hadd : (⟨g, 0, none⟩ : Addr).add j = ⟨g, j, none⟩ := by unfold Addr.add; split <;> simp_all
    rw [hadd]
    by_cases hjn : j = n
    · subst hjn
      rw [World.cell?_setCell_same' _ _ _ hcell]
      unfold fallL
      simp only [true_and, Nat.zero_lt_succ, if_true, Nat.add_sub_cancel]
      rw [List.getElem_set_self, inv_int, List.getD, List.getElem?_take, if_pos (Nat.lt_succ_self _), List.getElem?_eq_getElem (by omega)]
      rfl
    · rw [World.cell?_setCell_other _ _ _ _ (by intro e; injection e with _ e; exact hjn e.symm)]
      have h1 := h.byte j (by omega)
      unfold fallL
      simp only [true_and, Nat.zero_lt_succ, if_true, Nat.add_sub_cancel]
      rw [List.getElem_set_ne (by omega), List.getElem_take]
      exact h1)
  rw [hl] at this
  exact this

theorem tearIn_some (s : ByteArray) (gb cap n : Nat) (gc gn : Nat) (w : World) (hs : s.size ≤ 1048576) (hn : n + 1 ≤ s.size) (hR : SRow w gb s cap)
    (h0 : w.cell? ⟨gc, 0, none⟩ = some (.func (.func 74) #[] #[.pointer (some ⟨gn, 0, none⟩)])) (h1 : w.cell? ⟨gn, 0, none⟩ = some (.int .i64 ((n + 1 : Nat) : Int))) :
    Calls Try.prog 75 #[.slice (some ⟨gb, 0, none⟩) s.size cap, .pointer (some ⟨gc, 0, none⟩)] w fun e w' => e = .returned (.slice (some ⟨gb, 0, none⟩) (n + 1) cap) ∧ w' = w.setCell ⟨gb, n, none⟩ (.int .u8 (255 - ((s.data.toList[n]'(by rw [data_len]; omega)).toNat : Int))) := by
  have HK := Lib.hid (keepIn_any ⟨gb, 0, none⟩ s.size cap (n + 1) gn w hn hR.1 hs h1)
  have hb := hR.byte n (by rw [data_len]; omega)
  obtain ⟨_, hfz⟩ := hR.at_ n (by have := hR.1; omega)
  obtain ⟨x, hx⟩ : ∃ x, x = s.data.toList[n]'(by rw [data_len]; omega) := ⟨_, rfl⟩
  rw [← hx] at hb ⊢
  have hx8 : (x.toNat : Int) ≤ 255 := by have := x.toNat_lt; omega
  have i0 : (0 : Int) ≤ (n : Int) := by omega
  clear h1 hx hR
  go_enter Try.func75, Try.ntmps75
  go_wp2_with fail
  refine HK.out.mono ?_
  rintro e w1 ⟨rfl, rfl⟩
  go_wp2
  go_ret
  exact ⟨rfl, rfl⟩
theorem tearIn_none (s : ByteArray) (gb cap n : Nat) (gc gn : Nat) (w : World) (hn0 : n = 0) (hs : s.size ≤ 1048576) (hR : SRow w gb s cap)
    (h0 : w.cell? ⟨gc, 0, none⟩ = some (.func (.func 74) #[] #[.pointer (some ⟨gn, 0, none⟩)])) (h1 : w.cell? ⟨gn, 0, none⟩ = some (.int .i64 (n : Int))) :
    Calls Try.prog 75 #[.slice (some ⟨gb, 0, none⟩) s.size cap, .pointer (some ⟨gc, 0, none⟩)] w fun e w' => e = .returned (.slice (some ⟨gb, 0, none⟩) n cap) ∧ w = w' := by
  subst hn0
  have HK := Lib.hid (keepIn_any ⟨gb, 0, none⟩ s.size cap 0 gn w (Nat.zero_le _) hR.1 hs h1)
  clear h1 hR
  go_enter Try.func75, Try.ntmps75
  go_wp2_with fail
  refine HK.out.mono ?_
  rintro e w1 ⟨rfl, rfl⟩
  go_wp2
  go_ret
  exact ⟨rfl, rfl⟩

set_option maxRecDepth 100000 in
set_option maxHeartbeats 2000000 in
theorem implFall_no (k l : ByteArray) (n : Int) (torn : Bool) (w : World) (hk : k.size ≤ 1048576) (hl : l.size ≤ 1048576) (h : ¬ (goodB k l = true ∧ 0 ≤ n ∧ n ≤ (l.size : Int))) :
    Calls Try.prog 26 #[.agg #[.string k, .string l], .int .i64 n, .bool torn] w fun e w' => e = DAns (fallA k l n torn) ∧ Below w.heap.size w w' := by
  have HG := Lib.hid (fun W => implGood_any k l W (few_of hk) (few_of hl))
  rw [fallA_no h]
  have H := Lib.hid h
  clear h
  cases hg : goodB k l with
  | false =>
    rw [hg] at HG
    clear hg H
    go_enter Try.func26, Try.ntmps26
    go_wp2_with fail
    refine (HG.out _).mono ?_
    rintro e w1 ⟨rfl, hb1⟩
    have B1 := Lib.hid ((below2 _ _ _).trans (hb1.mono (below2 _ _ _).size))
    obtain ⟨hc, hf⟩ := bcell hb1
    have hz : w.heap.size + 1 < w1.heap.size := by have := hb1.size; simp at this; omega
    clear hb1
    go_wp2
    exact bodyPost_ret (v := .tuple #[.agg #[.string ⟨#[]⟩, .string ⟨#[]⟩], .bool false]) (by simp [results, Try.results26, go_sem, hc, hf, hz]) rfl ⟨rfl, (B1.out.setCell (p := ⟨w.heap.size + 1, 0, none⟩) (by simp) _).setCell (p := ⟨w.heap.size + 1, 1, none⟩) (by simp) _⟩
  | true =>
    rw [hg] at HG
    by_cases h0 : 0 ≤ n
    · have h1 : (l.size : Int) < n := by
        rcases Int.lt_or_le (l.size : Int) n with h | h
        · exact h
        · exact absurd ⟨hg, h0, h⟩ H.out
      clear hg H
      go_enter Try.func26, Try.ntmps26
      go_wp2_with fail
      refine (HG.out _).mono ?_
      rintro e w1 ⟨rfl, hb1⟩
      have B1 := Lib.hid ((below2 _ _ _).trans (hb1.mono (below2 _ _ _).size))
      obtain ⟨hc, hf⟩ := bcell hb1
      have hz : w.heap.size + 1 < w1.heap.size := by have := hb1.size; simp at this; omega
      clear hb1
      go_wp2
      exact bodyPost_ret (v := .tuple #[.agg #[.string ⟨#[]⟩, .string ⟨#[]⟩], .bool false]) (by simp [results, Try.results26, go_sem, hc, hf, hz]) rfl ⟨rfl, (B1.out.setCell (p := ⟨w.heap.size + 1, 0, none⟩) (by simp) _).setCell (p := ⟨w.heap.size + 1, 1, none⟩) (by simp) _⟩
    · have h1 : n < 0 := by omega
      clear hg H h0
      go_enter Try.func26, Try.ntmps26
      go_wp2_with fail
      refine (HG.out _).mono ?_
      rintro e w1 ⟨rfl, hb1⟩
      have B1 := Lib.hid ((below2 _ _ _).trans (hb1.mono (below2 _ _ _).size))
      obtain ⟨hc, hf⟩ := bcell hb1
      have hz : w.heap.size + 1 < w1.heap.size := by have := hb1.size; simp at this; omega
      clear hb1
      go_wp2
      exact bodyPost_ret (v := .tuple #[.agg #[.string ⟨#[]⟩, .string ⟨#[]⟩], .bool false]) (by simp [results, Try.results26, go_sem, hc, hf, hz]) rfl ⟨rfl, (B1.out.setCell (p := ⟨w.heap.size + 1, 0, none⟩) (by simp) _).setCell (p := ⟨w.heap.size + 1, 1, none⟩) (by simp) _⟩

set_option maxRecDepth 100000 in
set_option maxHeartbeats 4000000 in
theorem implFall_keep (k l : ByteArray) (n : Nat) (w : World) (hg : goodB k l = true) (hn : n ≤ l.size) :
    Calls Try.prog 26 #[.agg #[.string k, .string l], .int .i64 (n : Int), .bool false] w fun e w' => e = DAns (fallA k l n false) ∧ Below w.heap.size w w' := by
  have hsz := goodB_le hg
  have HG := Lib.hid (fun W => implGood_any k l W (by unfold Few; omega) (by unfold Few; omega))
  rw [hg] at HG
  rw [fallA_yes hg hn]
  have hfl := fallL_len l.data.toList n false (by rw [data_len]; exact hn)
  obtain ⟨t, ht⟩ : ∃ t : ByteArray, t = ⟨(fallL l.data.toList n false).toArray⟩ := ⟨_, rfl⟩
  have hts : t.size = n := by rw [ht, size_of_list]; exact hfl
  have htt : t = ⟨(l.data.toList.take n).toArray⟩ := by rw [ht]; simp [fallL]
  rw [← ht]
  have hadd := fun (W : World) => run_string_add_sum (P := Try.prog) (w := W) k t (by omega)
  have HN := Lib.hid (fun W => newDisk_any (k ++ t) ⟨#[]⟩ W (by rw [ByteArray.size_append]; omega) (by decide))
  have HTT := Lib.hid htt
  have i0 : (0 : Int) ≤ (n : Int) := by omega
  have i1 : (n : Int) ≤ (l.size : Int) := by omega
  have i2 : l.size ≤ 1048576 := by omega
  clear hg hfl ht htt hts hsz
  go_enter Try.func26, Try.ntmps26
  go_wp2_with fail
  refine (HG.out _).mono ?_
  rintro e w1 ⟨rfl, hb1⟩
  have b1 := (below2 _ _ _).trans (hb1.mono (below2 _ _ _).size)
  obtain ⟨hc, hf⟩ := bcell hb1
  go_wp2_with fail
  refine (keepFirst_any _ _).mono ?_
  rintro e w2 ⟨rfl, hw2⟩
  have hb2 : Below w1.heap.size w1 w2 := by rw [hw2]; exact below1 _ _
  have hk2 : w2.heap[w1.heap.size]? = some (.cells #[.int .i64 (n : Int)] 3 (0, 0)) := by rw [hw2]; exact heap_alloc_new _ _
  have b2 := b1.trans (hb2.mono b1.size)
  have hb3 := hb1.trans (hb2.mono hb1.size)
  clear hc hf hw2
  obtain ⟨hc, hf⟩ := bcell hb3
  obtain ⟨cap, w3, hconv, hrow, hcap, hbel, hsz⟩ := conv_bytes l w2
  have hR3 : SRow w3 w2.heap.size l cap := ⟨hcap, hrow⟩
  have hk3 := cell_of_row _ _ 0 _ _ (0, 0) ((hbel.block _ (blk_lt hk2)).trans hk2)
  have HK := Lib.hid (keepIn_any ⟨w2.heap.size, 0, none⟩ l.size cap n w1.heap.size w3 hn hcap i2 hk3)
  have b3 := b2.trans (hbel.mono b2.size)
  have hb4 := hb3.trans (hbel.mono hb3.size)
  have HR3 := Lib.hid hR3
  clear hk3 hR3 hrow hsz hk2
  go_wp2_with fail
  refine HK.out.mono ?_
  rintro e w4 ⟨rfl, rfl⟩
  have hcv := SRow.conv_take HR3.out n (by rw [data_len]; exact hn)
  rw [← HTT.out] at hcv
  clear hc hf hconv
  obtain ⟨hc, hf⟩ := bcell hb4
  go_wp2_with fail
  refine (HN.out _).mono ?_
  rintro e w5 ⟨rfl, hb5⟩
  have B1 := Lib.hid (b3.trans (hb5.mono b3.size))
  have hb6 := hb4.trans (hb5.mono hb4.size)
  clear hc hf hcv
  obtain ⟨hc, hf⟩ := bcell hb6
  have hz : w.heap.size + 1 < w5.heap.size := by have := hb6.size; simp at this; omega
  clear hb1 hb2 hb3 hb4 hb5 hb6 b1 b2 b3 hbel
  go_wp2
  exact bodyPost_ret (v := .tuple #[.agg #[.string (k ++ t), .string ⟨#[]⟩], .bool true]) (by simp [results, Try.results26, go_sem, hc, hf, hz]) rfl ⟨rfl, (B1.out.setCell (p := ⟨w.heap.size + 1, 0, none⟩) (by simp) _).setCell (p := ⟨w.heap.size + 1, 1, none⟩) (by simp) _⟩
set_option maxRecDepth 100000 in
set_option maxHeartbeats 4000000 in
theorem implFall_zero (k l : ByteArray) (n : Nat) (w : World) (hn0 : n = 0) (hg : goodB k l = true) :
    Calls Try.prog 26 #[.agg #[.string k, .string l], .int .i64 (n : Int), .bool true] w fun e w' => e = DAns (fallA k l n true) ∧ Below w.heap.size w w' := by
  have hsz := goodB_le hg
  have hn : n ≤ l.size := by omega
  have HG := Lib.hid (fun W => implGood_any k l W (by unfold Few; omega) (by unfold Few; omega))
  rw [hg] at HG
  rw [fallA_yes hg hn]
  have hfl := fallL_len l.data.toList n true (by rw [data_len]; exact hn)
  obtain ⟨t, ht⟩ : ∃ t : ByteArray, t = ⟨(fallL l.data.toList n true).toArray⟩ := ⟨_, rfl⟩
  have hts : t.size = n := by rw [ht, size_of_list]; exact hfl
  have htt : t = ⟨(l.data.toList.take n).toArray⟩ := by rw [ht, hn0]; simp [fallL]
  rw [← ht]
  have hadd := fun (W : World) => run_string_add_sum (P := Try.prog) (w := W) k t (by omega)
  have HN := Lib.hid (fun W => newDisk_any (k ++ t) ⟨#[]⟩ W (by rw [ByteArray.size_append]; omega) (by decide))
  have HTT := Lib.hid htt
  have i0 : (0 : Int) ≤ (n : Int) := by omega
  have i1 : (n : Int) ≤ (l.size : Int) := by omega
  have i2 : l.size ≤ 1048576 := by omega
  have HN0 := Lib.hid hn0
  clear hn0 hg hfl ht htt hts hsz
  go_enter Try.func26, Try.ntmps26
  go_wp2_with fail
  refine (HG.out _).mono ?_
  rintro e w1 ⟨rfl, hb1⟩
  have b1 := (below2 _ _ _).trans (hb1.mono (below2 _ _ _).size)
  obtain ⟨hc, hf⟩ := bcell hb1
  go_wp2_with fail
  refine (keepFirst_any _ _).mono ?_
  rintro e w2 ⟨rfl, hw2⟩
  have hb2 : Below w1.heap.size w1 w2 := by rw [hw2]; exact below1 _ _
  have hk2 : w2.heap[w1.heap.size]? = some (.cells #[.int .i64 (n : Int)] 3 (0, 0)) := by rw [hw2]; exact heap_alloc_new _ _
  have b2 := b1.trans (hb2.mono b1.size)
  have hb3' := hb1.trans (hb2.mono hb1.size)
  clear hc hf hw2
  obtain ⟨hc, hf⟩ := bcell hb3'
  go_wp2_with fail
  refine (tearLast_any _ _ ⟨_, _, _, rfl⟩).mono ?_
  rintro e w2t ⟨rfl, hw2t⟩
  have hbt : Below w2.heap.size w2 w2t := by rw [hw2t]; exact below1 _ _
  have hkt : w2t.heap[w2.heap.size]? = some (.cells #[.func (.func 74) #[] #[.pointer (some ⟨w1.heap.size, 0, none⟩)]] 70 (0, 0)) := by rw [hw2t]; exact heap_alloc_new _ _
  have hk2t := (hbt.block _ (blk_lt hk2)).trans hk2
  have b2t := b2.trans (hbt.mono b2.size)
  have hb3 := hb3'.trans (hbt.mono hb3'.size)
  clear hc hf hw2t hk2
  obtain ⟨hc, hf⟩ := bcell hb3
  obtain ⟨cap, w3, hconv, hrow, hcap, hbel, hsz⟩ := conv_bytes l w2t
  have hR3 : SRow w3 w2t.heap.size l cap := ⟨hcap, hrow⟩
  have hk3 := cell_of_row _ _ 0 _ _ (0, 0) ((hbel.block _ (blk_lt hk2t)).trans hk2t)
  have hk4 := cell_of_row _ _ 0 _ _ (0, 0) ((hbel.block _ (blk_lt hkt)).trans hkt)
  have HK := Lib.hid (tearIn_none l w2t.heap.size cap n w2.heap.size w1.heap.size w3 HN0.out i2 hR3 hk4 hk3)
  have b3' := b2t.trans (hbel.mono b2t.size)
  have hb4' := hb3.trans (hbel.mono hb3.size)
  have HR3 := Lib.hid hR3
  clear hk3 hk4 hR3 hrow hsz hk2t hkt
  go_wp2_with fail
  refine HK.out.mono ?_
  rintro e w4 ⟨rfl, rfl⟩
  have b3 := b3'
  have hb4 := hb4'
  clear b3' hb4'
  have hcv := SRow.conv_take HR3.out n (by rw [data_len]; exact hn)
  rw [← HTT.out] at hcv
  clear hc hf hconv
  obtain ⟨hc, hf⟩ := bcell hb4
  go_wp2_with fail
  refine (HN.out _).mono ?_
  rintro e w5 ⟨rfl, hb5⟩
  have B1 := Lib.hid (b3.trans (hb5.mono b3.size))
  have hb6 := hb4.trans (hb5.mono hb4.size)
  clear hc hf hcv
  obtain ⟨hc, hf⟩ := bcell hb6
  have hz : w.heap.size + 1 < w5.heap.size := by have := hb6.size; simp at this; omega
  clear hb1 hb2 hb3 hb4 hb5 hb6 b1 b2 b3 hbel
  go_wp2
  exact bodyPost_ret (v := .tuple #[.agg #[.string (k ++ t), .string ⟨#[]⟩], .bool true]) (by simp [results, Try.results26, go_sem, hc, hf, hz]) rfl ⟨rfl, (B1.out.setCell (p := ⟨w.heap.size + 1, 0, none⟩) (by simp) _).setCell (p := ⟨w.heap.size + 1, 1, none⟩) (by simp) _⟩

set_option maxRecDepth 100000 in
set_option maxHeartbeats 4000000 in
theorem implFall_torn (k l : ByteArray) (p : Nat) (w : World) (hg : goodB k l = true) (hn : p + 1 ≤ l.size) :
    Calls Try.prog 26 #[.agg #[.string k, .string l], .int .i64 ((p + 1 : Nat) : Int), .bool true] w fun e w' => e = DAns (fallA k l ((p + 1 : Nat) : Int) true) ∧ Below w.heap.size w w' := by
  have hsz := goodB_le hg
  have HG := Lib.hid (fun W => implGood_any k l W (by unfold Few; omega) (by unfold Few; omega))
  rw [hg] at HG
  rw [fallA_yes hg hn]
  have hfl := fallL_len l.data.toList (p + 1) true (by rw [data_len]; exact hn)
  obtain ⟨t, ht⟩ : ∃ t : ByteArray, t = ⟨(fallL l.data.toList (p + 1) true).toArray⟩ := ⟨_, rfl⟩
  have hts : t.size = p + 1 := by rw [ht, size_of_list]; exact hfl
  have htt := ht
  rw [← ht]
  have hadd := fun (W : World) => run_string_add_sum (P := Try.prog) (w := W) k t (by omega)
  have HN := Lib.hid (fun W => newDisk_any (k ++ t) ⟨#[]⟩ W (by rw [ByteArray.size_append]; omega) (by decide))
  have HTT := Lib.hid htt
  have i0 : (0 : Int) ≤ ((p + 1 : Nat) : Int) := by omega
  have i1 : ((p + 1 : Nat) : Int) ≤ (l.size : Int) := by omega
  have i3 : p + 1 ≤ l.data.toList.length := by rw [data_len]; exact hn
  have I3 := Lib.hid i3
  clear i3
  have i2 : l.size ≤ 1048576 := by omega
  clear hg hfl ht htt hts hsz
  go_enter Try.func26, Try.ntmps26
  go_wp2_with fail
  refine (HG.out _).mono ?_
  rintro e w1 ⟨rfl, hb1⟩
  have b1 := (below2 _ _ _).trans (hb1.mono (below2 _ _ _).size)
  obtain ⟨hc, hf⟩ := bcell hb1
  go_wp2_with fail
  refine (keepFirst_any _ _).mono ?_
  rintro e w2 ⟨rfl, hw2⟩
  have hb2 : Below w1.heap.size w1 w2 := by rw [hw2]; exact below1 _ _
  have hk2 : w2.heap[w1.heap.size]? = some (.cells #[.int .i64 ((p + 1 : Nat) : Int)] 3 (0, 0)) := by rw [hw2]; exact heap_alloc_new _ _
  have b2 := b1.trans (hb2.mono b1.size)
  have hb3' := hb1.trans (hb2.mono hb1.size)
  clear hc hf hw2
  obtain ⟨hc, hf⟩ := bcell hb3'
  go_wp2_with fail
  refine (tearLast_any _ _ ⟨_, _, _, rfl⟩).mono ?_
  rintro e w2t ⟨rfl, hw2t⟩
  have hbt : Below w2.heap.size w2 w2t := by rw [hw2t]; exact below1 _ _
  have hkt : w2t.heap[w2.heap.size]? = some (.cells #[.func (.func 74) #[] #[.pointer (some ⟨w1.heap.size, 0, none⟩)]] 70 (0, 0)) := by rw [hw2t]; exact heap_alloc_new _ _
  have hk2t := (hbt.block _ (blk_lt hk2)).trans hk2
  have b2t := b2.trans (hbt.mono b2.size)
  have hb3 := hb3'.trans (hbt.mono hb3'.size)
  clear hc hf hw2t hk2
  obtain ⟨hc, hf⟩ := bcell hb3
  obtain ⟨cap, w3, hconv, hrow, hcap, hbel, hsz⟩ := conv_bytes l w2t
  have hR3 : SRow w3 w2t.heap.size l cap := ⟨hcap, hrow⟩
  have hk3 := cell_of_row _ _ 0 _ _ (0, 0) ((hbel.block _ (blk_lt hk2t)).trans hk2t)
  have hk4 := cell_of_row _ _ 0 _ _ (0, 0) ((hbel.block _ (blk_lt hkt)).trans hkt)
  have HK := Lib.hid (tearIn_some l w2t.heap.size cap p w2.heap.size w1.heap.size w3 i2 hn hR3 hk4 hk3)
  have b3' := b2t.trans (hbel.mono b2t.size)
  have hb4' := hb3.trans (hbel.mono hb3.size)
  have HR3 := Lib.hid hR3
  clear hk3 hk4 hR3 hrow hsz hk2t hkt
  go_wp2_with fail
  refine HK.out.mono ?_
  rintro e w4 ⟨rfl, hw4⟩
  have hsx : Below w3.heap.size w3 w3 := Below.refl _ _
  have hcv := SRow.conv_tear HR3.out p I3.out
  rw [← hw4] at hcv
  have b3 : Below w.heap.size w w4 := by rw [hw4]; exact b3'.setCell (p := ⟨w2t.heap.size, p, none⟩) b2t.size _
  have hb4 := hb4'.setCell (p := ⟨w2t.heap.size, p, none⟩) hb3.size (.int .u8 (255 - ((l.data.toList[p]'(by have := I3.out; omega)).toNat : Int)))
  rw [← hw4] at hb4
  clear hw4 b3' hb4' hsx
  rw [← HTT.out] at hcv
  clear hc hf hconv
  obtain ⟨hc, hf⟩ := bcell hb4
  go_wp2_with fail
  refine (HN.out _).mono ?_
  rintro e w5 ⟨rfl, hb5⟩
  have B1 := Lib.hid (b3.trans (hb5.mono b3.size))
  have hb6 := hb4.trans (hb5.mono hb4.size)
  clear hc hf hcv
  obtain ⟨hc, hf⟩ := bcell hb6
  have hz : w.heap.size + 1 < w5.heap.size := by have := hb6.size; simp at this; omega
  clear hb1 hb2 hb3 hb4 hb5 hb6 b1 b2 b3 hbel
  go_wp2
  exact bodyPost_ret (v := .tuple #[.agg #[.string (k ++ t), .string ⟨#[]⟩], .bool true]) (by simp [results, Try.results26, go_sem, hc, hf, hz]) rfl ⟨rfl, (B1.out.setCell (p := ⟨w.heap.size + 1, 0, none⟩) (by simp) _).setCell (p := ⟨w.heap.size + 1, 1, none⟩) (by simp) _⟩
end Go.Proofs.Ytcjejbnogghkcaa.Dk
