/-
  The contract of the model's FallDisk.
-/
import Derived.Test.YtcjejbnogghkcaaDk5
namespace Go.Proofs.Ytcjejbnogghkcaa.Dk
open Go.RowKit C1
set_option linter.unusedVariables false
set_option linter.unusedSimpArgs false

theorem fallL_take (l : List UInt8) (n : Nat) (torn : Bool) : fallL (l.take n) n torn = fallL l n torn := by
  unfold fallL
  rw [List.take_take, Nat.min_self]
theorem ext_size {l : ByteArray} {n : Nat} (h : n ≤ l.size) : (l.extract 0 n).size = n := by rw [ByteArray.size_extract]; omega

set_option maxRecDepth 100000 in
set_option maxHeartbeats 2000000 in
theorem specFall_no (k l : ByteArray) (n : Int) (torn : Bool) (w : World) (hk : k.size ≤ 1048576) (hl : l.size ≤ 1048576) (h : ¬ (goodB k l = true ∧ 0 ≤ n ∧ n ≤ (l.size : Int))) :
    Calls Try.prog 43 #[.agg #[.string k, .string l], .int .i64 n, .bool torn] w fun e w' => e = DAns (fallA k l n torn) ∧ Below w.heap.size w w' := by
  have HG := Lib.hid (fun W => specGood_any k l W (few_of hk) (few_of hl))
  rw [fallA_no h]
  cases hg : goodB k l with
  | false =>
    rw [hg] at HG
    clear hg h
    go_enter Try.func43, Try.ntmps43
    go_wp2_with fail
    refine (HG.out _).mono ?_
    rintro e w1 ⟨rfl, hb1⟩
    have B1 := Lib.hid ((below2 _ _ _).trans (hb1.mono (below2 _ _ _).size))
    obtain ⟨hc, hf⟩ := bcell hb1
    have hz : w.heap.size + 1 < w1.heap.size := by have := hb1.size; simp at this; omega
    clear hb1
    go_wp2
    exact bodyPost_ret (v := .tuple #[.agg #[.string ⟨#[]⟩, .string ⟨#[]⟩], .bool false]) (by simp [results, Try.results43, go_sem, hc, hf, hz]) rfl ⟨rfl, (B1.out.setCell (p := ⟨w.heap.size + 1, 0, none⟩) (by simp) _).setCell (p := ⟨w.heap.size + 1, 1, none⟩) (by simp) _⟩
  | true =>
    have HI := Lib.hid (fun W => l1In_no n 0 (l.size : Int) W (by
      rcases Int.lt_or_le n 0 with h0 | h0
      · exact .inl h0
      · rcases Int.lt_or_le (l.size : Int) n with h1 | h1
        · exact .inr h1
        · exact absurd ⟨hg, h0, h1⟩ h))
    rw [hg] at HG
    clear hg h
    go_enter Try.func43, Try.ntmps43
    go_wp2_with fail
    refine (HG.out _).mono ?_
    rintro e w1 ⟨rfl, hb1⟩
    have B1 := Lib.hid ((below2 _ _ _).trans (hb1.mono (below2 _ _ _).size))
    obtain ⟨hc, hf⟩ := bcell hb1
    have hz : w.heap.size + 1 < w1.heap.size := by have := hb1.size; simp at this; omega
    clear hb1
    go_wp2_with fail
    refine (HI.out _).mono ?_
    rintro e w2 ⟨rfl, rfl⟩
    go_wp2
    exact bodyPost_ret (v := .tuple #[.agg #[.string ⟨#[]⟩, .string ⟨#[]⟩], .bool false]) (by simp [results, Try.results43, go_sem, hc, hf, hz]) rfl ⟨rfl, (B1.out.setCell (p := ⟨w.heap.size + 1, 0, none⟩) (by simp) _).setCell (p := ⟨w.heap.size + 1, 1, none⟩) (by simp) _⟩

set_option maxRecDepth 100000 in
set_option maxHeartbeats 4000000 in
theorem specFall_keep (k l : ByteArray) (n : Nat) (torn : Bool) (w : World) (hg : goodB k l = true) (hn : n ≤ l.size) (ht0 : torn = false ∨ n = 0) :
    Calls Try.prog 43 #[.agg #[.string k, .string l], .int .i64 (n : Int), .bool torn] w fun e w' => e = DAns (fallA k l n torn) ∧ Below w.heap.size w w' := by
  have hsz := goodB_le hg
  have HG := Lib.hid (fun W => specGood_any k l W (by unfold Few; omega) (by unfold Few; omega))
  rw [hg] at HG
  rw [fallA_yes hg hn]
  obtain ⟨t, ht⟩ : ∃ t : ByteArray, t = ⟨(fallL l.data.toList n torn).toArray⟩ := ⟨_, rfl⟩
  have hts : t.size = n := by rw [ht, size_of_list]; exact fallL_len _ _ _ (by rw [data_len]; exact hn)
  have htt : (⟨((l.extract 0 n).data.toList.take n).toArray⟩ : ByteArray) = t := by
    rw [ht, ext_list]
    unfold fallL
    rw [if_neg (by rcases ht0 with h | h <;> simp [h])]
    simp [List.take_take]
  rw [← ht]
  have hadd := fun (W : World) => run_string_add_sum (P := Try.prog) (w := W) k t (by omega)
  have HTT := Lib.hid htt
  have HI := Lib.hid (fun W => l1In_yes (n : Int) 0 (l.size : Int) W (by omega) (by omega))
  have i0 : (0 : Int) ≤ (n : Int) := by omega
  have i1 : (n : Int) ≤ (l.size : Int) := by omega
  have i3 : (torn && decide ((0 : Int) < (n : Int))) = false := by rcases ht0 with h | h <;> simp [h]
  have hes := ext_size hn
  have HES := Lib.hid hes
  clear hg ht htt hts hsz hes
  go_enter Try.func43, Try.ntmps43
  go_wp2_with fail
  refine (HG.out _).mono ?_
  rintro e w1 ⟨rfl, hb1⟩
  have b1 := (below2 _ _ _).trans (hb1.mono (below2 _ _ _).size)
  obtain ⟨hc, hf⟩ := bcell hb1
  obtain ⟨cap, w3, hconv, hrow, hcap, hbel, hszw⟩ := conv_bytes (l.extract 0 n) w1
  rw [HES.out] at hconv
  have hR3 : SRow w3 w1.heap.size (l.extract 0 n) cap := ⟨hcap, hrow⟩
  have hcv := SRow.conv_take hR3 n (by rw [data_len, HES.out]; exact Nat.le_refl _)
  rw [HTT.out] at hcv
  have b3 := b1.trans (hbel.mono b1.size)
  have hb4 := hb1.trans (hbel.mono hb1.size)
  obtain ⟨hc3, hf3⟩ := bcell hb4
  have hz : w.heap.size + 1 < w3.heap.size := by have := hb4.size; simp at this; omega
  have B1 := Lib.hid b3
  clear hR3 hrow hszw hcap b1 b3 hbel hb1 hb4
  cases torn with
  | false =>
    clear i3 ht0
    go_wp2_with fail
    refine (HI.out _).mono ?_
    rintro e w2 ⟨rfl, rfl⟩
    go_wp2
    exact bodyPost_ret (v := .tuple #[.agg #[.string (k ++ t), .string ⟨#[]⟩], .bool true]) (by simp [results, Try.results43, go_sem, hc3, hf3, hz]) rfl ⟨rfl, (B1.out.setCell (p := ⟨w.heap.size + 1, 0, none⟩) (by simp) _).setCell (p := ⟨w.heap.size + 1, 1, none⟩) (by simp) _⟩
  | true =>
    have hd : decide ((0 : Int) < (n : Int)) = false := by rcases ht0 with h | h <;> simp_all
    have hd2 : decide (0 < n) = false := by rcases ht0 with h | h <;> simp_all
    have hd3 : n ≤ 0 := by simpa using hd2
    clear i3 ht0
    go_wp2_with fail
    refine (HI.out _).mono ?_
    rintro e w2 ⟨rfl, rfl⟩
    go_wp2
    exact bodyPost_ret (v := .tuple #[.agg #[.string (k ++ t), .string ⟨#[]⟩], .bool true]) (by simp [results, Try.results43, go_sem, hc3, hf3, hz]) rfl ⟨rfl, (B1.out.setCell (p := ⟨w.heap.size + 1, 0, none⟩) (by simp) _).setCell (p := ⟨w.heap.size + 1, 1, none⟩) (by simp) _⟩

set_option maxRecDepth 100000 in
set_option maxHeartbeats 4000000 in
theorem specFall_torn (k l : ByteArray) (p : Nat) (w : World) (hg : goodB k l = true) (hn : p + 1 ≤ l.size) :
    Calls Try.prog 43 #[.agg #[.string k, .string l], .int .i64 ((p + 1 : Nat) : Int), .bool true] w fun e w' => e = DAns (fallA k l ((p + 1 : Nat) : Int) true) ∧ Below w.heap.size w w' := by
  have hsz := goodB_le hg
  have HG := Lib.hid (fun W => specGood_any k l W (by unfold Few; omega) (by unfold Few; omega))
  rw [hg] at HG
  rw [fallA_yes hg hn]
  obtain ⟨t, ht⟩ : ∃ t : ByteArray, t = ⟨(fallL l.data.toList (p + 1) true).toArray⟩ := ⟨_, rfl⟩
  have hts : t.size = p + 1 := by rw [ht, size_of_list]; exact fallL_len _ _ _ (by rw [data_len]; exact hn)
  have hes := ext_size hn
  have hpl : p + 1 ≤ (l.extract 0 (p + 1)).data.toList.length := by rw [data_len, hes]; exact Nat.le_refl _
  have htt : (⟨(fallL (l.extract 0 (p + 1)).data.toList (p + 1) true).toArray⟩ : ByteArray) = t := by
    rw [ht, ext_list, Nat.sub_zero, List.drop_zero, fallL_take]
  rw [← ht]
  have hadd := fun (W : World) => run_string_add_sum (P := Try.prog) (w := W) k t (by omega)
  have HTT := Lib.hid htt
  have HI := Lib.hid (fun W => l1In_yes ((p + 1 : Nat) : Int) 0 (l.size : Int) W (by omega) (by omega))
  have i0 : (0 : Int) ≤ (p : Int) := by omega
  have i1 : (p : Int) + 1 ≤ (l.size : Int) := by omega
  have i4 : (p : Int) ≤ 1048576 := by omega
  have HES := Lib.hid hes
  have HPL := Lib.hid hpl
  clear hg ht htt hts hsz hes hpl
  go_enter Try.func43, Try.ntmps43
  go_wp2_with fail
  refine (HG.out _).mono ?_
  rintro e w1 ⟨rfl, hb1⟩
  have b1 := (below2 _ _ _).trans (hb1.mono (below2 _ _ _).size)
  obtain ⟨hc, hf⟩ := bcell hb1
  obtain ⟨cap, w3, hconv, hrow, hcap, hbel, hszw⟩ := conv_bytes (l.extract 0 (p + 1)) w1
  rw [HES.out] at hconv
  have hR3 : SRow w3 w1.heap.size (l.extract 0 (p + 1)) cap := ⟨hcap, hrow⟩
  have hcv := SRow.conv_tear hR3 p HPL.out
  rw [HTT.out] at hcv
  have hbyte := hR3.byte p (by have := HPL.out; omega)
  obtain ⟨_, hfz⟩ := hR3.at_ p (by have := hcap; have := HES.out; omega)
  obtain ⟨x, hx⟩ : ∃ x, x = (l.extract 0 (p + 1)).data.toList[p]'(by have := HPL.out; omega) := ⟨_, rfl⟩
  rw [← hx] at hbyte hcv
  have hx8 : (x.toNat : Int) ≤ 255 := by have := x.toNat_lt; omega
  have b3 := b1.trans (hbel.mono b1.size)
  have hb4 := hb1.trans (hbel.mono hb1.size)
  have b4 := b3.setCell (p := ⟨w1.heap.size, p, none⟩) b1.size (.int .u8 (255 - (x.toNat : Int)))
  have hb5 := hb4.setCell (p := ⟨w1.heap.size, p, none⟩) hb1.size (.int .u8 (255 - (x.toNat : Int)))
  obtain ⟨hc3, hf3⟩ := bcell hb5
  have hz : w.heap.size + 1 < w3.heap.size := by have := hb4.size; simp at this; omega
  have hz1 : w.heap.size + 1 < w1.heap.size := by have := hb1.size; simp at this; omega
  have B1 := Lib.hid b4
  clear hR3 hrow hszw hcap b1 b3 b4 hbel hb1 hb4 hb5 hx
  go_wp2_with fail
  refine (HI.out _).mono ?_
  rintro e w2 ⟨rfl, rfl⟩
  go_wp2
  exact bodyPost_ret (v := .tuple #[.agg #[.string (k ++ t), .string ⟨#[]⟩], .bool true]) (by simp [results, Try.results43, go_sem, hc3, hf3, hz]) rfl ⟨rfl, (B1.out.setCell (p := ⟨w.heap.size + 1, 0, none⟩) (by simp) _).setCell (p := ⟨w.heap.size + 1, 1, none⟩) (by simp) _⟩

theorem specFall_any (k l : ByteArray) (n : Int) (torn : Bool) (w : World) (hk : k.size ≤ 1048576) (hl : l.size ≤ 1048576) :
    Calls Try.prog 43 #[.agg #[.string k, .string l], .int .i64 n, .bool torn] w fun e w' => e = DAns (fallA k l n torn) ∧ Below w.heap.size w w' := by
  by_cases h : goodB k l = true ∧ 0 ≤ n ∧ n ≤ (l.size : Int)
  · obtain ⟨hg, h0, h1⟩ := h
    obtain ⟨m, rfl⟩ : ∃ m : Nat, n = m := ⟨n.toNat, by omega⟩
    cases torn with
    | false => exact specFall_keep k l m false w hg (by omega) (.inl rfl)
    | true =>
      rcases Nat.eq_zero_or_pos m with hm | hm
      · exact specFall_keep k l m true w hg (by omega) (.inr hm)
      · obtain ⟨p, rfl⟩ : ∃ p, m = p + 1 := ⟨m - 1, by omega⟩
        exact specFall_torn k l p w hg (by omega)
  · exact specFall_no k l n torn w hk hl h
theorem implFall_any (k l : ByteArray) (n : Int) (torn : Bool) (w : World) (hk : k.size ≤ 1048576) (hl : l.size ≤ 1048576) :
    Calls Try.prog 26 #[.agg #[.string k, .string l], .int .i64 n, .bool torn] w fun e w' => e = DAns (fallA k l n torn) ∧ Below w.heap.size w w' := by
  by_cases h : goodB k l = true ∧ 0 ≤ n ∧ n ≤ (l.size : Int)
  · obtain ⟨hg, h0, h1⟩ := h
    obtain ⟨m, rfl⟩ : ∃ m : Nat, n = m := ⟨n.toNat, by omega⟩
    cases torn with
    | false => exact implFall_keep k l m w hg (by omega)
    | true =>
      rcases Nat.eq_zero_or_pos m with hm | hm
      · exact implFall_zero k l m w hm hg
      · obtain ⟨p, rfl⟩ : ∃ p, m = p + 1 := ⟨m - 1, by omega⟩
        exact implFall_torn k l p w hg (by omega)
  · exact implFall_no k l n torn w hk hl h
end Go.Proofs.Ytcjejbnogghkcaa.Dk
