/-
  Plain facts: reading gives back what was written (a number, a text, several texts), at any offset. No Go in sight; no condition.
-/
import Derived.Test.YtodfefaknclemaaReadTexts
import Derived.Test.YtodfefaknclemaaTexts
import Derived.Lib.Strings
namespace Go.Proofs.Ytodfefaknclemaa
open Go.RowKit

namespace M
theorem numF_body (f n : Nat) (hf : Fits f n) : body (numF f n) := by
  induction f generalizing n with
  | zero => unfold Fits at hf; simp only [numF, body, UInt8.toNat_ofNat']; omega
  | succ f ih =>
    by_cases h : n < 128
    · rw [numF_small _ _ h]; simp only [body, UInt8.toNat_ofNat']; omega
    · obtain ⟨f', e, h'⟩ := fits_pos _ _ hf (by omega)
      have e' : f = f' := by omega
      subst e'
      rw [numF_step f n (by omega)]
      have hb := ih (n / 128) h'
      have hne := (numF_len f (n / 128)).2
      cases hq : numF f (n / 128) with
      | nil => rw [hq] at hne; simp at hne
      | cons d r => rw [hq] at hb; exact ⟨by simp only [UInt8.toNat_ofNat']; omega, hb⟩
theorem vl_numF (f n : Nat) (hf : Fits f n) : vl (numF f n) = n := by
  induction f generalizing n with
  | zero => unfold Fits at hf; simp only [numF, vl, UInt8.toNat_ofNat']; omega
  | succ f ih =>
    by_cases h : n < 128
    · rw [numF_small _ _ h]; simp only [vl, UInt8.toNat_ofNat']; omega
    · obtain ⟨f', e, h'⟩ := fits_pos _ _ hf (by omega)
      have e' : f = f' := by omega
      subst e'
      rw [numF_step f n (by omega)]
      simp only [vl, ih (n / 128) h', UInt8.toNat_ofNat']
      omega
theorem numF_len_fit (j f n : Nat) (hj : Fits j n) : (numF f n).length ≤ j + 1 := by
  induction f generalizing j n with
  | zero => simp [numF]
  | succ f ih =>
    by_cases h : n < 128
    · rw [numF_small _ _ h]; simp
    · obtain ⟨j', e, h'⟩ := fits_pos _ _ hj (by omega)
      rw [numF_step f n (by omega), List.length_cons]
      have := ih j' (n / 128) h'
      omega
theorem body_split (l : List UInt8) (h : body l) : ∃ p c, l = p ++ [c] ∧ (∀ x ∈ p, 128 ≤ x.toNat) ∧ c.toNat < 128 := by
  induction l with
  | nil => exact h.elim
  | cons x r ih =>
    cases r with
    | nil => exact ⟨[], x, rfl, by simp, h⟩
    | cons y r =>
      obtain ⟨p, c, e, hp, hc⟩ := ih h.2
      refine ⟨x :: p, c, by rw [e]; rfl, ?_, hc⟩
      intro z hz
      rcases List.mem_cons.1 hz with rfl | hz
      · exact h.1
      · exact hp z hz
/-- A number is read back. -/
theorem read_num (n q : Nat) (rest : List UInt8) (hn : n ≤ 1000000000) : readAt (numB n ++ rest) q = (n, q + (numB n).length, true) := by
  have hfit := fits_max n hn
  obtain ⟨p, c, e, hp, hc⟩ := body_split (numB n) (numF_body 9 n hfit)
  have hv : vl (numB n) = n := vl_numF 9 n hfit
  have hl : (numB n).length ≤ 5 := numF_len_fit 4 9 n (by unfold Fits; omega)
  have hlast := (lastOf_numF 9 n hfit).2
  change 1 ≤ n → (lastOf (numB n)).toNat ≠ 0 at hlast
  have hlen : (numB n).length = p.length + 1 := by rw [e]; simp
  have hd : (numB n ++ rest).getD p.length 0 = c := by
    rw [e]; simp [List.getD]
  have hhi : High (numB n ++ rest) p.length := by
    intro j hj
    have : (numB n ++ rest).getD j 0 = p[j] := by
      rw [e]
      simp only [List.getD, List.append_assoc]
      rw [List.getElem?_append_left hj, List.getElem?_eq_getElem hj]
      rfl
    rw [this]
    exact hp _ (List.getElem_mem _)
  have ht : (numB n ++ rest).take (p.length + 1) = numB n := by
    rw [← hlen, List.take_append_of_le_length (Nat.le_refl _), List.take_of_length_le (Nat.le_refl _)]
  rw [read_stop _ q p.length hhi (by omega) (by rw [List.length_append]; omega) (by rw [hd]; exact hc), ht, hv, hd]
  have hz : p.length = 0 ∨ c.toNat ≠ 0 := by
    rcases Nat.eq_zero_or_pos n with h0 | h0
    · left
      subst h0
      have : (numB 0).length = 1 := rfl
      omega
    · right
      have := hlast h0
      rw [e, lastOf_snoc] at this
      exact this
  rw [if_pos ⟨hn, hz⟩, hlen]
  simp [Nat.add_assoc]
end M

theorem data_len (s : ByteArray) : s.data.toList.length = s.size := by simp
/-- A text is read back. -/
theorem read_text (S t : ByteArray) (q : Nat) (rest : List UInt8) (ht : t.size ≤ 60) (h : S.data.toList.drop q = textB t.data.toList ++ rest) (hq : q ≤ S.size) :
    readText S q = (t, q + (textB t.data.toList).length, true) := by
  have hlen : S.size - q = (textB t.data.toList).length + rest.length := by
    have := congrArg List.length h
    rw [List.length_drop, List.length_append, data_len] at this
    exact this
  have e1 : t.data.toList.length = t.size := data_len t
  have htb : (textB t.data.toList).length = (M.numB t.size).length + t.size := by unfold textB; rw [List.length_append, e1]
  have hr : M.readNum S.data.toList q = (t.size, q + (M.numB t.size).length, true) := by
    unfold M.readNum
    rw [h]
    unfold textB
    rw [List.append_assoc, e1]
    exact M.read_num t.size q _ (by omega)
  rw [readText_yes hr ht (by omega)]
  have hx : S.extract (q + (M.numB t.size).length) (q + (M.numB t.size).length + t.size) = t := by
    apply ByteArray.ext
    apply Array.ext'
    rw [Lib.extract_data, ← List.drop_drop, h]
    unfold textB
    rw [e1, List.append_assoc, List.drop_append_of_le_length (Nat.le_refl _), List.drop_of_length_le (Nat.le_refl _), List.nil_append]
    rw [show q + (M.numB t.size).length + t.size - (q + (M.numB t.size).length) = t.data.toList.length from by omega]
    rw [List.take_append_of_le_length (Nat.le_refl _), List.take_of_length_le (Nat.le_refl _)]
  rw [hx, htb, Nat.add_assoc]

/-- The texts from the k-th on. -/
def tailB (xs : List ByteArray) (k : Nat) : List UInt8 := ((xs.drop k).map fun x => textB x.data.toList).flatten
theorem tail_step (xs : List ByteArray) (k : Nat) (h : k < xs.length) : tailB xs k = textB xs[k].data.toList ++ tailB xs (k + 1) := by
  unfold tailB
  rw [List.drop_eq_getElem_cons h]
  simp only [List.map_cons, List.flatten_cons]
theorem tsum_tail (xs : List ByteArray) : tsum xs xs.length = M.numB xs.length ++ tailB xs 0 := by
  unfold tsum tailB
  rw [List.take_of_length_le (Nat.le_refl _), List.drop_zero]
/-- Several texts are read back, one by one. -/
theorem run_ok (S : ByteArray) (xs : List ByteArray) (y : Nat) (rest : List UInt8) (hx : ∀ k (h : k < xs.length), xs[k].size ≤ 60) (hy : S.data.toList.drop y = tailB xs 0 ++ rest) (hyS : y ≤ S.size) (k : Nat) (hk : k ≤ xs.length) :
    ∃ z, run S y k = some (xs.take k, z) ∧ z ≤ S.size ∧ S.data.toList.drop z = tailB xs k ++ rest ∧ z + (tailB xs k).length = y + (tailB xs 0).length := by
  induction k with
  | zero => exact ⟨y, by simp [run], hyS, hy, rfl⟩
  | succ k ih =>
    obtain ⟨z, h1, h2, h3, h4⟩ := ih (by omega)
    rw [tail_step xs k (by omega), List.append_assoc] at h3
    have hr := read_text S xs[k] z _ (hx k (by omega)) h3 h2
    have hlen := congrArg List.length h3
    rw [List.length_drop, List.length_append, data_len] at hlen
    refine ⟨z + (textB xs[k].data.toList).length, ?_, by omega, ?_, ?_⟩
    · rw [run_go S xs[k] y k z _ _ h1 hr, List.take_succ_eq_append_getElem (by omega)]
    · rw [← List.drop_drop, h3, List.drop_append_of_le_length (Nat.le_refl _), List.drop_of_length_le (Nat.le_refl _), List.nil_append]
    · rw [tail_step xs k (by omega), List.length_append] at h4
      omega
/-- .. all of them. -/
theorem read_texts (S : ByteArray) (xs : List ByteArray) (q : Nat) (hg : Good xs) (h : S.data.toList.drop q = tsum xs xs.length) (hq : q ≤ S.size) : readTexts S q = some (xs, S.size) := by
  rw [tsum_tail] at h
  have hr : M.readNum S.data.toList q = (xs.length, q + (M.numB xs.length).length, true) := by
    unfold M.readNum
    rw [h]
    exact M.read_num xs.length q _ (by have := hg.1; omega)
  unfold readTexts
  rw [hr, if_pos ⟨rfl, hg.1⟩]
  have hlen := congrArg List.length h
  rw [List.length_drop, List.length_append, data_len] at hlen
  have hd : S.data.toList.drop (q + (M.numB xs.length).length) = tailB xs 0 ++ [] := by
    rw [← List.drop_drop, h, List.drop_append_of_le_length (Nat.le_refl _), List.drop_of_length_le (Nat.le_refl _)]
    simp
  obtain ⟨z, h1, h2, h3, h4⟩ := run_ok S xs (q + (M.numB xs.length).length) [] hg.2 hd (by omega) xs.length (Nat.le_refl _)
  rw [h1, List.take_of_length_le (Nat.le_refl _)]
  have ht : (tailB xs xs.length).length = 0 := by unfold tailB; rw [List.drop_of_length_le (Nat.le_refl _)]; rfl
  rw [show z = S.size from by omega]
end Go.Proofs.Ytodfefaknclemaa
