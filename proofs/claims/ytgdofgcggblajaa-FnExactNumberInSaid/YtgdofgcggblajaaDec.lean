/-
  Decimal texts of numbers from 0 on: plain mathematics over nothing of the program. decL n: the text; canB l: its one form, of at most 6 digits; decV l: its value.
-/
import Derived.Below
namespace Go.Proofs.Ytgdofgcggblajaa
set_option linter.unusedVariables false

def dig (k : Nat) : UInt8 := UInt8.ofNat (48 + k)
def decL (n : Nat) : List UInt8 := if h : n < 10 then [dig n] else decL (n / 10) ++ [dig (n % 10)]
termination_by n
decreasing_by omega
theorem decL_small {n : Nat} (h : n < 10) : decL n = [dig n] := by unfold decL; rw [dif_pos h]
theorem decL_big {n : Nat} (h : ¬ n < 10) : decL n = decL (n / 10) ++ [dig (n % 10)] := by conv => lhs; unfold decL; rw [dif_neg h]
def isDig (b : UInt8) : Bool := decide (48 ≤ b.toNat) && decide (b.toNat ≤ 57)
def decV (l : List UInt8) : Nat := l.foldl (fun a b => 10 * a + (b.toNat - 48)) 0
def canB (l : List UInt8) : Bool := decide (1 ≤ l.length) && decide (l.length ≤ 6) && (decide (l.length = 1) || decide (l.head? ≠ some 48)) && l.all isDig
theorem dig_nat {k : Nat} (h : k < 10) : (dig k).toNat = 48 + k := by unfold dig; rw [UInt8.toNat_ofNat']; omega
theorem dig_is {k : Nat} (h : k < 10) : isDig (dig k) = true := by unfold isDig; rw [dig_nat h]; simp; omega
theorem is_dig {b : UInt8} (h : isDig b = true) : b = dig (b.toNat - 48) ∧ b.toNat - 48 < 10 := by
  unfold isDig at h
  simp only [Bool.and_eq_true, decide_eq_true_eq] at h
  refine ⟨?_, by omega⟩
  apply UInt8.toNat_inj.1
  rw [dig_nat (by omega)]
  omega
theorem decV_snoc (l : List UInt8) (b : UInt8) : decV (l ++ [b]) = 10 * decV l + (b.toNat - 48) := by unfold decV; rw [List.foldl_append]; rfl
theorem decV_dec (n : Nat) : decV (decL n) = n := by
  induction n using Nat.strongRecOn with
  | _ n ih =>
    by_cases h : n < 10
    · rw [decL_small h]; unfold decV; simp [dig_nat h]
    · rw [decL_big h, decV_snoc, ih (n / 10) (by omega), dig_nat (by omega)]; omega
theorem decL_all (n : Nat) : (decL n).all isDig = true := by
  induction n using Nat.strongRecOn with
  | _ n ih =>
    by_cases h : n < 10
    · rw [decL_small h]; simp [dig_is h]
    · rw [decL_big h, List.all_append, ih (n / 10) (by omega)]; simp [dig_is (show n % 10 < 10 by omega)]
theorem decL_pos (n : Nat) : 1 ≤ (decL n).length := by
  by_cases h : n < 10
  · rw [decL_small h]; simp
  · rw [decL_big h]; simp
theorem decL_len {k n : Nat} (hk : 1 ≤ k) (h : n < 10 ^ k) : (decL n).length ≤ k := by
  induction k generalizing n with
  | zero => omega
  | succ k ih =>
    by_cases hn : n < 10
    · rw [decL_small hn]; simp
    · have hk1 : 1 ≤ k := by
        rcases Nat.eq_zero_or_pos k with rfl | hp
        · simp at h; omega
        · exact hp
      rw [decL_big hn, List.length_append, List.length_singleton]
      have : n / 10 < 10 ^ k := by rw [Nat.pow_succ] at h; omega
      have := ih hk1 this
      omega
theorem decL_head {n : Nat} (h : 0 < n) : (decL n).head? ≠ some 48 := by
  induction n using Nat.strongRecOn with
  | _ n ih =>
    by_cases hn : n < 10
    · rw [decL_small hn]
      intro e
      simp only [List.head?_cons, Option.some.injEq] at e
      have := congrArg UInt8.toNat e
      rw [dig_nat hn] at this
      have h48 : (48 : UInt8).toNat = 48 := rfl
      omega
    · rw [decL_big hn, List.head?_append]
      have h1 := ih (n / 10) (by omega) (by omega)
      have h2 := decL_pos (n / 10)
      cases hd : (decL (n / 10)).head? with
      | none => rw [List.head?_eq_none_iff] at hd; rw [hd] at h2; simp at h2
      | some a => rw [hd] at h1; simpa using h1
theorem decL_can {n : Nat} (h : n < 1000000) : canB (decL n) = true := by
  unfold canB
  rw [decL_all, Bool.and_true]
  have h1 := decL_pos n
  have h2 := decL_len (k := 6) (by omega) (n := n) (by omega)
  simp only [Bool.and_eq_true, decide_eq_true_eq, Bool.or_eq_true]
  refine ⟨⟨h1, h2⟩, ?_⟩
  by_cases hn : n < 10
  · left; rw [decL_small hn]; rfl
  · right; exact decL_head (by omega)
/-- A text in its one form is that of its value. -/
theorem can_dec {l : List UInt8} (hd : l.all isDig = true) (h1 : 1 ≤ l.length) (hh : l.length = 1 ∨ l.head? ≠ some 48) : l = decL (decV l) := by
  obtain ⟨k, hk⟩ : ∃ k, k = l.length := ⟨_, rfl⟩
  induction k generalizing l with
  | zero => omega
  | succ k ih =>
    obtain ⟨p, b, rfl⟩ : ∃ p b, l = p ++ [b] := by
      have hne : l ≠ [] := fun e => by rw [e] at h1; simp at h1
      exact ⟨l.dropLast, l.getLast hne, (List.dropLast_concat_getLast hne).symm⟩
    rw [List.all_append, Bool.and_eq_true] at hd
    have hb : isDig b = true := by simpa using hd.2
    obtain ⟨e1, e2⟩ := is_dig hb
    rw [List.length_append, List.length_singleton] at hk
    have hpl : p.length = k := by omega
    rw [decV_snoc]
    rcases Nat.eq_zero_or_pos k with rfl | hp
    · have : p = [] := List.eq_nil_of_length_eq_zero hpl
      subst this
      have e0 : decV [] = 0 := rfl
      rw [e0, Nat.mul_zero, Nat.zero_add, decL_small e2, ← e1]; rfl
    · have hph : p.head? ≠ some 48 := by
        rcases hh with hh | hh
        · rw [List.length_append, List.length_singleton] at hh; omega
        · cases p with
          | nil => simp at hpl; omega
          | cons a p => simpa using hh
      have hpe := ih hd.1 (by omega) (.inr hph) hpl.symm
      have hpos : 0 < decV p := by
        rcases Nat.eq_zero_or_pos (decV p) with h0 | h0
        · rw [h0, decL_small (by omega)] at hpe
          exact absurd (by rw [hpe]; rfl) hph
        · exact h0
      have hbig : ¬ (10 * decV p + (b.toNat - 48)) < 10 := by omega
      rw [decL_big hbig, show (10 * decV p + (b.toNat - 48)) / 10 = decV p by omega, show (10 * decV p + (b.toNat - 48)) % 10 = b.toNat - 48 by omega, ← hpe, ← e1]
theorem decV_lt {l : List UInt8} (h : l.all isDig = true) : decV l < 10 ^ l.length := by
  obtain ⟨k, hk⟩ : ∃ k, k = l.length := ⟨_, rfl⟩
  induction k generalizing l with
  | zero =>
    have : l = [] := List.eq_nil_of_length_eq_zero hk.symm
    subst this
    decide
  | succ k ih =>
    obtain ⟨p, b, rfl⟩ : ∃ p b, l = p ++ [b] := by
      have hne : l ≠ [] := fun e => by rw [e] at hk; simp at hk
      exact ⟨l.dropLast, l.getLast hne, (List.dropLast_concat_getLast hne).symm⟩
    rw [List.all_append, Bool.and_eq_true] at h
    have hb : isDig b = true := by simpa using h.2
    have e2 := (is_dig hb).2
    rw [List.length_append, List.length_singleton] at hk ⊢
    have := ih h.1 (by omega)
    rw [decV_snoc, Nat.pow_succ]
    omega
theorem canB_lt {l : List UInt8} (h : canB l = true) : decV l < 1000000 := by
  unfold canB at h
  simp only [Bool.and_eq_true, decide_eq_true_eq, Bool.or_eq_true] at h
  have h1 := decV_lt h.2
  have h2 : 10 ^ l.length ≤ 10 ^ 6 := Nat.pow_le_pow_right (by omega) h.1.1.2
  omega
theorem decL_inj {a b : Nat} (h : decL a = decL b) : a = b := by rw [← decV_dec a, h, decV_dec]
theorem canB_dec {l : List UInt8} (h : canB l = true) : l = decL (decV l) := by
  unfold canB at h
  simp only [Bool.and_eq_true, decide_eq_true_eq, Bool.or_eq_true] at h
  exact can_dec h.2 h.1.1.1 h.1.2
end Go.Proofs.Ytgdofgcggblajaa
