/-
  Plain facts: changing one byte of sealed bytes is always detected. No Go in sight; no condition.
-/
import Derived.Test.YtodfefaknclemaaOpen
namespace Go.Proofs.Ytodfefaknclemaa
open Go.RowKit

theorem sumStep_inj (n m : Nat) (c : UInt8) (hn : n < 16000057) (hm : m < 16000057) (h : M.sumStep n c = M.sumStep m c) : n = m := by
  unfold M.sumStep at h
  omega
theorem sumStep_byte (n : Nat) (c d : UInt8) (h : M.sumStep n c = M.sumStep n d) : c = d := by
  unfold M.sumStep at h
  have h1 := c.toNat_lt
  have h2 := d.toNat_lt
  apply UInt8.toNat_inj.1
  omega
theorem fold_inj (l : List UInt8) (n m : Nat) (hn : n < 16000057) (hm : m < 16000057) (h : l.foldl M.sumStep n = l.foldl M.sumStep m) : n = m := by
  induction l generalizing n m with
  | nil => exact h
  | cons c l ih => exact sumStep_inj n m c hn hm (ih _ _ (M.sumStep_lt _ _) (M.sumStep_lt _ _) h)
/-- The checksum tells every changed byte. -/
theorem sumL_set (l : List UInt8) (k : Nat) (hk : k < l.length) (b : UInt8) (hb : b ≠ l[k]) : M.sumL (l.set k b) ≠ M.sumL l := by
  intro h
  have e1 : l = l.take k ++ l[k] :: l.drop (k + 1) := by rw [← List.drop_eq_getElem_cons hk, List.take_append_drop]
  have e2 : l.set k b = l.take k ++ b :: l.drop (k + 1) := by rw [List.set_eq_take_append_cons_drop, if_pos hk]
  unfold M.sumL at h
  rw [e2] at h
  conv at h => rhs; rw [e1]
  rw [List.foldl_append, List.foldl_append, List.foldl_cons, List.foldl_cons] at h
  exact hb (sumStep_byte _ _ _ (fold_inj _ _ _ (M.sumStep_lt _ _) (M.sumStep_lt _ _) h))
theorem three_inj (n m : Nat) (hn : n < 16000057) (hm : m < 16000057) (h : three n = three m) : n = m := by
  have h1 := b8_of (n / 65536) (by omega)
  have h2 := b8_of (n / 256 % 256) (by omega)
  have h3 := b8_of (n % 256) (by omega)
  have g1 := b8_of (m / 65536) (by omega)
  have g2 := b8_of (m / 256 % 256) (by omega)
  have g3 := b8_of (m % 256) (by omega)
  simp only [three, List.cons.injEq, and_true] at h
  rw [h.1] at h1
  rw [h.2.1] at h2
  rw [h.2.2] at h3
  omega
theorem three_len (n : Nat) : (three n).length = 3 := rfl
/-- A sealed text with one byte changed is no sealed text. -/
theorem sealed_set (l : List UInt8) (k : Nat) (hk : k < (l ++ three (M.sumL l)).length) (b : UInt8) (hb : b ≠ (l ++ three (M.sumL l))[k]) :
    three (M.sumL (((l ++ three (M.sumL l)).set k b).take l.length)) ≠ ((l ++ three (M.sumL l)).set k b).drop l.length := by
  rcases Nat.lt_or_ge k l.length with h | h
  · rw [List.getElem_append_left h] at hb
    rw [List.set_append_left _ _ h, List.take_append_of_le_length (by simp), List.take_of_length_le (by simp), List.drop_append_of_le_length (by simp), List.drop_of_length_le (by simp), List.nil_append]
    intro e
    exact sumL_set l k h b hb (three_inj _ _ (M.sumL_lt _) (M.sumL_lt _) e)
  · rw [List.getElem_append_right h] at hb
    rw [List.set_append_right _ _ h, List.take_append_of_le_length (Nat.le_refl _), List.take_of_length_le (Nat.le_refl _), List.drop_append_of_le_length (Nat.le_refl _), List.drop_of_length_le (Nat.le_refl _), List.nil_append]
    intro e
    have hk' : k - l.length < (three (M.sumL l)).length := by rw [List.length_append] at hk; omega
    apply hb
    have e3 : ((three (M.sumL l)).set (k - l.length) b)[k - l.length]'(by simpa using hk') = b := by simp
    rw [← e3]
    exact (List.getElem_of_eq e hk').symm
theorem sealed_ok (l : List UInt8) : three (M.sumL ((sealed l).take l.length)) = (sealed l).drop l.length := by
  unfold sealed
  rw [List.take_append_of_le_length (Nat.le_refl _), List.take_of_length_le (Nat.le_refl _), List.drop_append_of_le_length (Nat.le_refl _), List.drop_of_length_le (Nat.le_refl _), List.nil_append]
theorem sealed_take (l : List UInt8) : (sealed l).take l.length = l := by
  unfold sealed
  rw [List.take_append_of_le_length (Nat.le_refl _), List.take_of_length_le (Nat.le_refl _)]
theorem sealed_len (l : List UInt8) : (sealed l).length = l.length + 3 := by simp [sealed, three]
end Go.Proofs.Ytodfefaknclemaa
