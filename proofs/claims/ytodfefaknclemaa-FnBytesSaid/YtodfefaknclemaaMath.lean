/-
  Plain facts on lists of bytes and on numbers that the walks of chapter 1 use: the checksum as a fold. No Go in sight; no condition.
-/
namespace Go.Proofs.Ytodfefaknclemaa.M

/-- One step of the checksum. -/
def sumStep (n : Nat) (c : UInt8) : Nat := (31 * n + c.toNat + 1) % 16000057
/-- The checksum of some bytes. -/
def sumL (l : List UInt8) : Nat := l.foldl sumStep 7

theorem sumStep_lt (n : Nat) (c : UInt8) : sumStep n c < 16000057 := by unfold sumStep; omega
theorem sumFold_lt (l : List UInt8) (n : Nat) (h : n < 16000057) : l.foldl sumStep n < 16000057 := by
  induction l generalizing n with
  | nil => exact h
  | cons c l ih => exact ih _ (sumStep_lt n c)
theorem sumL_lt (l : List UInt8) : sumL l < 16000057 := sumFold_lt l 7 (by omega)
theorem sumL_snoc (l : List UInt8) (c : UInt8) : sumL (l ++ [c]) = sumStep (sumL l) c := by simp [sumL]
theorem take_snoc (l : List UInt8) (k : Nat) (h : k < l.length) : l.take (k + 1) = l.take k ++ [l[k]] := by
  rw [List.take_succ_eq_append_getElem h]
theorem sumL_take (l : List UInt8) (k : Nat) (h : k < l.length) : sumL (l.take (k + 1)) = sumStep (sumL (l.take k)) l[k] := by
  rw [take_snoc l k h, sumL_snoc]
/-- The step as the walk writes it, over the integers. -/
theorem sumStep_int (n : Nat) (c : UInt8) : (((31 * (n : Int) + (c.toNat : Int) + 1) % 16000057 : Int)) = ((sumStep n c : Nat) : Int) := by
  unfold sumStep; omega
theorem sumStep_int' (n : Nat) (c : UInt8) : ((((n : Int) * 31 + (c.toNat : Int) + 1) % 16000057 : Int)) = ((sumStep n c : Nat) : Int) := by
  unfold sumStep; omega
end Go.Proofs.Ytodfefaknclemaa.M
