/-
  Plain facts on the varint of a number (numB) and on cells that hold bytes (B8). No Go in sight; no condition.
-/
import Derived.Test.YtodfefaknclemaaMath
namespace Go.Proofs.Ytodfefaknclemaa.M

/-- The varint with at most f + 1 bytes. -/
def numF : Nat → Nat → List UInt8
  | 0, n => [UInt8.ofNat n]
  | f + 1, n => if n < 128 then [UInt8.ofNat n] else UInt8.ofNat (n % 128 + 128) :: numF f (n / 128)
/-- The varint of a number below 128 ^ 10. -/
def numB (n : Nat) : List UInt8 := numF 9 n
/-- k fits into f + 1 bytes. -/
def Fits (f k : Nat) : Prop := k < 128 ^ (f + 1)

theorem numF_small (f n : Nat) (h : n < 128) : numF f n = [UInt8.ofNat n] := by
  cases f with
  | zero => rfl
  | succ f => simp [numF, h]
theorem numF_step (f n : Nat) (h : 128 ≤ n) : numF (f + 1) n = UInt8.ofNat (n % 128 + 128) :: numF f (n / 128) := by
  simp [numF, Nat.not_lt.2 h]
theorem fits_pos (f k : Nat) (h : Fits f k) (hk : 128 ≤ k) : ∃ f', f = f' + 1 ∧ Fits f' (k / 128) := by
  cases f with
  | zero => unfold Fits at h; omega
  | succ f =>
    refine ⟨f, rfl, ?_⟩
    unfold Fits at h ⊢
    rw [Nat.pow_succ] at h
    exact Nat.div_lt_of_lt_mul (by omega)
theorem fits_max (k : Nat) (h : k ≤ 1000000000) : Fits 9 k := by unfold Fits; omega
theorem numF_len (f n : Nat) : (numF f n).length ≤ f + 1 ∧ 0 < (numF f n).length := by
  induction f generalizing n with
  | zero => simp [numF]
  | succ f ih =>
    unfold numF
    split
    · simp
    · have := ih (n / 128); simp; omega
theorem numB_len (n : Nat) : (numB n).length ≤ 10 ∧ 0 < (numB n).length := numF_len 9 n
theorem ofNat_high (k : Nat) : ((UInt8.ofNat (k % 128 + 128)).toNat : Int) = (k : Int) % 128 + 128 := by
  simp [UInt8.toNat_ofNat']; omega
theorem ofNat_low (k : Nat) (h : k < 128) : ((UInt8.ofNat k).toNat : Int) = (k : Int) := by
  simp [UInt8.toNat_ofNat']; omega
/-- One round of the loop that writes a varint: what has been written, and what is still to come. -/
theorem num_round (f k : Nat) (acc r : List UInt8) (he : acc ++ numF f k = r) (hf : Fits f k) (hk : 128 ≤ k) :
    ∃ f', f = f' + 1 ∧ Fits f' (k / 128) ∧ (acc ++ [UInt8.ofNat (k % 128 + 128)]) ++ numF f' (k / 128) = r := by
  obtain ⟨f', rfl, h⟩ := fits_pos f k hf hk
  exact ⟨f', rfl, h, by rw [← he, numF_step f' k hk]; simp⟩
end Go.Proofs.Ytodfefaknclemaa.M
