/-
  Contracts for the laws' helpers that write over what is owned (mark..) and find it again (held..): clocks, leases, acts, watches.
-/
import Derived.Test.YtpppgihoekfmoaaWtMem
import Derived.Test.YtpppgihoekfmoaaBel
namespace Go.Proofs.Ytpppgihoekfmoaa.Wt
open Go.RowKit
set_option linter.unusedVariables false
set_option linter.unusedSimpArgs false

def mLe (k : Nat) : (Int × Int × Int) := ((k : Int), ((k + 1 : Nat) : Int), ((k + 2 : Nat) : Int))
def mCks (k n : Nat) : List Int := (List.range n).map fun i => ((k + i : Nat) : Int)
def mLes (k n : Nat) : List (Int × Int × Int) := (List.range n).map fun i => mLe (k + 3 * i)
theorem mCks_len (k n : Nat) : (mCks k n).length = n := by simp [mCks]
theorem mLes_len (k n : Nat) : (mLes k n).length = n := by simp [mLes]
theorem mCks_at (k n j : Nat) (h : j < (mCks k n).length) : (mCks k n)[j] = ((k + j : Nat) : Int) := by simp [mCks]
theorem mLes_at (k n j : Nat) (h : j < (mLes k n).length) : (mLes k n)[j] = mLe (k + 3 * j) := by simp [mLes]
def mFlatCk (k n : Nat) : List Value := ((mCks k n).map ckCs).flatten
def mFlatLe (k n : Nat) : List Value := ((mLes k n).map leCs).flatten
theorem mFlatCk_len (k n : Nat) : (mFlatCk k n).length = n := by
  unfold mFlatCk; rw [flat_len (ckCs_len _), List.length_map, mCks_len, Nat.mul_one]
theorem mFlatLe_len (k n : Nat) : (mFlatLe k n).length = n * 3 := by
  unfold mFlatLe; rw [flat_len (leCs_len _), List.length_map, mLes_len]
theorem mFlatCk_succ (k n q : Nat) (hq : q = k + n) : mFlatCk k (n + 1) = mFlatCk k n ++ [.int .i64 (q : Int)] := by
  subst hq
  unfold mFlatCk mCks
  rw [List.range_succ, List.map_append, List.map_append, List.flatten_append]
  simp [ckCs]
theorem mFlatLe_succ (k n q : Nat) (hq : q = k + 3 * n) : mFlatLe k (n + 1) = ((mFlatLe k n ++ [.int .i64 (q : Int)]) ++ [.int .i64 ((q : Int) + 1)]) ++ [.int .i64 ((q : Int) + 1 + 1)] := by
  subst hq
  unfold mFlatLe mLes
  rw [List.range_succ, List.map_append, List.map_append, List.flatten_append]
  simp [mLe, leCs]
  omega

/-- Rows of different element types lie in different blocks. -/
theorem own_apartW {w : World} {lo hi lo' hi' sz sz' cap cap' : Nat} {t t' : TypeId} {A A' : Option Addr} {L L' : List (List Value)} (h : Own w lo hi t sz A cap L) (h' : Own w lo' hi' t' sz' A' cap' L') (ht : t ≠ t') (x y : Addr) (hx : A = some x) (hy : A' = some y) : x.block ≠ y.block := by
  intro e
  obtain ⟨_, _, c1, k1⟩ := h.block x hx
  obtain ⟨_, _, c2, k2⟩ := h'.block y hy
  rw [e, k2] at k1
  simp only [Option.some.injEq, Obj.cells.injEq] at k1
  exact ht k1.2.1.symm
theorem own_rangeW {w : World} {lo hi sz cap : Nat} {t : TypeId} {A : Option Addr} {L : List (List Value)} (h : Own w lo hi t sz A cap L) (x : Addr) (hx : A = some x) : lo ≤ x.block ∧ x.block < hi := ⟨(h.block x hx).1, (h.block x hx).2.1⟩

end Go.Proofs.Ytpppgihoekfmoaa.Wt
