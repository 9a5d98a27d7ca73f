/-
  Contracts for the laws' helpers that write over what is owned (markIntS, markLetterS, markNet) and find it again (heldIntS, heldLetterS, heldNet).
-/
import Derived.Test.YtlfdefjkfacngaaNtMem
import Derived.Test.YtlfdefjkfacngaaBel
namespace Go.Proofs.Ytlfdefjkfacngaa.Nt
open Go.RowKit
set_option linter.unusedVariables false
set_option linter.unusedSimpArgs false

def mLt (k : Nat) : (Int × Int × Int × ByteArray) := ((k : Int), ((k + 1 : Nat) : Int), ((k + 2 : Nat) : Int), mark (k + 3))
def mInts (k n : Nat) : List Int := (List.range n).map fun i => ((k + i : Nat) : Int)
def mLts (k n : Nat) : List (Int × Int × Int × ByteArray) := (List.range n).map fun i => mLt (k + 4 * i)
theorem mInts_len (k n : Nat) : (mInts k n).length = n := by simp [mInts]
theorem mLts_len (k n : Nat) : (mLts k n).length = n := by simp [mLts]
theorem mInts_at (k n j : Nat) (h : j < (mInts k n).length) : (mInts k n)[j] = ((k + j : Nat) : Int) := by simp [mInts]
theorem mLts_at (k n j : Nat) (h : j < (mLts k n).length) : (mLts k n)[j] = mLt (k + 4 * j) := by simp [mLts]
def mFlatI (k n : Nat) : List Value := ((mInts k n).map intCs).flatten
def mFlatL (k n : Nat) : List Value := ((mLts k n).map ltCs).flatten
theorem mFlatI_len (k n : Nat) : (mFlatI k n).length = n := by
  unfold mFlatI; rw [flat_len (intCs_len _), List.length_map, mInts_len, Nat.mul_one]
theorem mFlatL_len (k n : Nat) : (mFlatL k n).length = n * 4 := by
  unfold mFlatL; rw [flat_len (ltCs_len _), List.length_map, mLts_len]
theorem mFlatI_succ (k n q : Nat) (hq : q = k + n) : mFlatI k (n + 1) = mFlatI k n ++ [.int .i64 (q : Int)] := by
  subst hq
  unfold mFlatI mInts
  rw [List.range_succ, List.map_append, List.map_append, List.flatten_append]
  simp [intCs]
theorem mFlatL_succ (k n q : Nat) (hq : q = k + 4 * n) : mFlatL k (n + 1) = (((mFlatL k n ++ [.int .i64 (q : Int)]) ++ [.int .i64 ((q : Int) + 1)]) ++ [.int .i64 ((q : Int) + 2)]) ++ [.string (mark (q + 3))] := by
  subst hq
  unfold mFlatL mLts
  rw [List.range_succ, List.map_append, List.map_append, List.flatten_append]
  simp [mLt, ltCs]

set_option maxRecDepth 100000 in
set_option maxHeartbeats 1000000 in
theorem markIntS_any (A : Option Addr) (n cap k lo hi : Nat) (is : List Int) (w : World) (hn : is.length = n) (h : OwnI w lo hi A cap is) (hk1 : 1 ≤ k) (hk : k + n ≤ 1000000000) :
    Calls Try.prog 41 #[.slice A n cap, .int .i64 (k : Int)] w fun e w' => e = .returned (.int .i64 ((k + n : Nat) : Int)) ∧ OwnI w' lo hi A cap (mInts k n) ∧ MidA A w w' := by
  by_cases hz : n = 0
  · subst hz
    have hl : is = [] := List.eq_nil_of_length_eq_zero hn
    subst hl
    have HO := Lib.hid h
    clear h
    go_enter Try.func41, Try.ntmps41
    go_wp2
    refine wp_loop_rounds 1 ?_
    rw [rounds_succ]
    go_wp2
    go_ret
    exact ⟨rfl, HO.out, MidA.refl _ _⟩
  · obtain ⟨g, cur, rfl, _⟩ := Own.form h (by simp; omega)
    obtain ⟨hf0, h1, h2, h3, h4⟩ := Own.flat h
    have HF0 := Lib.hid hf0
    have HB := Lib.hid (show lo ≤ g ∧ g < hi ∧ n ≤ cap ∧ cap ≤ maxLen from ⟨h1, h2, by rw [← hn]; simpa using h3, h4⟩)
    have hc : n ≤ cap := HB.out.2.2.1
    clear h hf0 h1 h2 h3 h4 hn
    go_enter Try.func41, Try.ntmps41
    go_wp2
    go_loopw [1, 5] (fun x i wr => ∃ (j q : Nat), j ≤ n ∧ q = k + j ∧ x = .int .i64 (q : Int) ∧ i = .int .i64 j ∧ Hid (Flat wr g (cap * 1) 3 (mFlatI k j)) ∧ Hid (MidA (some ⟨g, 0, none⟩) w wr)) (fun _ i _ => n - (intOf i).toNat)
    case atStart => exact ⟨0, k, by omega, by omega, rfl, rfl, HF0, MidA.refl _ _⟩
    case round =>
      clear HF0
      obtain ⟨j, q, hj, hq, rfl, rfl, HF, HM⟩ := hrel
      by_cases hlt : j < n
      · have HSU := Lib.hid (mFlatI_succ k j q hq)
        have HLE := Lib.hid (mFlatI_len k j)
        obtain ⟨v0, hv0⟩ := HF.out.cell j (by omega)
        have hfr0 := HF.out.free j
        have hj0 : (0 : Int) ≤ (j : Int) := by omega
        have hj1 : (j : Int) < (n : Int) := by omega
        have hq3 : q + 1 ≤ 1000000000 := by omega
        have HQ := Lib.hid hq
        clear hq
        have HF1 := Lib.hid (HF.out.snoc (by rw [HLE.out]; omega) j HLE.out.symm (.int .i64 (q : Int)))
        go_wp2
        go_roundw
        case rel =>
          refine ⟨j + 1, q + 1, by omega, by have := HQ.out; omega, by go_num, by go_num, ?_, HM.out.set _ _⟩
          unfold Hid
          rw [HSU.out]
          exact HF1.out
        case measure => simp [intOf]; omega
      · have hjn : j = n := by omega
        subst hjn
        subst hq
        have ho := Flat.own (L := (mInts k j).map intCs) HF.out (intCs_len _) HB.out.1 HB.out.2.1 (by simp [mInts_len]; exact hc) HB.out.2.2.2
        have HO := Lib.hid ho
        clear ho
        go_wp2
        go_ret
        exact ⟨rfl, HO.out, HM.out⟩

set_option maxRecDepth 100000 in
set_option maxHeartbeats 1000000 in
theorem heldIntS_any (A : Option Addr) (n c k B : Nat) (w : World) (h : IntsB w B A (mInts k n)) (hB : B ≤ w.heap.size) (hk1 : 1 ≤ k) (hk : k + n ≤ 1000000000) :
    Calls Try.prog 42 #[.slice A n c, .int .i64 (k : Int)] w fun e w' => e = .returned (.int .i64 ((k + n : Nat) : Int)) ∧ w = w' := by
  have HS := Lib.hid h
  clear h
  go_enter Try.func42, Try.ntmps42
  go_wp2
  go_loopw [1, 5] (fun x i wr => ∃ (j q : Nat), j ≤ n ∧ q = k + j ∧ x = .int .i64 (q : Int) ∧ i = .int .i64 j ∧ w = wr) (fun _ i _ => n - (intOf i).toNat)
  case atStart => exact ⟨0, k, by omega, by omega, rfl, rfl, rfl⟩
  case round =>
    obtain ⟨j, q, hj, hq, rfl, rfl, rfl⟩ := hrel
    by_cases hlt : j < n
    · obtain ⟨b, off, rfl, hbB, hc⟩ := HS.out.get (by rw [mInts_len]; omega)
      have c0 := hc j (by rw [mInts_len]; exact hlt)
      rw [mInts_at, ← hq] at c0
      have hj0 : (0 : Int) ≤ (j : Int) := by omega
      have hj1 : (j : Int) < (n : Int) := by omega
      have hq3 : q + 1 ≤ 1000000000 := by omega
      have HQ := Lib.hid hq
      clear hq hc
      go_wp2
      go_roundw
      case rel => exact ⟨j + 1, q + 1, by omega, by have := HQ.out; omega, by go_num, by go_num, by trivial⟩
      case measure => simp [intOf]; omega
    · have hjn : j = n := by omega
      subst hjn
      subst hq
      go_wp2
      go_ret
      exact ⟨rfl, rfl⟩

end Go.Proofs.Ytlfdefjkfacngaa.Nt
