/-
  Contracts for the laws' helpers heldVerS, heldWriteS: what the laws laid is found again.
-/
import Derived.Test.YtkhndofplebcaaaMark
import Derived.Test.YtkhndofplebcaaaBel
namespace Go.Proofs.Ytkhndofplebcaaa
open Go.RowKit
set_option linter.unusedVariables false

theorem mVers_at (k n j : Nat) (h : j < (mVers k n).length) : (mVers k n)[j] = mVer (k + 3 * j) := by simp [mVers]
theorem mWrs_at (k n j : Nat) (h : j < (mWrs k n).length) : (mWrs k n)[j] = mWr (k + 3 * j) := by simp [mWrs]

theorem third_eq (q : Nat) : (!decide (((q : Int) + 2) % 3 = 0) == (((q : Int) + 1 + 1) % 3 == 0)) = false := by
  rw [show (q : Int) + 1 + 1 = (q : Int) + 2 from by omega, show (((q : Int) + 2) % 3 == 0) = decide (((q : Int) + 2) % 3 = 0) from rfl]
  cases decide (((q : Int) + 2) % 3 = 0) <;> rfl

set_option maxRecDepth 100000 in
set_option maxHeartbeats 1000000 in
theorem heldWriteS_any (A : Option Addr) (n c k B : Nat) (w : World) (h : WritesB w B A (mWrs k n)) (hB : B ≤ w.heap.size) (hk1 : 1 ≤ k) (hk : k + 3 * n ≤ 1000000000) :
    Calls Try.prog 104 #[.slice A n c, .int .i64 (k : Int)] w fun e w' => e = .returned (.int .i64 ((k + 3 * n : Nat) : Int)) ∧ Below w.heap.size w w' := by
  have HS := Lib.hid h
  clear h
  go_enter Try.func104, Try.ntmps104
  go_wp2
  go_loopw [1, 5] (fun x i wr => ∃ (j q : Nat), j ≤ n ∧ q = k + 3 * j ∧ x = .int .i64 (q : Int) ∧ i = .int .i64 j ∧ Below w.heap.size w wr) (fun _ i _ => n - (intOf i).toNat)
  case atStart => exact ⟨0, k, by omega, by omega, rfl, rfl, Below.refl _ _⟩
  case round =>
    obtain ⟨j, q, hj, hq, rfl, rfl, hb⟩ := hrel
    by_cases hlt : j < n
    · obtain ⟨b, off, rfl, hbB, hc⟩ := HS.out.get (by rw [mWrs_len]; omega)
      obtain ⟨hc0, hc1, hc2⟩ := hc j (by rw [mWrs_len]; exact hlt)
      rw [mWrs_at, ← hq] at hc0 hc1 hc2
      unfold mWr at hc0 hc1 hc2
      simp only at hc0 hc1 hc2
      have HC0 := Lib.hid (fun W => mark_any q W (by omega) (by omega))
      obtain ⟨t0, ht0⟩ : ∃ t, t = mark q := ⟨_, rfl⟩
      rw [← ht0] at hc0 HC0
      have HC := Lib.hid (fun W => mark_any (q + 1) W (by omega) (by omega))
      rw [show ((q + 1 : Nat) : Int) = (q : Int) + 1 from by omega] at HC
      obtain ⟨t, ht⟩ : ∃ t, t = mark (q + 1) := ⟨_, rfl⟩
      rw [← ht] at hc1 HC
      have hbr : b < wr.heap.size := Nat.lt_of_lt_of_le hbB (Nat.le_trans hB hb.size)
      have c0 := (hb.cell (p := ⟨b, off + j * 3, none⟩) (Nat.lt_of_lt_of_le hbB hB)).trans hc0
      have c1 := (hb.cell (p := ⟨b, off + j * 3 + 1, none⟩) (Nat.lt_of_lt_of_le hbB hB)).trans hc1
      have c2 := (hb.cell (p := ⟨b, off + j * 3 + 2, none⟩) (Nat.lt_of_lt_of_le hbB hB)).trans hc2
      have y0 := bel_cell c0 hbr
      have hj0 : (0 : Int) ≤ (j : Int) := by omega
      have hj1 : (j : Int) < (n : Int) := by omega
      have hq3 : q + 3 ≤ 1000000000 := by omega
      have hz := third_eq q
      have HQ := Lib.hid hq
      have HB := Lib.hid hb
      clear hq ht ht0 hc hc0 hc1 hc2 c0 hb
      go_wp2_with fail
      refine bel_region (by kernel_rfl) (by kernel_rfl) ?_
      repeat (go_big_quiet_step ((go_at_call 108; exact bel_call (HC0.out _))))
      refine wpQuiet_nil ?_
      intro p
      have hbp : b < p.w.heap.size := Nat.lt_of_lt_of_le hbr p.sz
      have x1 := bel_cell c1 hbr p
      have x2 := bel_cell c2 hbr p
      obtain ⟨W2, hW2⟩ : ∃ W2, W2 = p.w := ⟨_, rfl⟩
      have HB3 := Lib.hid (HB.out.trans (p.below.mono HB.out.size))
      rw [← hW2] at hbp x1 x2 HB3 ⊢
      clear hW2
      have y1 := bel_cell x1 hbp
      have y2 := bel_cell x2 hbp
      go_wp2_with fail
      refine bel_region (by kernel_rfl) (by kernel_rfl) ?_
      repeat (go_big_quiet_step ((go_at_call 108; exact bel_call (HC.out _))))
      refine wpQuiet_nil ?_
      intro p
      have HB4 := Lib.hid (HB3.out.trans (p.below.mono HB3.out.size))
      go_wp2
      go_roundw
      case rel => exact ⟨j + 1, q + 3, by omega, by have := HQ.out; omega, by go_num, by go_num, HB4.out⟩
      case measure => simp [intOf]; omega
    · have hjn : j = n := by omega
      subst hjn
      subst hq
      go_wp2
      go_ret
      exact ⟨rfl, hb⟩
end Go.Proofs.Ytkhndofplebcaaa
