/-
  Contracts for the laws' helpers that mark a slice of strings and ask for the marks: markStringS, heldStringS.
-/
import Derived.Test.YtkhndofplebcaaaStr
import Derived.Test.YtkhndofplebcaaaHeld
namespace Go.Proofs.Ytkhndofplebcaaa
open Go.RowKit
set_option linter.unusedVariables false

def mStrs (k n : Nat) : List ByteArray := (List.range n).map fun i => mark (k + i)
theorem mStrs_len (k n : Nat) : (mStrs k n).length = n := by simp [mStrs]
theorem mStrs_at (k n j : Nat) (h : j < (mStrs k n).length) : (mStrs k n)[j] = mark (k + j) := by simp [mStrs]
def mFlatS (k n : Nat) : List Value := ((mStrs k n).map strCs).flatten
theorem mFlatS_len (k n : Nat) : (mFlatS k n).length = n := by
  unfold mFlatS; rw [flat_len (sz := 1) (strCs_len _)]; simp [mStrs_len]
theorem mFlatS_succ (k n : Nat) : mFlatS k (n + 1) = mFlatS k n ++ [.string (mark (k + n))] := by
  unfold mFlatS mStrs
  rw [List.range_succ, List.map_append, List.map_append, List.flatten_append]
  rfl

set_option maxRecDepth 100000 in
set_option maxHeartbeats 1000000 in
theorem markStringS_any (A : Option Addr) (n cap k lo hi : Nat) (xs : List ByteArray) (w : World) (hn : xs.length = n) (h : OwnS w lo hi A cap xs) (hk1 : 1 ≤ k) (hk : k + n ≤ 1000000000) :
    Calls Try.prog 71 #[.slice A n cap, .int .i64 (k : Int)] w fun e w' => e = .returned (.int .i64 ((k + n : Nat) : Int)) ∧ OwnS w' lo hi A cap (mStrs k n) ∧ MidA A w w' := by
  by_cases hz : n = 0
  · subst hz
    have hl : xs = [] := List.eq_nil_of_length_eq_zero hn
    subst hl
    have HO := Lib.hid h
    clear h
    go_enter Try.func71, Try.ntmps71
    go_wp2
    refine wp_loop_rounds 1 ?_
    rw [rounds_succ]
    go_wp2
    go_ret
    exact ⟨rfl, HO.out, MidA.refl _ _⟩
  · obtain ⟨g, cur, rfl, _⟩ := h.form (by simp; omega)
    obtain ⟨hf0, h1, h2, h3, h4⟩ := h.flat
    rw [Nat.mul_one] at hf0
    have HF0 := Lib.hid hf0
    have HB := Lib.hid (show lo ≤ g ∧ g < hi ∧ n ≤ cap ∧ cap ≤ maxLen from ⟨h1, h2, by rw [← hn]; simpa using h3, h4⟩)
    have hc : n ≤ cap := HB.out.2.2.1
    clear h hf0 h1 h2 h3 h4 hn
    go_enter Try.func71, Try.ntmps71
    go_wp2
    go_loopw [1, 5] (fun x i wr => ∃ (j q : Nat), j ≤ n ∧ q = k + j ∧ x = .int .i64 (q : Int) ∧ i = .int .i64 j ∧ Hid (Flat wr g cap 9 (mFlatS k j)) ∧ Hid (MidA (some ⟨g, 0, none⟩) w wr)) (fun _ i _ => n - (intOf i).toNat)
    case atStart => exact ⟨0, k, by omega, by omega, rfl, rfl, HF0, MidA.refl _ _⟩
    case round =>
      clear HF0
      obtain ⟨j, q, hj, hq, rfl, rfl, HF, HM⟩ := hrel
      by_cases hlt : j < n
      · have HC0 := Lib.hid (fun W => mark_any q W (by omega) (by omega))
        have HSU := Lib.hid (mFlatS_succ k j)
        rw [← hq] at HSU
        have HLE := Lib.hid (mFlatS_len k j)
        have hj0 : (0 : Int) ≤ (j : Int) := by omega
        have hj1 : (j : Int) < (n : Int) := by omega
        have hq3 : q + 1 ≤ 1000000000 := by omega
        have HQ := Lib.hid hq
        clear hq
        go_wp2_with fail
        refine (HC0.out _).mono ?_
        rintro e w1 ⟨rfl, hb1⟩
        have hf1 := HF.out.below hb1
        obtain ⟨v0, hv0⟩ := hf1.cell j (by omega)
        have hfr0 := hf1.free j
        have HF1 := Lib.hid (hf1.snoc (by rw [HLE.out]; omega) j HLE.out.symm (.string (mark q)))
        have HM1 := Lib.hid ((HM.out.trans (midA_of hb1)).set j (.string (mark q)))
        clear hf1 hb1
        go_wp2
        go_roundw
        case rel =>
          refine ⟨j + 1, q + 1, by omega, by have := HQ.out; omega, by go_num, by go_num, ?_, HM1⟩
          unfold Hid
          rw [HSU.out]
          exact HF1.out
        case measure => simp [intOf]; omega
      · have hjn : j = n := by omega
        subst hjn
        subst hq
        have ho := Flat.own (w := wr) (g := g) (cap := cap) (sz := 1) (t := 9) (lo := lo) (hi := hi) (L := (mStrs k j).map strCs) (by rw [Nat.mul_one]; exact HF.out) (strCs_len _) HB.out.1 HB.out.2.1 (by simp [mStrs_len]; exact hc) HB.out.2.2.2
        have HO := Lib.hid ho
        clear ho
        go_wp2
        go_ret
        exact ⟨rfl, HO.out, HM.out⟩

set_option maxRecDepth 100000 in
set_option maxHeartbeats 1000000 in
theorem heldStringS_any (A : Option Addr) (n c k B : Nat) (w : World) (h : StrsB w B A (mStrs k n)) (hB : B ≤ w.heap.size) (hk1 : 1 ≤ k) (hk : k + n ≤ 1000000000) :
    Calls Try.prog 103 #[.slice A n c, .int .i64 (k : Int)] w fun e w' => e = .returned (.int .i64 ((k + n : Nat) : Int)) ∧ Below w.heap.size w w' := by
  have HS := Lib.hid h
  clear h
  go_enter Try.func103, Try.ntmps103
  go_wp2
  go_loopw [1, 5] (fun x i wr => ∃ (j q : Nat), j ≤ n ∧ q = k + j ∧ x = .int .i64 (q : Int) ∧ i = .int .i64 j ∧ Below w.heap.size w wr) (fun _ i _ => n - (intOf i).toNat)
  case atStart => exact ⟨0, k, by omega, by omega, rfl, rfl, Below.refl _ _⟩
  case round =>
    obtain ⟨j, q, hj, hq, rfl, rfl, hb⟩ := hrel
    by_cases hlt : j < n
    · obtain ⟨b, off, rfl, hbB, hc⟩ := HS.out.get (by rw [mStrs_len]; omega)
      have hc0 := hc j (by rw [mStrs_len]; exact hlt)
      rw [mStrs_at, ← hq] at hc0
      have HC0 := Lib.hid (fun W => mark_any q W (by omega) (by omega))
      obtain ⟨t0, ht0⟩ : ∃ t, t = mark q := ⟨_, rfl⟩
      rw [← ht0] at hc0 HC0
      have hbr : b < wr.heap.size := Nat.lt_of_lt_of_le hbB (Nat.le_trans hB hb.size)
      have c0 := (hb.cell (p := ⟨b, off + j, none⟩) (Nat.lt_of_lt_of_le hbB hB)).trans hc0
      have y0 := bel_cell c0 hbr
      have hj0 : (0 : Int) ≤ (j : Int) := by omega
      have hj1 : (j : Int) < (n : Int) := by omega
      have hq3 : q + 1 ≤ 1000000000 := by omega
      have HQ := Lib.hid hq
      have HB := Lib.hid hb
      clear hq ht0 hc hc0 c0 hb
      go_wp2_with fail
      refine bel_region (by kernel_rfl) (by kernel_rfl) ?_
      repeat (go_big_quiet_step ((go_at_call 108; exact bel_call (HC0.out _))))
      refine wpQuiet_nil ?_
      intro p
      have HB3 := Lib.hid (HB.out.trans (p.below.mono HB.out.size))
      go_wp2
      go_roundw
      case rel => exact ⟨j + 1, q + 1, by omega, by have := HQ.out; omega, by go_num, by go_num, HB3.out⟩
      case measure => simp [intOf]; omega
    · have hjn : j = n := by omega
      subst hjn
      subst hq
      go_wp2
      go_ret
      exact ⟨rfl, hb⟩
end Go.Proofs.Ytkhndofplebcaaa
