/-
  Contracts for the laws' helpers that write over what is owned (markIntS, markLetterS, markNet) and find it again (heldIntS, heldLetterS, heldNet).
-/
import Derived.Test.YtojplmjoipjabaaNtMem
import Derived.Test.YtojplmjoipjabaaBel
namespace Go.Proofs.Ytojplmjoipjabaa.Nt
open Go.RowKit
set_option linter.unusedVariables false
set_option linter.unusedSimpArgs false

def mLt (k : Nat) : (Int × Int × Int × ByteArray) := ((k : Int), ((k + 1 : Nat) : Int), ((k + 2 : Nat) : Int), mark (k + 3))
def mInts (k n : Nat) : List Int := (List.range n).map fun i => ((k + i : Nat) : Int)
def mLts (k n : Nat) : List (Int × Int × Int × ByteArray) := (List.range n).map fun i => mLt (k + 4 * i)
theorem mInts_len (k n : Nat) : (mInts k n).length = n := by simp [mInts]
theorem mLts_len (k n : Nat) : (mLts k n).length = n := by simp [mLts]
theorem mInts_at (k n j : Nat) (h : j < (mInts k n).length) : (mInts k n)[j] = ((k + j : Nat) : Int) := by simp [mInts]
theorem mLts_at (k n j : Nat) (h : j < (mLts k n).length) : (mLts k n)[j] = mLt (k + 4 * j) := by simp [mLts]
def mFlatI (k n : Nat) : List Value := ((mInts k n).map intCs).flatten
def mFlatL (k n : Nat) : List Value := ((mLts k n).map ltCs).flatten
theorem mFlatI_len (k n : Nat) : (mFlatI k n).length = n := by
  unfold mFlatI; rw [flat_len (intCs_len _), List.length_map, mInts_len, Nat.mul_one]
theorem mFlatL_len (k n : Nat) : (mFlatL k n).length = n * 4 := by
  unfold mFlatL; rw [flat_len (ltCs_len _), List.length_map, mLts_len]
theorem mFlatI_succ (k n q : Nat) (hq : q = k + n) : mFlatI k (n + 1) = mFlatI k n ++ [.int .i64 (q : Int)] := by
  subst hq
  unfold mFlatI mInts
  rw [List.range_succ, List.map_append, List.map_append, List.flatten_append]
  simp [intCs]
theorem mFlatL_succ (k n q : Nat) (hq : q = k + 4 * n) : mFlatL k (n + 1) = (((mFlatL k n ++ [.int .i64 (q : Int)]) ++ [.int .i64 ((q : Int) + 1)]) ++ [.int .i64 ((q : Int) + 2)]) ++ [.string (mark (q + 3))] := by
  subst hq
  unfold mFlatL mLts
  rw [List.range_succ, List.map_append, List.map_append, List.flatten_append]
  simp [mLt, ltCs]

set_option maxRecDepth 100000 in
set_option maxHeartbeats 1000000 in
theorem markIntS_any (A : Option Addr) (n cap k lo hi : Nat) (is : List Int) (w : World) (hn : is.length = n) (h : OwnI w lo hi A cap is) (hk1 : 1 ≤ k) (hk : k + n ≤ 1000000000) :
    Calls Try.prog 19 #[.slice A n cap, .int .i64 (k : Int)] w fun e w' => e = .returned (.int .i64 ((k + n : Nat) : Int)) ∧ OwnI w' lo hi A cap (mInts k n) ∧ MidA A w w' := by
  by_cases hz : n = 0
  · subst hz
    have hl : is = [] := List.eq_nil_of_length_eq_zero hn
    subst hl
    have HO := Lib.hid h
    clear h
    go_enter Try.func19, Try.ntmps19
    go_wp2
    refine wp_loop_rounds 1 ?_
    rw [rounds_succ]
    go_wp2
    go_ret
    exact ⟨rfl, HO.out, MidA.refl _ _⟩
  · obtain ⟨g, cur, rfl, _⟩ := Own.form h (by simp; omega)
    obtain ⟨hf0, h1, h2, h3, h4⟩ := Own.flat h
    have HF0 := Lib.hid hf0
    have HB := Lib.hid (show lo ≤ g ∧ g < hi ∧ n ≤ cap ∧ cap ≤ maxLen from ⟨h1, h2, by rw [← hn]; simpa using h3, h4⟩)
    have hc : n ≤ cap := HB.out.2.2.1
    clear h hf0 h1 h2 h3 h4 hn
    go_enter Try.func19, Try.ntmps19
    go_wp2
    go_loopw [1, 5] (fun x i wr => ∃ (j q : Nat), j ≤ n ∧ q = k + j ∧ x = .int .i64 (q : Int) ∧ i = .int .i64 j ∧ Hid (Flat wr g (cap * 1) 3 (mFlatI k j)) ∧ Hid (MidA (some ⟨g, 0, none⟩) w wr)) (fun _ i _ => n - (intOf i).toNat)
    case atStart => exact ⟨0, k, by omega, by omega, rfl, rfl, HF0, MidA.refl _ _⟩
    case round =>
      clear HF0
      obtain ⟨j, q, hj, hq, rfl, rfl, HF, HM⟩ := hrel
      by_cases hlt : j < n
      · have HSU := Lib.hid (mFlatI_succ k j q hq)
        have HLE := Lib.hid (mFlatI_len k j)
        obtain ⟨v0, hv0⟩ := HF.out.cell j (by omega)
        have hfr0 := HF.out.free j
        have hj0 : (0 : Int) ≤ (j : Int) := by omega
        have hj1 : (j : Int) < (n : Int) := by omega
        have hq3 : q + 1 ≤ 1000000000 := by omega
        have HQ := Lib.hid hq
        clear hq
        have HF1 := Lib.hid (HF.out.snoc (by rw [HLE.out]; omega) j HLE.out.symm (.int .i64 (q : Int)))
        go_wp2
        go_roundw
        case rel =>
          refine ⟨j + 1, q + 1, by omega, by have := HQ.out; omega, by go_num, by go_num, ?_, HM.out.set _ _⟩
          unfold Hid
          rw [HSU.out]
          exact HF1.out
        case measure => simp [intOf]; omega
      · have hjn : j = n := by omega
        subst hjn
        subst hq
        have ho := Flat.own (L := (mInts k j).map intCs) HF.out (intCs_len _) HB.out.1 HB.out.2.1 (by simp [mInts_len]; exact hc) HB.out.2.2.2
        have HO := Lib.hid ho
        clear ho
        go_wp2
        go_ret
        exact ⟨rfl, HO.out, HM.out⟩

set_option maxRecDepth 100000 in
set_option maxHeartbeats 1000000 in
theorem markLetterS_any (A : Option Addr) (n cap k lo hi : Nat) (ls : List (Int × Int × Int × ByteArray)) (w : World) (hn : ls.length = n) (h : OwnL w lo hi A cap ls) (hk1 : 1 ≤ k) (hk : k + 4 * n ≤ 1000000000) :
    Calls Try.prog 104 #[.slice A n cap, .int .i64 (k : Int)] w fun e w' => e = .returned (.int .i64 ((k + 4 * n : Nat) : Int)) ∧ OwnL w' lo hi A cap (mLts k n) ∧ MidA A w w' := by
  by_cases hz : n = 0
  · subst hz
    have hl : ls = [] := List.eq_nil_of_length_eq_zero hn
    subst hl
    have HO := Lib.hid h
    clear h
    go_enter Try.func104, Try.ntmps104
    go_wp2
    refine wp_loop_rounds 1 ?_
    rw [rounds_succ]
    go_wp2
    go_ret
    exact ⟨rfl, HO.out, MidA.refl _ _⟩
  · obtain ⟨g, cur, rfl, _⟩ := Own.form h (by simp; omega)
    obtain ⟨hf0, h1, h2, h3, h4⟩ := Own.flat h
    have HF0 := Lib.hid hf0
    have HB := Lib.hid (show lo ≤ g ∧ g < hi ∧ n ≤ cap ∧ cap ≤ maxLen from ⟨h1, h2, by rw [← hn]; simpa using h3, h4⟩)
    have hc : n ≤ cap := HB.out.2.2.1
    clear h hf0 h1 h2 h3 h4 hn
    go_enter Try.func104, Try.ntmps104
    go_wp2
    go_loopw [1, 5] (fun x i wr => ∃ (j q : Nat), j ≤ n ∧ q = k + 4 * j ∧ x = .int .i64 (q : Int) ∧ i = .int .i64 j ∧ Hid (Flat wr g (cap * 4) 66 (mFlatL k j)) ∧ Hid (MidA (some ⟨g, 0, none⟩) w wr)) (fun _ i _ => n - (intOf i).toNat)
    case atStart => exact ⟨0, k, by omega, by omega, rfl, rfl, HF0, MidA.refl _ _⟩
    case round =>
      clear HF0
      obtain ⟨j, q, hj, hq, rfl, rfl, HF, HM⟩ := hrel
      by_cases hlt : j < n
      · have HC := Lib.hid (fun W => mark_any (q + 3) W (by omega) (by omega))
        rw [show ((q + 3 : Nat) : Int) = (q : Int) + 1 + 1 + 1 from by omega] at HC
        have HSU := Lib.hid (mFlatL_succ k j q hq)
        have HLE := Lib.hid (mFlatL_len k j)
        have hj0 : (0 : Int) ≤ (j : Int) := by omega
        have hj1 : (j : Int) < (n : Int) := by omega
        have hq3 : q + 4 ≤ 1000000000 := by omega
        have HQ := Lib.hid hq
        obtain ⟨v0, hv0⟩ := HF.out.cell (j * 4) (by omega)
        obtain ⟨v1, hv1⟩ := HF.out.cell (j * 4 + 1) (by omega)
        obtain ⟨v2, hv2⟩ := HF.out.cell (j * 4 + 2) (by omega)
        have hfr0 := HF.out.free (j * 4)
        have hfr1 := HF.out.free (j * 4 + 1)
        have hfr2 := HF.out.free (j * 4 + 2)
        have HF1 := Lib.hid (((HF.out.snoc (by rw [HLE.out]; omega) (j * 4) HLE.out.symm (.int .i64 (q : Int))).snoc (by simp [HLE.out]; omega) (j * 4 + 1) (by simp [HLE.out]) (.int .i64 ((q : Int) + 1))).snoc (by simp [HLE.out]; omega) (j * 4 + 2) (by simp [HLE.out]) (.int .i64 ((q : Int) + 2)))
        have HM1 := Lib.hid (((HM.out.set (j * 4) (.int .i64 (q : Int))).set (j * 4 + 1) (.int .i64 ((q : Int) + 1))).set (j * 4 + 2) (.int .i64 ((q : Int) + 2)))
        clear hq
        rw [show (q : Int) + 2 = (q : Int) + 1 + 1 from by omega] at HF1 HM1
        go_wp2_with fail
        refine (HC.out _).mono ?_
        rintro e w2 ⟨rfl, hb2⟩
        have hf2 := HF1.out.below hb2
        have HM2 := Lib.hid (HM1.out.trans (midA_of hb2))
        obtain ⟨v3, hv3⟩ := hf2.cell (j * 4 + 3) (by omega)
        have hfr3 := hf2.free (j * 4 + 3)
        have HF3 := Lib.hid (fun u => hf2.snoc (by simp [HLE.out]; omega) (j * 4 + 3) (by simp [HLE.out]) u)
        clear hf2 hb2 hv0 hfr0 hv1 hfr1 hv2 hfr2
        go_wp2
        go_roundw
        case rel =>
          refine ⟨j + 1, q + 4, by omega, by have := HQ.out; omega, by go_num, by go_num, ?_, HM2.out.set _ _⟩
          unfold Hid
          rw [HSU.out, show (q : Int) + 2 = (q : Int) + 1 + 1 from by omega]
          exact HF3.out _
        case measure => simp [intOf]; omega
      · have hjn : j = n := by omega
        subst hjn
        subst hq
        have ho := Flat.own (L := (mLts k j).map ltCs) HF.out (ltCs_len _) HB.out.1 HB.out.2.1 (by simp [mLts_len]; exact hc) HB.out.2.2.2
        have HO := Lib.hid ho
        clear ho
        go_wp2
        go_ret
        exact ⟨rfl, HO.out, HM.out⟩

set_option maxRecDepth 100000 in
set_option maxHeartbeats 1000000 in
theorem heldIntS_any (A : Option Addr) (n c k B : Nat) (w : World) (h : IntsB w B A (mInts k n)) (hB : B ≤ w.heap.size) (hk1 : 1 ≤ k) (hk : k + n ≤ 1000000000) :
    Calls Try.prog 105 #[.slice A n c, .int .i64 (k : Int)] w fun e w' => e = .returned (.int .i64 ((k + n : Nat) : Int)) ∧ w = w' := by
  have HS := Lib.hid h
  clear h
  go_enter Try.func105, Try.ntmps105
  go_wp2
  go_loopw [1, 5] (fun x i wr => ∃ (j q : Nat), j ≤ n ∧ q = k + j ∧ x = .int .i64 (q : Int) ∧ i = .int .i64 j ∧ w = wr) (fun _ i _ => n - (intOf i).toNat)
  case atStart => exact ⟨0, k, by omega, by omega, rfl, rfl, rfl⟩
  case round =>
    obtain ⟨j, q, hj, hq, rfl, rfl, rfl⟩ := hrel
    by_cases hlt : j < n
    · obtain ⟨b, off, rfl, hbB, hc⟩ := HS.out.get (by rw [mInts_len]; omega)
      have c0 := hc j (by rw [mInts_len]; exact hlt)
      rw [mInts_at, ← hq] at c0
      have hj0 : (0 : Int) ≤ (j : Int) := by omega
      have hj1 : (j : Int) < (n : Int) := by omega
      have hq3 : q + 1 ≤ 1000000000 := by omega
      have HQ := Lib.hid hq
      clear hq hc
      go_wp2
      go_roundw
      case rel => exact ⟨j + 1, q + 1, by omega, by have := HQ.out; omega, by go_num, by go_num, by trivial⟩
      case measure => simp [intOf]; omega
    · have hjn : j = n := by omega
      subst hjn
      subst hq
      go_wp2
      go_ret
      exact ⟨rfl, rfl⟩

set_option maxRecDepth 100000 in
set_option maxHeartbeats 1000000 in
theorem heldLetterS_any (A : Option Addr) (n c k B : Nat) (w : World) (h : LetsB w B A (mLts k n)) (hB : B ≤ w.heap.size) (hk1 : 1 ≤ k) (hk : k + 4 * n ≤ 1000000000) :
    Calls Try.prog 106 #[.slice A n c, .int .i64 (k : Int)] w fun e w' => e = .returned (.int .i64 ((k + 4 * n : Nat) : Int)) ∧ Below w.heap.size w w' := by
  have HS := Lib.hid h
  clear h
  go_enter Try.func106, Try.ntmps106
  go_wp2
  go_loopw [1, 5] (fun x i wr => ∃ (j q : Nat), j ≤ n ∧ q = k + 4 * j ∧ x = .int .i64 (q : Int) ∧ i = .int .i64 j ∧ Below w.heap.size w wr) (fun _ i _ => n - (intOf i).toNat)
  case atStart => exact ⟨0, k, by omega, by omega, rfl, rfl, Below.refl _ _⟩
  case round =>
    obtain ⟨j, q, hj, hq, rfl, rfl, hb⟩ := hrel
    by_cases hlt : j < n
    · obtain ⟨b, off, rfl, hbB, hc⟩ := HS.out.get (by rw [mLts_len]; omega)
      obtain ⟨hc0, hc1, hc2, hc3⟩ := hc j (by rw [mLts_len]; exact hlt)
      rw [mLts_at, ← hq] at hc0 hc1 hc2 hc3
      unfold mLt at hc0 hc1 hc2 hc3
      simp only at hc0 hc1 hc2 hc3
      rw [show ((q + 1 : Nat) : Int) = (q : Int) + 1 from by omega] at hc1
      rw [show ((q + 2 : Nat) : Int) = (q : Int) + 1 + 1 from by omega] at hc2
      have HC := Lib.hid (fun W => mark_any (q + 3) W (by omega) (by omega))
      rw [show ((q + 3 : Nat) : Int) = (q : Int) + 1 + 1 + 1 from by omega] at HC
      obtain ⟨t, ht⟩ : ∃ t, t = mark (q + 3) := ⟨_, rfl⟩
      rw [← ht] at hc3 HC
      have hbr : b < wr.heap.size := Nat.lt_of_lt_of_le hbB (Nat.le_trans hB hb.size)
      have c0 := (hb.cell (p := ⟨b, off + j * 4, none⟩) (Nat.lt_of_lt_of_le hbB hB)).trans hc0
      have c1 := (hb.cell (p := ⟨b, off + j * 4 + 1, none⟩) (Nat.lt_of_lt_of_le hbB hB)).trans hc1
      have c2 := (hb.cell (p := ⟨b, off + j * 4 + 2, none⟩) (Nat.lt_of_lt_of_le hbB hB)).trans hc2
      have c3 := (hb.cell (p := ⟨b, off + j * 4 + 3, none⟩) (Nat.lt_of_lt_of_le hbB hB)).trans hc3
      have y3 := bel_cell c3 hbr
      have hj0 : (0 : Int) ≤ (j : Int) := by omega
      have hj1 : (j : Int) < (n : Int) := by omega
      have hq3 : q + 4 ≤ 1000000000 := by omega
      have HQ := Lib.hid hq
      have HB := Lib.hid hb
      clear hq ht hc hc0 hc1 hc2 hc3 c3 hb
      go_wp2_with fail
      refine bel_region (by kernel_rfl) (by kernel_rfl) ?_
      repeat (go_big_quiet_step ((go_at_call 125; exact bel_call (HC.out _))))
      refine wpQuiet_nil ?_
      intro p
      have HB4 := Lib.hid (HB.out.trans (p.below.mono HB.out.size))
      go_wp2
      go_roundw
      case rel => exact ⟨j + 1, q + 4, by omega, by have := HQ.out; omega, by go_num, by go_num, HB4.out⟩
      case measure => simp [intOf]; omega
    · have hjn : j = n := by omega
      subst hjn
      subst hq
      go_wp2
      go_ret
      exact ⟨rfl, hb⟩
end Go.Proofs.Ytojplmjoipjabaa.Nt
