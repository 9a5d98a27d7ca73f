/-
  Contracts for the laws' helpers that write over locks and look at what was written.
-/
import Derived.Test.YtlfdefjkfacngaaLkMem
import Derived.Test.YtlfdefjkfacngaaHeld
namespace Go.Proofs.Ytlfdefjkfacngaa.Lk
open Go.RowKit
set_option linter.unusedVariables false
set_option linter.unusedSimpArgs false
def mLk (k : Nat) : LK := (mark k, ((k + 1 : Nat) : Int), decide (((k : Int) + 2) % 3 = 0))
def mLks (k n : Nat) : List LK := (List.range n).map fun i => mLk (k + 3 * i)
theorem mLks_len (k n : Nat) : (mLks k n).length = n := by simp [mLks]
theorem mLks_at (k n j : Nat) (h : j < (mLks k n).length) : (mLks k n)[j] = mLk (k + 3 * j) := by simp [mLks]
def mFlatK (k n : Nat) : List Value := ((mLks k n).map lkCs).flatten
theorem mFlatK_len (k n : Nat) : (mFlatK k n).length = n * 3 := by
  unfold mFlatK; rw [flat_len (lkCs_len _), List.length_map, mLks_len]
theorem mFlatK_succ (k n q : Nat) (hq : q = k + 3 * n) : mFlatK k (n + 1) = ((mFlatK k n ++ [.string (mark q)]) ++ [.int .i64 ((q : Int) + 1)]) ++ [.bool (decide (((q : Int) + 2) % 3 = 0))] := by
  subst hq
  unfold mFlatK mLks
  rw [List.range_succ, List.map_append, List.map_append, List.flatten_append]
  simp [mLk, lkCs]
set_option maxRecDepth 100000 in
set_option maxHeartbeats 1000000 in
theorem markLockS_any (A : Option Addr) (n cap k lo hi : Nat) (ws : List LK) (w : World) (hn : ws.length = n) (h : Own w lo hi 27 3 A cap (ws.map lkCs)) (hk1 : 1 ≤ k) (hk : k + 3 * n ≤ 1000000000) :
    Calls Try.prog 40 #[.slice A n cap, .int .i64 (k : Int)] w fun e w' => e = .returned (.int .i64 ((k + 3 * n : Nat) : Int)) ∧ Own w' lo hi 27 3 A cap ((mLks k n).map lkCs) ∧ MidA A w w' := by
  by_cases hz : n = 0
  · subst hz
    have hl : ws = [] := List.eq_nil_of_length_eq_zero hn
    subst hl
    have HO := Lib.hid h
    clear h
    go_enter Try.func40, Try.ntmps40
    go_wp2
    refine wp_loop_rounds 1 ?_
    rw [rounds_succ]
    go_wp2
    go_ret
    exact ⟨rfl, HO.out, MidA.refl _ _⟩
  · obtain ⟨g, cur, rfl, _⟩ := h.form (by simp; omega)
    obtain ⟨hf0, h1, h2, h3, h4⟩ := h.flat
    have HF0 := Lib.hid hf0
    have HB := Lib.hid (show lo ≤ g ∧ g < hi ∧ n ≤ cap ∧ cap ≤ maxLen from ⟨h1, h2, by rw [← hn]; simpa using h3, h4⟩)
    have hc : n ≤ cap := HB.out.2.2.1
    clear h hf0 h1 h2 h3 h4 hn
    go_enter Try.func40, Try.ntmps40
    go_wp2
    go_loopw [1, 5] (fun x i wr => ∃ (j q : Nat), j ≤ n ∧ q = k + 3 * j ∧ x = .int .i64 (q : Int) ∧ i = .int .i64 j ∧ Hid (Flat wr g (cap * 3) 27 (mFlatK k j)) ∧ Hid (MidA (some ⟨g, 0, none⟩) w wr)) (fun _ i _ => n - (intOf i).toNat)
    case atStart => exact ⟨0, k, by omega, by omega, rfl, rfl, HF0, MidA.refl _ _⟩
    case round =>
      clear HF0
      obtain ⟨j, q, hj, hq, rfl, rfl, HF, HM⟩ := hrel
      by_cases hlt : j < n
      · have HC0 := Lib.hid (fun W => mark_any q W (by omega) (by omega))
        have HSU := Lib.hid (mFlatK_succ k j q hq)
        have HLE := Lib.hid (mFlatK_len k j)
        have hj0 : (0 : Int) ≤ (j : Int) := by omega
        have hj1 : (j : Int) < (n : Int) := by omega
        have hq3 : q + 3 ≤ 1000000000 := by omega
        have HQ := Lib.hid hq
        clear hq
        go_wp2_with fail
        refine (HC0.out _).mono ?_
        rintro e w1 ⟨rfl, hb1⟩
        have hf1 := HF.out.below hb1
        obtain ⟨v0, hv0⟩ := hf1.cell (j * 3) (by omega)
        have hfr0 := hf1.free (j * 3)
        obtain ⟨v1, hv1⟩ := hf1.cell (j * 3 + 1) (by omega)
        obtain ⟨v2, hv2⟩ := hf1.cell (j * 3 + 2) (by omega)
        have hfr1 := hf1.free (j * 3 + 1)
        have hfr2 := hf1.free (j * 3 + 2)
        have HF3 := Lib.hid (fun t u v => ((hf1.snoc (by rw [HLE.out]; omega) (j * 3) HLE.out.symm t).snoc (by simp [HLE.out]; omega) (j * 3 + 1) (by simp [HLE.out]) u).snoc (by simp [HLE.out]; omega) (j * 3 + 2) (by simp [HLE.out]) v)
        have HM2 := Lib.hid (HM.out.trans (midA_of hb1))
        clear hf1 hb1
        go_wp2
        go_roundw
        case rel =>
          refine ⟨j + 1, q + 3, by omega, by have := HQ.out; omega, by go_num, by go_num, ?_, ((HM2.out.set _ _).set _ _).set _ _⟩
          unfold Hid
          rw [HSU.out]
          exact HF3.out _ _ _
        case measure => simp [intOf]; omega
      · have hjn : j = n := by omega
        subst hjn
        subst hq
        have ho := Flat.own (L := (mLks k j).map lkCs) HF.out (lkCs_len _) HB.out.1 HB.out.2.1 (by simp [mLks_len]; exact hc) HB.out.2.2.2
        have HO := Lib.hid ho
        clear ho
        go_wp2
        go_ret
        exact ⟨rfl, HO.out, HM.out⟩
set_option maxRecDepth 100000 in
set_option maxHeartbeats 1000000 in
theorem heldLockS_any (A : Option Addr) (n c k B : Nat) (w : World) (h : LksB w B A (mLks k n)) (hB : B ≤ w.heap.size) (hk1 : 1 ≤ k) (hk : k + 3 * n ≤ 1000000000) :
    Calls Try.prog 43 #[.slice A n c, .int .i64 (k : Int)] w fun e w' => e = .returned (.int .i64 ((k + 3 * n : Nat) : Int)) ∧ Below w.heap.size w w' := by
  have HS := Lib.hid h
  clear h
  go_enter Try.func43, Try.ntmps43
  go_wp2
  go_loopw [1, 5] (fun x i wr => ∃ (j q : Nat), j ≤ n ∧ q = k + 3 * j ∧ x = .int .i64 (q : Int) ∧ i = .int .i64 j ∧ Below w.heap.size w wr) (fun _ i _ => n - (intOf i).toNat)
  case atStart => exact ⟨0, k, by omega, by omega, rfl, rfl, Below.refl _ _⟩
  case round =>
    obtain ⟨j, q, hj, hq, rfl, rfl, hb⟩ := hrel
    by_cases hlt : j < n
    · obtain ⟨b, off, rfl, hbB, hc⟩ := HS.out.get (by rw [mLks_len]; omega)
      obtain ⟨hc0, hc1, hc2⟩ := hc j (by rw [mLks_len]; exact hlt)
      rw [mLks_at, ← hq] at hc0 hc1 hc2
      unfold mLk at hc0 hc1 hc2
      simp only at hc0 hc1 hc2
      have HC0 := Lib.hid (fun W => mark_any q W (by omega) (by omega))
      obtain ⟨t0, ht0⟩ : ∃ t, t = mark q := ⟨_, rfl⟩
      rw [← ht0] at hc0 HC0
      rw [show ((q + 1 : Nat) : Int) = (q : Int) + 1 from by omega] at hc1
      have hbr : b < wr.heap.size := Nat.lt_of_lt_of_le hbB (Nat.le_trans hB hb.size)
      have c0 := (hb.cell (p := ⟨b, off + j * 3, none⟩) (Nat.lt_of_lt_of_le hbB hB)).trans hc0
      have c1 := (hb.cell (p := ⟨b, off + j * 3 + 1, none⟩) (Nat.lt_of_lt_of_le hbB hB)).trans hc1
      have c2 := (hb.cell (p := ⟨b, off + j * 3 + 2, none⟩) (Nat.lt_of_lt_of_le hbB hB)).trans hc2
      have y0 := bel_cell c0 hbr
      have hj0 : (0 : Int) ≤ (j : Int) := by omega
      have hj1 : (j : Int) < (n : Int) := by omega
      have hq3 : q + 3 ≤ 1000000000 := by omega
      have hz := third_eq q
      have HQ := Lib.hid hq
      have HB := Lib.hid hb
      clear hq ht0 hc hc0 hc1 hc2 c0 hb
      go_wp2_with fail
      refine bel_region (by kernel_rfl) (by kernel_rfl) ?_
      repeat (go_big_quiet_step ((go_at_call 89; exact bel_call (HC0.out _))))
      refine wpQuiet_nil ?_
      intro p
      have hbp : b < p.w.heap.size := Nat.lt_of_lt_of_le hbr p.sz
      have x1 := bel_cell c1 hbr p
      have x2 := bel_cell c2 hbr p
      obtain ⟨W2, hW2⟩ : ∃ W2, W2 = p.w := ⟨_, rfl⟩
      have HB3 := Lib.hid (HB.out.trans (p.below.mono HB.out.size))
      rw [← hW2] at hbp x1 x2 HB3 ⊢
      clear hW2
      go_wp2
      go_roundw
      case rel => exact ⟨j + 1, q + 3, by omega, by have := HQ.out; omega, by go_num, by go_num, HB3.out⟩
      case measure => simp [intOf]; omega
    · have hjn : j = n := by omega
      subst hjn
      subst hq
      go_wp2
      go_ret
      exact ⟨rfl, hb⟩
end Go.Proofs.Ytlfdefjkfacngaa.Lk
