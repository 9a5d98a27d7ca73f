/-
  Contracts for the laws' helpers on rows of disks: sizes, copies, comparisons, marks.
-/
import Derived.Test.YtkhndofplebcaaaHsDk
import Derived.Test.YtkhndofplebcaaaDk1
import Derived.Test.YtkhndofplebcaaaHeld
namespace Go.Proofs.Ytkhndofplebcaaa.Hs
open Go.RowKit
set_option linter.unusedVariables false
set_option linter.unusedSimpArgs false

/-- What toDiskS hands back: the same data, in a block of its own. -/
def ToDPost (ws : List DK) (n : Nat) (w : World) (e : Ending) (w' : World) : Prop :=
  ∃ (g : Nat), e = .returned (.slice (some ⟨g, 0, none⟩) n n) ∧ OwnD w' w.heap.size w'.heap.size (some ⟨g, 0, none⟩) n ws ∧ Below w.heap.size w w'
set_option maxRecDepth 100000 in
set_option maxHeartbeats 1000000 in
theorem eqDiskS_same (A A' : Option Addr) (n c c' : Nat) (ws : List DK) (B : Nat) (w : World) (hn : ws.length = n) (h : DksB w B A ws) (h' : DksB w B A' ws) (hB : B ≤ w.heap.size) (hl : n ≤ 1048576) :
    Calls Try.prog 51 #[.slice A n c, .slice A' n c'] w fun e w' => e = .returned (.bool true) ∧ Below w.heap.size w w' := by
  have hge := Nat.le_of_eq hn
  have hle := Nat.le_of_eq hn.symm
  have HS := Lib.hid h
  have HS' := Lib.hid h'
  clear hn h h'
  go_enter Try.func51, Try.ntmps51
  go_wp2
  go_loopw [5] (fun i wr => ∃ k : Nat, k ≤ n ∧ i = .int .i64 k ∧ Below w.heap.size w wr) (fun i _ => n - (intOf i).toNat)
  case atStart => exact ⟨0, by omega, rfl, Below.refl _ _⟩
  case round =>
    obtain ⟨k, hk, rfl, hb⟩ := hrel
    by_cases hlt : k < n
    · obtain ⟨b, off, rfl, hbB, hc⟩ := HS.out.get (by omega)
      obtain ⟨b', off', rfl, hbB', hc'⟩ := HS'.out.get (by omega)
      obtain ⟨hc0, hc1⟩ := hc k (by omega)
      obtain ⟨hd0, hd1⟩ := hc' k (by omega)
      have c0 := (hb.cell (p := ⟨b, off + k * 2, none⟩) (Nat.lt_of_lt_of_le hbB hB)).trans hc0
      have c1 := (hb.cell (p := ⟨b, off + k * 2 + 1, none⟩) (Nat.lt_of_lt_of_le hbB hB)).trans hc1
      have d0 := (hb.cell (p := ⟨b', off' + k * 2, none⟩) (Nat.lt_of_lt_of_le hbB' hB)).trans hd0
      have d1 := (hb.cell (p := ⟨b', off' + k * 2 + 1, none⟩) (Nat.lt_of_lt_of_le hbB' hB)).trans hd1
      obtain ⟨y, hy⟩ : ∃ y, y = ws[k]'(by omega) := ⟨_, rfl⟩
      rw [← hy] at c0 c1 d0 d1
      obtain ⟨t, s⟩ := y
      simp only at c0 c1 d0 d1
      have hk0 : (0 : Int) ≤ (k : Int) := by omega
      have hkn : (k : Int) < (n : Int) := by omega
      have hb1 : b < wr.heap.size := Nat.lt_of_lt_of_le hbB (Nat.le_trans hB hb.size)
      have hb2 : b' < wr.heap.size := Nat.lt_of_lt_of_le hbB' (Nat.le_trans hB hb.size)
      have HB := Lib.hid hb
      clear hc hc' hc0 hc1 hd0 hd1 hy hb
      go_wp2_with fail
      go_region_held3 (fun w' => w'.cell? ⟨b, off + k * 2, none⟩ = some (.string t) ∧ w'.cell? ⟨b, off + k * 2 + 1, none⟩ = some (.string s) ∧ w'.cell? ⟨b', off' + k * 2, none⟩ = some (.string t) ∧ w'.cell? ⟨b', off' + k * 2 + 1, none⟩ = some (.string s))
        (first | exact ⟨c0, c1, d0, d1⟩ | (go_split_ands; exact ⟨kept2 hb4 c0 hb1, kept2 hb4 c1 hb1, kept2 hb4 d0 hb2, kept2 hb4 d1 hb2⟩))
        ((go_at_call 107; (with_reducible refine (Dk.eqDisk_same _ _ _).mono ?_); rintro e w4 ⟨rfl, hb4⟩))
      have HBB := Lib.hid (Below.trans (b := wr.drew) HB.out.drew (hb4.mono HB.out.size))
      clear hb4
      go_wp2
      go_roundw
      case rel => exact ⟨k + 1, by omega, by go_num, HBB.out⟩
      case measure => simp [intOf]; omega
    · go_wp2
      go_ret
      exact ⟨rfl, hb⟩

set_option maxRecDepth 100000 in
set_option maxHeartbeats 1000000 in
theorem markDiskS_any (A : Option Addr) (n cap k lo hi : Nat) (ws : List DK) (w : World) (hn : ws.length = n) (h : OwnD w lo hi A cap ws) (hk1 : 1 ≤ k) (hk : k + 2 * n ≤ 1000000000) :
    Calls Try.prog 52 #[.slice A n cap, .int .i64 (k : Int)] w fun e w' => e = .returned (.int .i64 ((k + 2 * n : Nat) : Int)) ∧ OwnD w' lo hi A cap (mDks k n) ∧ MidA A w w' := by
  unfold OwnD at h ⊢
  by_cases hz : n = 0
  · subst hz
    have hl : ws = [] := List.eq_nil_of_length_eq_zero hn
    subst hl
    have HO := Lib.hid h
    clear h
    go_enter Try.func52, Try.ntmps52
    go_wp2
    refine wp_loop_rounds 1 ?_
    rw [rounds_succ]
    go_wp2
    go_ret
    exact ⟨rfl, HO.out, MidA.refl _ _⟩
  · obtain ⟨g, cur, rfl, _⟩ := h.form (by simp; omega)
    obtain ⟨hf0, h1, h2, h3, h4⟩ := h.flat
    have HF0 := Lib.hid hf0
    have HB := Lib.hid (show lo ≤ g ∧ g < hi ∧ n ≤ cap ∧ cap ≤ maxLen from ⟨h1, h2, by rw [← hn]; simpa using h3, h4⟩)
    have hc : n ≤ cap := HB.out.2.2.1
    clear h hf0 h1 h2 h3 h4 hn
    go_enter Try.func52, Try.ntmps52
    go_wp2
    go_loopw [1, 5] (fun x i wr => ∃ (j q : Nat), j ≤ n ∧ q = k + 2 * j ∧ x = .int .i64 (q : Int) ∧ i = .int .i64 j ∧ Hid (Flat wr g (cap * 2) 135 (mFlatD k j)) ∧ Hid (MidA (some ⟨g, 0, none⟩) w wr)) (fun _ i _ => n - (intOf i).toNat)
    case atStart => exact ⟨0, k, by omega, by omega, rfl, rfl, HF0, MidA.refl _ _⟩
    case round =>
      clear HF0
      obtain ⟨j, q, hj, hq, rfl, rfl, HF, HM⟩ := hrel
      by_cases hlt : j < n
      · have HC0 := Lib.hid (fun W => mark_any q W (by omega) (by omega))
        have HC := Lib.hid (fun W => mark_any (q + 1) W (by omega) (by omega))
        rw [show ((q + 1 : Nat) : Int) = (q : Int) + 1 from by omega] at HC
        have HSU := Lib.hid (mFlatD_succ k j q hq)
        have HLE := Lib.hid (mFlatD_len k j)
        have hj0 : (0 : Int) ≤ (j : Int) := by omega
        have hj1 : (j : Int) < (n : Int) := by omega
        have hq3 : q + 2 ≤ 1000000000 := by omega
        have HQ := Lib.hid hq
        clear hq
        go_wp2_with fail
        refine (HC0.out _).mono ?_
        rintro e w1 ⟨rfl, hb1⟩
        have hf1 := HF.out.below hb1
        obtain ⟨v0, hv0⟩ := hf1.cell (j * 2) (by omega)
        have hfr0 := hf1.free (j * 2)
        have HF1 := Lib.hid (hf1.snoc (by rw [HLE.out]; omega) (j * 2) HLE.out.symm (.string (mark q)))
        have HM1 := Lib.hid ((HM.out.trans (midA_of hb1)).set (j * 2) (.string (mark q)))
        clear hf1 hb1
        go_wp2_with fail
        refine (HC.out _).mono ?_
        rintro e w2 ⟨rfl, hb2⟩
        have hf2 := HF1.out.below hb2
        have HM2 := Lib.hid (HM1.out.trans (midA_of hb2))
        obtain ⟨v1, hv1⟩ := hf2.cell (j * 2 + 1) (by omega)
        have hfr1 := hf2.free (j * 2 + 1)
        have HF3 := Lib.hid (fun u => hf2.snoc (by simp [HLE.out]; omega) (j * 2 + 1) (by simp [HLE.out]) u)
        clear hf2 hb2 hv0 hfr0
        go_wp2
        go_roundw
        case rel =>
          refine ⟨j + 1, q + 2, by omega, by have := HQ.out; omega, by go_num, by go_num, ?_, HM2.out.set _ _⟩
          unfold Hid
          rw [HSU.out]
          exact HF3.out _
        case measure => simp [intOf]; omega
      · have hjn : j = n := by omega
        subst hjn
        subst hq
        have ho := Flat.own (L := (mDks k j).map dkCs) HF.out (dkCs_len _) HB.out.1 HB.out.2.1 (by simp [mDks_len]; exact hc) HB.out.2.2.2
        have HO := Lib.hid ho
        clear ho
        go_wp2
        go_ret
        exact ⟨rfl, HO.out, HM.out⟩

set_option maxRecDepth 100000 in
set_option maxHeartbeats 1000000 in
theorem heldDiskS_any (A : Option Addr) (n c k B : Nat) (w : World) (h : DksB w B A (mDks k n)) (hB : B ≤ w.heap.size) (hk1 : 1 ≤ k) (hk : k + 2 * n ≤ 1000000000) :
    Calls Try.prog 53 #[.slice A n c, .int .i64 (k : Int)] w fun e w' => e = .returned (.int .i64 ((k + 2 * n : Nat) : Int)) ∧ Below w.heap.size w w' := by
  have HS := Lib.hid h
  clear h
  go_enter Try.func53, Try.ntmps53
  go_wp2
  go_loopw [1, 5] (fun x i wr => ∃ (j q : Nat), j ≤ n ∧ q = k + 2 * j ∧ x = .int .i64 (q : Int) ∧ i = .int .i64 j ∧ Below w.heap.size w wr) (fun _ i _ => n - (intOf i).toNat)
  case atStart => exact ⟨0, k, by omega, by omega, rfl, rfl, Below.refl _ _⟩
  case round =>
    obtain ⟨j, q, hj, hq, rfl, rfl, hb⟩ := hrel
    by_cases hlt : j < n
    · obtain ⟨b, off, rfl, hbB, hc⟩ := HS.out.get (by rw [mDks_len]; omega)
      obtain ⟨hc0, hc1⟩ := hc j (by rw [mDks_len]; exact hlt)
      rw [mDks_at, ← hq] at hc0 hc1
      unfold mDk at hc0 hc1
      simp only at hc0 hc1
      have HC0 := Lib.hid (fun W => mark_any q W (by omega) (by omega))
      obtain ⟨t0, ht0⟩ : ∃ t, t = mark q := ⟨_, rfl⟩
      rw [← ht0] at hc0 HC0
      have HC := Lib.hid (fun W => mark_any (q + 1) W (by omega) (by omega))
      rw [show ((q + 1 : Nat) : Int) = (q : Int) + 1 from by omega] at HC
      obtain ⟨t, ht⟩ : ∃ t, t = mark (q + 1) := ⟨_, rfl⟩
      rw [← ht] at hc1 HC
      have hbr : b < wr.heap.size := Nat.lt_of_lt_of_le hbB (Nat.le_trans hB hb.size)
      have c0 := (hb.cell (p := ⟨b, off + j * 2, none⟩) (Nat.lt_of_lt_of_le hbB hB)).trans hc0
      have c1 := (hb.cell (p := ⟨b, off + j * 2 + 1, none⟩) (Nat.lt_of_lt_of_le hbB hB)).trans hc1
      have y0 := bel_cell c0 hbr
      have hj0 : (0 : Int) ≤ (j : Int) := by omega
      have hj1 : (j : Int) < (n : Int) := by omega
      have hq3 : q + 2 ≤ 1000000000 := by omega
      have HQ := Lib.hid hq
      have HB := Lib.hid hb
      clear hq ht ht0 hc hc0 hc1 c0 hb
      go_wp2_with fail
      refine bel_region (by kernel_rfl) (by kernel_rfl) ?_
      repeat (go_big_quiet_step ((go_at_call 108; exact bel_call (HC0.out _))))
      refine wpQuiet_nil ?_
      intro p
      have hbp : b < p.w.heap.size := Nat.lt_of_lt_of_le hbr p.sz
      have x1 := bel_cell c1 hbr p
      obtain ⟨W2, hW2⟩ : ∃ W2, W2 = p.w := ⟨_, rfl⟩
      have HB3 := Lib.hid (HB.out.trans (p.below.mono HB.out.size))
      rw [← hW2] at hbp x1 HB3 ⊢
      clear hW2
      have y1 := bel_cell x1 hbp
      go_wp2_with fail
      refine bel_region (by kernel_rfl) (by kernel_rfl) ?_
      repeat (go_big_quiet_step ((go_at_call 108; exact bel_call (HC.out _))))
      refine wpQuiet_nil ?_
      intro p
      have HB4 := Lib.hid (HB3.out.trans (p.below.mono HB3.out.size))
      go_wp2
      go_roundw
      case rel => exact ⟨j + 1, q + 2, by omega, by have := HQ.out; omega, by go_num, by go_num, HB4.out⟩
      case measure => simp [intOf]; omega
    · have hjn : j = n := by omega
      subst hjn
      subst hq
      go_wp2
      go_ret
      exact ⟨rfl, hb⟩
end Go.Proofs.Ytkhndofplebcaaa.Hs
