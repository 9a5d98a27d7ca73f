/-
  Contracts for the laws' helpers that write over what is owned (mark..) and find it again (held..): clocks, leases, acts, watches.
-/
import Derived.Test.YtoanigbjdfgjcaaWtMem
import Derived.Test.YtoanigbjdfgjcaaBel
namespace Go.Proofs.Ytoanigbjdfgjcaa.Wt
open Go.RowKit
set_option linter.unusedVariables false
set_option linter.unusedSimpArgs false

def mLe (k : Nat) : (Int × Int × Int) := ((k : Int), ((k + 1 : Nat) : Int), ((k + 2 : Nat) : Int))
def mCks (k n : Nat) : List Int := (List.range n).map fun i => ((k + i : Nat) : Int)
def mLes (k n : Nat) : List (Int × Int × Int) := (List.range n).map fun i => mLe (k + 3 * i)
theorem mCks_len (k n : Nat) : (mCks k n).length = n := by simp [mCks]
theorem mLes_len (k n : Nat) : (mLes k n).length = n := by simp [mLes]
theorem mCks_at (k n j : Nat) (h : j < (mCks k n).length) : (mCks k n)[j] = ((k + j : Nat) : Int) := by simp [mCks]
theorem mLes_at (k n j : Nat) (h : j < (mLes k n).length) : (mLes k n)[j] = mLe (k + 3 * j) := by simp [mLes]
def mFlatCk (k n : Nat) : List Value := ((mCks k n).map ckCs).flatten
def mFlatLe (k n : Nat) : List Value := ((mLes k n).map leCs).flatten
theorem mFlatCk_len (k n : Nat) : (mFlatCk k n).length = n := by
  unfold mFlatCk; rw [flat_len (ckCs_len _), List.length_map, mCks_len, Nat.mul_one]
theorem mFlatLe_len (k n : Nat) : (mFlatLe k n).length = n * 3 := by
  unfold mFlatLe; rw [flat_len (leCs_len _), List.length_map, mLes_len]
theorem mFlatCk_succ (k n q : Nat) (hq : q = k + n) : mFlatCk k (n + 1) = mFlatCk k n ++ [.int .i64 (q : Int)] := by
  subst hq
  unfold mFlatCk mCks
  rw [List.range_succ, List.map_append, List.map_append, List.flatten_append]
  simp [ckCs]
theorem mFlatLe_succ (k n q : Nat) (hq : q = k + 3 * n) : mFlatLe k (n + 1) = ((mFlatLe k n ++ [.int .i64 (q : Int)]) ++ [.int .i64 ((q : Int) + 1)]) ++ [.int .i64 ((q : Int) + 1 + 1)] := by
  subst hq
  unfold mFlatLe mLes
  rw [List.range_succ, List.map_append, List.map_append, List.flatten_append]
  simp [mLe, leCs]
  omega

set_option maxRecDepth 100000 in
set_option maxHeartbeats 1000000 in
theorem markClockS_any (A : Option Addr) (n cap k lo hi : Nat) (is : List Int) (w : World) (hn : is.length = n) (h : OwnCk w lo hi A cap is) (hk1 : 1 ≤ k) (hk : k + n ≤ 1000000000) :
    Calls Try.prog 29 #[.slice A n cap, .int .i64 (k : Int)] w fun e w' => e = .returned (.int .i64 ((k + n : Nat) : Int)) ∧ OwnCk w' lo hi A cap (mCks k n) ∧ MidA A w w' := by
  by_cases hz : n = 0
  · subst hz
    have hl : is = [] := List.eq_nil_of_length_eq_zero hn
    subst hl
    have HO := Lib.hid h
    clear h
    go_enter Try.func29, Try.ntmps29
    go_wp2
    refine wp_loop_rounds 1 ?_
    rw [rounds_succ]
    go_wp2
    go_ret
    exact ⟨rfl, HO.out, MidA.refl _ _⟩
  · obtain ⟨g, cur, rfl, _⟩ := Own.form h (by simp; omega)
    obtain ⟨hf0, h1, h2, h3, h4⟩ := Own.flat h
    have HF0 := Lib.hid hf0
    have HB := Lib.hid (show lo ≤ g ∧ g < hi ∧ n ≤ cap ∧ cap ≤ maxLen from ⟨h1, h2, by rw [← hn]; simpa using h3, h4⟩)
    have hc : n ≤ cap := HB.out.2.2.1
    clear h hf0 h1 h2 h3 h4 hn
    go_enter Try.func29, Try.ntmps29
    go_wp2
    go_loopw [1, 5] (fun x i wr => ∃ (j q : Nat), j ≤ n ∧ q = k + j ∧ x = .int .i64 (q : Int) ∧ i = .int .i64 j ∧ Hid (Flat wr g (cap * 1) 68 (mFlatCk k j)) ∧ Hid (MidA (some ⟨g, 0, none⟩) w wr)) (fun _ i _ => n - (intOf i).toNat)
    case atStart => exact ⟨0, k, by omega, by omega, rfl, rfl, HF0, MidA.refl _ _⟩
    case round =>
      clear HF0
      obtain ⟨j, q, hj, hq, rfl, rfl, HF, HM⟩ := hrel
      by_cases hlt : j < n
      · have HSU := Lib.hid (mFlatCk_succ k j q hq)
        have HLE := Lib.hid (mFlatCk_len k j)
        obtain ⟨v0, hv0⟩ := HF.out.cell (j) (by omega)
        have hfr0 := HF.out.free (j)
        have hj0 : (0 : Int) ≤ (j : Int) := by omega
        have hj1 : (j : Int) < (n : Int) := by omega
        have hq3 : q + 1 ≤ 1000000000 := by omega
        have HQ := Lib.hid hq
        clear hq
        have HF1 := Lib.hid (HF.out.snoc (by rw [HLE.out]; omega) (j) HLE.out.symm (.int .i64 ((q : Int))))
        have HM1 := Lib.hid (HM.out.set (j) (.int .i64 ((q : Int))))
        go_wp2
        go_roundw
        case rel =>
          refine ⟨j + 1, q + 1, by omega, by have := HQ.out; omega, by go_num, by go_num, ?_, HM1.out⟩
          unfold Hid
          rw [HSU.out]
          exact HF1.out
        case measure => simp [intOf]; omega
      · have hjn : j = n := by omega
        subst hjn
        subst hq
        have ho := Flat.own (L := (mCks k j).map ckCs) HF.out (ckCs_len _) HB.out.1 HB.out.2.1 (by simp [mCks_len]; exact hc) HB.out.2.2.2
        have HO := Lib.hid ho
        clear ho
        go_wp2
        go_ret
        exact ⟨rfl, HO.out, HM.out⟩

set_option maxRecDepth 100000 in
set_option maxHeartbeats 1000000 in
theorem markLeaseS_any (A : Option Addr) (n cap k lo hi : Nat) (ls : List (Int × Int × Int)) (w : World) (hn : ls.length = n) (h : OwnLe w lo hi A cap ls) (hk1 : 1 ≤ k) (hk : k + 3 * n ≤ 1000000000) :
    Calls Try.prog 87 #[.slice A n cap, .int .i64 (k : Int)] w fun e w' => e = .returned (.int .i64 ((k + 3 * n : Nat) : Int)) ∧ OwnLe w' lo hi A cap (mLes k n) ∧ MidA A w w' := by
  by_cases hz : n = 0
  · subst hz
    have hl : ls = [] := List.eq_nil_of_length_eq_zero hn
    subst hl
    have HO := Lib.hid h
    clear h
    go_enter Try.func87, Try.ntmps87
    go_wp2
    refine wp_loop_rounds 1 ?_
    rw [rounds_succ]
    go_wp2
    go_ret
    exact ⟨rfl, HO.out, MidA.refl _ _⟩
  · obtain ⟨g, cur, rfl, _⟩ := Own.form h (by simp; omega)
    obtain ⟨hf0, h1, h2, h3, h4⟩ := Own.flat h
    have HF0 := Lib.hid hf0
    have HB := Lib.hid (show lo ≤ g ∧ g < hi ∧ n ≤ cap ∧ cap ≤ maxLen from ⟨h1, h2, by rw [← hn]; simpa using h3, h4⟩)
    have hc : n ≤ cap := HB.out.2.2.1
    clear h hf0 h1 h2 h3 h4 hn
    go_enter Try.func87, Try.ntmps87
    go_wp2
    go_loopw [1, 5] (fun x i wr => ∃ (j q : Nat), j ≤ n ∧ q = k + 3 * j ∧ x = .int .i64 (q : Int) ∧ i = .int .i64 j ∧ Hid (Flat wr g (cap * 3) 109 (mFlatLe k j)) ∧ Hid (MidA (some ⟨g, 0, none⟩) w wr)) (fun _ i _ => n - (intOf i).toNat)
    case atStart => exact ⟨0, k, by omega, by omega, rfl, rfl, HF0, MidA.refl _ _⟩
    case round =>
      clear HF0
      obtain ⟨j, q, hj, hq, rfl, rfl, HF, HM⟩ := hrel
      by_cases hlt : j < n
      · have HSU := Lib.hid (mFlatLe_succ k j q hq)
        have HLE := Lib.hid (mFlatLe_len k j)
        obtain ⟨v0, hv0⟩ := HF.out.cell (j * 3) (by omega)
        have hfr0 := HF.out.free (j * 3)
        obtain ⟨v1, hv1⟩ := HF.out.cell (j * 3 + 1) (by omega)
        have hfr1 := HF.out.free (j * 3 + 1)
        obtain ⟨v2, hv2⟩ := HF.out.cell (j * 3 + 2) (by omega)
        have hfr2 := HF.out.free (j * 3 + 2)
        have hj0 : (0 : Int) ≤ (j : Int) := by omega
        have hj1 : (j : Int) < (n : Int) := by omega
        have hq3 : q + 3 ≤ 1000000000 := by omega
        have HQ := Lib.hid hq
        clear hq
        have HF1 := Lib.hid (((HF.out.snoc (by rw [HLE.out]; omega) (j * 3) HLE.out.symm (.int .i64 ((q : Int)))).snoc (by simp [HLE.out]; omega) (j * 3 + 1) (by simp [HLE.out]) (.int .i64 ((q : Int) + 1))).snoc (by simp [HLE.out]; omega) (j * 3 + 2) (by simp [HLE.out]) (.int .i64 ((q : Int) + 1 + 1)))
        have HM1 := Lib.hid (((HM.out.set (j * 3) (.int .i64 ((q : Int)))).set (j * 3 + 1) (.int .i64 ((q : Int) + 1))).set (j * 3 + 2) (.int .i64 ((q : Int) + 1 + 1)))
        go_wp2
        go_roundw
        case rel =>
          refine ⟨j + 1, q + 3, by omega, by have := HQ.out; omega, by go_num, by go_num, ?_, HM1.out⟩
          unfold Hid
          rw [HSU.out]
          exact HF1.out
        case measure => simp [intOf]; omega
      · have hjn : j = n := by omega
        subst hjn
        subst hq
        have ho := Flat.own (L := (mLes k j).map leCs) HF.out (leCs_len _) HB.out.1 HB.out.2.1 (by simp [mLes_len]; exact hc) HB.out.2.2.2
        have HO := Lib.hid ho
        clear ho
        go_wp2
        go_ret
        exact ⟨rfl, HO.out, HM.out⟩

set_option maxRecDepth 100000 in
set_option maxHeartbeats 1000000 in
theorem markWatchActS_any (A : Option Addr) (n cap k lo hi : Nat) (ls : List (Int × Int × Int)) (w : World) (hn : ls.length = n) (h : OwnAc w lo hi A cap ls) (hk1 : 1 ≤ k) (hk : k + 3 * n ≤ 1000000000) :
    Calls Try.prog 54 #[.slice A n cap, .int .i64 (k : Int)] w fun e w' => e = .returned (.int .i64 ((k + 3 * n : Nat) : Int)) ∧ OwnAc w' lo hi A cap (mLes k n) ∧ MidA A w w' := by
  by_cases hz : n = 0
  · subst hz
    have hl : ls = [] := List.eq_nil_of_length_eq_zero hn
    subst hl
    have HO := Lib.hid h
    clear h
    go_enter Try.func54, Try.ntmps54
    go_wp2
    refine wp_loop_rounds 1 ?_
    rw [rounds_succ]
    go_wp2
    go_ret
    exact ⟨rfl, HO.out, MidA.refl _ _⟩
  · obtain ⟨g, cur, rfl, _⟩ := Own.form h (by simp; omega)
    obtain ⟨hf0, h1, h2, h3, h4⟩ := Own.flat h
    have HF0 := Lib.hid hf0
    have HB := Lib.hid (show lo ≤ g ∧ g < hi ∧ n ≤ cap ∧ cap ≤ maxLen from ⟨h1, h2, by rw [← hn]; simpa using h3, h4⟩)
    have hc : n ≤ cap := HB.out.2.2.1
    clear h hf0 h1 h2 h3 h4 hn
    go_enter Try.func54, Try.ntmps54
    go_wp2
    go_loopw [1, 5] (fun x i wr => ∃ (j q : Nat), j ≤ n ∧ q = k + 3 * j ∧ x = .int .i64 (q : Int) ∧ i = .int .i64 j ∧ Hid (Flat wr g (cap * 3) 70 (mFlatLe k j)) ∧ Hid (MidA (some ⟨g, 0, none⟩) w wr)) (fun _ i _ => n - (intOf i).toNat)
    case atStart => exact ⟨0, k, by omega, by omega, rfl, rfl, HF0, MidA.refl _ _⟩
    case round =>
      clear HF0
      obtain ⟨j, q, hj, hq, rfl, rfl, HF, HM⟩ := hrel
      by_cases hlt : j < n
      · have HSU := Lib.hid (mFlatLe_succ k j q hq)
        have HLE := Lib.hid (mFlatLe_len k j)
        obtain ⟨v0, hv0⟩ := HF.out.cell (j * 3) (by omega)
        have hfr0 := HF.out.free (j * 3)
        obtain ⟨v1, hv1⟩ := HF.out.cell (j * 3 + 1) (by omega)
        have hfr1 := HF.out.free (j * 3 + 1)
        obtain ⟨v2, hv2⟩ := HF.out.cell (j * 3 + 2) (by omega)
        have hfr2 := HF.out.free (j * 3 + 2)
        have hj0 : (0 : Int) ≤ (j : Int) := by omega
        have hj1 : (j : Int) < (n : Int) := by omega
        have hq3 : q + 3 ≤ 1000000000 := by omega
        have HQ := Lib.hid hq
        clear hq
        have HF1 := Lib.hid (((HF.out.snoc (by rw [HLE.out]; omega) (j * 3) HLE.out.symm (.int .i64 ((q : Int)))).snoc (by simp [HLE.out]; omega) (j * 3 + 1) (by simp [HLE.out]) (.int .i64 ((q : Int) + 1))).snoc (by simp [HLE.out]; omega) (j * 3 + 2) (by simp [HLE.out]) (.int .i64 ((q : Int) + 1 + 1)))
        have HM1 := Lib.hid (((HM.out.set (j * 3) (.int .i64 ((q : Int)))).set (j * 3 + 1) (.int .i64 ((q : Int) + 1))).set (j * 3 + 2) (.int .i64 ((q : Int) + 1 + 1)))
        go_wp2
        go_roundw
        case rel =>
          refine ⟨j + 1, q + 3, by omega, by have := HQ.out; omega, by go_num, by go_num, ?_, HM1.out⟩
          unfold Hid
          rw [HSU.out]
          exact HF1.out
        case measure => simp [intOf]; omega
      · have hjn : j = n := by omega
        subst hjn
        subst hq
        have ho := Flat.own (L := (mLes k j).map leCs) HF.out (leCs_len _) HB.out.1 HB.out.2.1 (by simp [mLes_len]; exact hc) HB.out.2.2.2
        have HO := Lib.hid ho
        clear ho
        go_wp2
        go_ret
        exact ⟨rfl, HO.out, HM.out⟩

set_option maxRecDepth 100000 in
set_option maxHeartbeats 1000000 in
theorem heldClockS_any (A : Option Addr) (n c k B : Nat) (w : World) (h : CksB w B A (mCks k n)) (hB : B ≤ w.heap.size) (hk1 : 1 ≤ k) (hk : k + n ≤ 1000000000) :
    Calls Try.prog 88 #[.slice A n c, .int .i64 (k : Int)] w fun e w' => e = .returned (.int .i64 ((k + n : Nat) : Int)) ∧ w = w' := by
  have HS := Lib.hid h
  clear h
  go_enter Try.func88, Try.ntmps88
  go_wp2
  go_loopw [1, 5] (fun x i wr => ∃ (j q : Nat), j ≤ n ∧ q = k + j ∧ x = .int .i64 (q : Int) ∧ i = .int .i64 j ∧ w = wr) (fun _ i _ => n - (intOf i).toNat)
  case atStart => exact ⟨0, k, by omega, by omega, rfl, rfl, rfl⟩
  case round =>
    obtain ⟨j, q, hj, hq, rfl, rfl, rfl⟩ := hrel
    by_cases hlt : j < n
    · obtain ⟨b, off, rfl, hbB, hc⟩ := HS.out.get (by rw [mCks_len]; omega)
      have c0 := hc j (by rw [mCks_len]; exact hlt)
      rw [mCks_at, ← hq] at c0
      have hj0 : (0 : Int) ≤ (j : Int) := by omega
      have hj1 : (j : Int) < (n : Int) := by omega
      have hq3 : q + 1 ≤ 1000000000 := by omega
      have HQ := Lib.hid hq
      clear hq hc
      go_wp2
      go_roundw
      case rel => exact ⟨j + 1, q + 1, by omega, by have := HQ.out; omega, by go_num, by go_num, by trivial⟩
      case measure => simp [intOf]; omega
    · have hjn : j = n := by omega
      subst hjn
      subst hq
      go_wp2
      go_ret
      exact ⟨rfl, rfl⟩

set_option maxRecDepth 100000 in
set_option maxHeartbeats 1000000 in
theorem heldLeaseS_any (A : Option Addr) (n c k B : Nat) (w : World) (h : LesB w B A (mLes k n)) (hB : B ≤ w.heap.size) (hk1 : 1 ≤ k) (hk : k + 3 * n ≤ 1000000000) :
    Calls Try.prog 89 #[.slice A n c, .int .i64 (k : Int)] w fun e w' => e = .returned (.int .i64 ((k + 3 * n : Nat) : Int)) ∧ w = w' := by
  have HS := Lib.hid h
  clear h
  go_enter Try.func89, Try.ntmps89
  go_wp2
  go_loopw [1, 5] (fun x i wr => ∃ (j q : Nat), j ≤ n ∧ q = k + 3 * j ∧ x = .int .i64 (q : Int) ∧ i = .int .i64 j ∧ w = wr) (fun _ i _ => n - (intOf i).toNat)
  case atStart => exact ⟨0, k, by omega, by omega, rfl, rfl, rfl⟩
  case round =>
    obtain ⟨j, q, hj, hq, rfl, rfl, rfl⟩ := hrel
    by_cases hlt : j < n
    · obtain ⟨b, off, rfl, hbB, hc⟩ := HS.out.get (by rw [mLes_len]; omega)
      obtain ⟨c0, c1, c2⟩ := hc j (by rw [mLes_len]; exact hlt)
      rw [mLes_at, ← hq] at c0 c1 c2
      unfold mLe at c0 c1 c2
      simp only at c0 c1 c2
      rw [show ((q + 1 : Nat) : Int) = (q : Int) + 1 from by omega] at c1
      rw [show ((q + 2 : Nat) : Int) = (q : Int) + 1 + 1 from by omega] at c2
      have hj0 : (0 : Int) ≤ (j : Int) := by omega
      have hj1 : (j : Int) < (n : Int) := by omega
      have hq3 : q + 3 ≤ 1000000000 := by omega
      have HQ := Lib.hid hq
      clear hq hc
      go_wp2
      go_roundw
      case rel => exact ⟨j + 1, q + 3, by omega, by have := HQ.out; omega, by go_num, by go_num, by trivial⟩
      case measure => simp [intOf]; omega
    · have hjn : j = n := by omega
      subst hjn
      subst hq
      go_wp2
      go_ret
      exact ⟨rfl, rfl⟩

/-- Rows of different element types lie in different blocks. -/
theorem own_apartW {w : World} {lo hi lo' hi' sz sz' cap cap' : Nat} {t t' : TypeId} {A A' : Option Addr} {L L' : List (List Value)} (h : Own w lo hi t sz A cap L) (h' : Own w lo' hi' t' sz' A' cap' L') (ht : t ≠ t') (x y : Addr) (hx : A = some x) (hy : A' = some y) : x.block ≠ y.block := by
  intro e
  obtain ⟨_, _, c1, k1⟩ := h.block x hx
  obtain ⟨_, _, c2, k2⟩ := h'.block y hy
  rw [e, k2] at k1
  simp only [Option.some.injEq, Obj.cells.injEq] at k1
  exact ht k1.2.1.symm
theorem own_rangeW {w : World} {lo hi sz cap : Nat} {t : TypeId} {A : Option Addr} {L : List (List Value)} (h : Own w lo hi t sz A cap L) (x : Addr) (hx : A = some x) : lo ≤ x.block ∧ x.block < hi := ⟨(h.block x hx).1, (h.block x hx).2.1⟩

set_option maxHeartbeats 1000000 in
theorem markWatch_any (tm : Int) (A A' : Option Addr) (n cap n' cap' k lo hi : Nat) (is : List Int) (ls : List (Int × Int × Int)) (w : World) (hn : is.length = n) (hn' : ls.length = n') (h : OwnCk w lo hi A cap is) (h' : OwnLe w lo hi A' cap' ls) (hh : hi ≤ w.heap.size) (hlo : lo ≤ hi) (hk1 : 1 ≤ k) (hk : k + n + 3 * n' ≤ 1000000000) :
    Calls Try.prog 30 #[.agg #[.int .i64 tm, .slice A n cap, .slice A' n' cap'], .int .i64 (k : Int)] w fun e w' => e = .returned (.int .i64 ((k + n + 3 * n' : Nat) : Int)) ∧ OwnCk w' lo hi A cap (mCks k n) ∧ OwnLe w' lo hi A' cap' (mLes (k + n) n') ∧ Mid lo hi w w' := by
  have hb0 := below1 w (.cells #[.int .i64 tm, .slice A n cap, .slice A' n' cap'] 31)
  have hbk := heap_alloc_new w (.cells #[.int .i64 tm, .slice A n cap, .slice A' n' cap'] 31)
  have h1 := h.below (hb0.mono hh)
  have h2 := h'.below (hb0.mono hh)
  have HI := Lib.hid (markClockS_any A n cap k lo hi is _ hn h1 hk1 (by omega))
  have HH2 := Lib.hid h2
  have HL := Lib.hid (fun W (hW : OwnLe W lo hi A' cap' ls) => markLeaseS_any A' n' cap' (k + n) lo hi ls W hn' hW (by omega) hk)
  have hm0 : Mid lo hi w (w.alloc (.cells #[.int .i64 tm, .slice A n cap, .slice A' n' cap'] 31)) := Below.mid hb0
  obtain ⟨q, hq⟩ : ∃ q, q = k + n := ⟨_, rfl⟩
  rw [← hq] at HI HL ⊢
  have HM0 := Lib.hid hm0
  have HBK := Lib.hid hbk
  have HH1 := Lib.hid h1
  clear h h' h1 h2 hb0 hm0 hbk hn hn' hq hk
  go_enter Try.func30, Try.ntmps30
  go_wp2_with fail
  refine HI.out.mono ?_
  rintro e w1 ⟨rfl, ho1, hm1⟩
  have hl1 := Own.midA HH2.out hm1 (own_apartW HH1.out HH2.out (by decide))
  have hmm := hm1.mid (lo := lo) (hi := hi) (own_rangeW HH1.out)
  have HM1 := Lib.hid (HM0.out.trans hmm)
  have hkb := (hmm.2.2.2.2 w.heap.size (by simp) (.inr hh)).trans HBK.out
  have y1 := cell_of_row _ _ 1 _ 31 (0, 0) hkb
  have y2 := cell_of_row _ _ 2 _ 31 (0, 0) hkb
  have HC2 := Lib.hid (HL.out w1 hl1)
  have HHL := Lib.hid hl1
  have HO1 := Lib.hid ho1
  clear HI HL hmm hm1 hkb hl1 ho1
  go_wp2_with fail
  refine HC2.out.mono ?_
  rintro e w2 ⟨rfl, ho2, hm2⟩
  have HO1b := Lib.hid (Own.midA HO1.out hm2 (own_apartW HHL.out HO1.out (by decide)))
  have HM2 := Lib.hid (HM1.out.trans (hm2.mid (lo := lo) (hi := hi) (own_rangeW HHL.out)))
  have HO2 := Lib.hid ho2
  clear hm2 ho2
  go_wp2
  go_ret
  exact ⟨rfl, HO1b.out, HO2.out, HM2.out⟩

set_option maxHeartbeats 1000000 in
theorem heldWatch_any (tm : Int) (A A' : Option Addr) (n c n' c' k B : Nat) (w : World) (h : CksB w B A (mCks k n)) (h' : LesB w B A' (mLes (k + n) n')) (hB : B ≤ w.heap.size) (hk1 : 1 ≤ k) (hk : k + n + 3 * n' ≤ 1000000000) :
    Calls Try.prog 31 #[.agg #[.int .i64 tm, .slice A n c, .slice A' n' c'], .int .i64 (k : Int)] w fun e w' => e = .returned (.int .i64 ((k + n + 3 * n' : Nat) : Int)) ∧ Below w.heap.size w w' := by
  have hb0 := below1 w (.cells #[.int .i64 tm, .slice A n c, .slice A' n' c'] 31)
  have HI := Lib.hid (fun W (hW : Below w.heap.size w W) => heldClockS_any A n c k B W (h.below (hW.mono hB)) (Nat.le_trans hB hW.size) hk1 (by omega))
  have HL := Lib.hid (fun W (hW : Below w.heap.size w W) => heldLeaseS_any A' n' c' (k + n) B W (h'.below (hW.mono hB)) (Nat.le_trans hB hW.size) (by omega) hk)
  obtain ⟨q, hq⟩ : ∃ q, q = k + n := ⟨_, rfl⟩
  rw [← hq] at HI HL ⊢
  have HB0 := Lib.hid hb0
  have q0 : (0 : Int) ≤ ((q : Nat) : Int) := by omega
  have q1 : (0 : Int) ≤ ((q + 3 * n' : Nat) : Int) := by omega
  obtain ⟨r, hr⟩ : ∃ r, r = q + 3 * n' := ⟨_, rfl⟩
  rw [← hr] at HL q1 ⊢
  clear h h' hb0 hr hq hk
  go_enter Try.func31, Try.ntmps31
  go_wp2_with fail
  refine (HI.out _ HB0.out).mono ?_
  rintro e w1 ⟨rfl, rfl⟩
  go_wp2_with fail
  refine (HL.out _ HB0.out).mono ?_
  rintro e w2 ⟨rfl, rfl⟩
  go_wp2
  go_ret
  exact ⟨rfl, HB0.out⟩
end Go.Proofs.Ytoanigbjdfgjcaa.Wt
