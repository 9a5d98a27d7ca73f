/-
  The program's and the model's MeetSpans: one answer.
-/
import Derived.Test.YtmdejfdkdgpffaaLists
namespace Go.Proofs.Ytmdejfdkdgpffaa
open Go.RowKit
set_option linter.unusedVariables false

/-- The intersection of spans and of m; whether all spans of a list are valid; the answer of MeetSpans. -/
def meetL (xs : List (Int × Int)) (m : Int × Int) : Int × Int := xs.foldl (fun m s => (max m.1 s.1, min m.2 s.2)) m
def goodAll (xs : List (Int × Int)) : Bool := xs.all fun s => goodB s.1 s.2
def meetAll (xs : List (Int × Int)) : Int × Int := meetL xs (xs.headD (0, 0))
def mtOk (xs : List (Int × Int)) : Bool := decide (1 ≤ xs.length) && (decide (xs.length ≤ 20) && (goodAll xs && decide ((meetAll xs).1 ≤ (meetAll xs).2)))
def mtLo (xs : List (Int × Int)) : Int := if mtOk xs then (meetAll xs).1 else 0
def mtHi (xs : List (Int × Int)) : Int := if mtOk xs then (meetAll xs).2 else 0

theorem meetL_take (xs : List (Int × Int)) (m : Int × Int) (k : Nat) (h : k < xs.length) : meetL (xs.take (k + 1)) m = (max (meetL (xs.take k) m).1 xs[k].1, min (meetL (xs.take k) m).2 xs[k].2) := by
  unfold meetL
  rw [List.take_succ_eq_append_getElem h, List.foldl_append]
  rfl
theorem goodAll_take (xs : List (Int × Int)) (k : Nat) (h : k < xs.length) : goodAll (xs.take (k + 1)) = (goodAll (xs.take k) && goodB xs[k].1 xs[k].2) := by
  unfold goodAll
  rw [List.take_succ_eq_append_getElem h, List.all_append]
  simp
theorem goodAll_bad (xs : List (Int × Int)) (k : Nat) (h : k < xs.length) (hb : goodB xs[k].1 xs[k].2 = false) : goodAll xs = false := by
  unfold goodAll
  rw [List.all_eq_false]
  exact ⟨xs[k], List.getElem_mem h, by simp [hb]⟩

/-- What MeetSpans hands back. -/
def MtRet (xs : List (Int × Int)) : Ending := .returned (.tuple #[.agg #[.int .i64 (mtLo xs), .int .i64 (mtHi xs)], .bool (mtOk xs)])
def NoRet : Ending := .returned (.tuple #[.agg #[.int .i64 0, .int .i64 0], .bool false])
theorem mt_no {xs : List (Int × Int)} (h : mtOk xs = false) : NoRet = MtRet xs := by
  unfold NoRet MtRet mtLo mtHi
  rw [h]
  rfl
theorem mt_yes {xs : List (Int × Int)} {lo hi : Int} (h : mtOk xs = true) (hm : meetAll xs = (lo, hi)) : Ending.returned (.tuple #[.agg #[.int .i64 lo, .int .i64 hi], .bool true]) = MtRet xs := by
  unfold MtRet mtLo mtHi
  rw [h, hm]
  rfl

/-- What the loop over the spans keeps. -/
def MeetRel (xs : List (Int × Int)) (w wr : World) (k : Nat) (lo hi : Int) : Prop :=
  meetL (xs.take k) (xs.headD (0, 0)) = (lo, hi) ∧ goodAll (xs.take k) = true ∧ wr.heap[w.heap.size + 1]? = some (.cells #[.int .i64 lo, .int .i64 hi] 29 (0, 0)) ∧ wr.heap[w.heap.size]? = some (.cells #[.int .i64 0, .int .i64 0] 29 (0, 0)) ∧ Below w.heap.size w wr

theorem MeetRel.all {xs : List (Int × Int)} {w wr : World} {k : Nat} {lo hi : Int} (h : MeetRel xs w wr k lo hi) (hk : k = xs.length) : meetAll xs = (lo, hi) ∧ goodAll xs = true := by
  obtain ⟨h1, h2, _⟩ := h
  subst hk
  rw [List.take_length] at h1 h2
  exact ⟨h1, h2⟩
theorem mtOk_of {xs : List (Int × Int)} {lo hi : Int} {v : Bool} (h1 : 1 ≤ xs.length) (h2 : xs.length ≤ 20) (hm : meetAll xs = (lo, hi)) (hg : goodAll xs = true) (hv : decide (lo ≤ hi) = v) : mtOk xs = v := by
  unfold mtOk
  rw [decide_eq_true h1, decide_eq_true h2, hg, hm]
  exact hv
theorem MeetRel.step {xs : List (Int × Int)} {w wr w4 : World} {k : Nat} {lo hi x y : Int} (h : MeetRel xs w wr k lo hi) (hk : k < xs.length) (hx : x = xs[k].1) (hy : y = xs[k].2) (hg : goodB x y = true) (hb : Below wr.heap.size wr w4) :
    MeetRel xs w ((w4.setCell ⟨w.heap.size + 1, 0, none⟩ (.int .i64 (max lo x))).setCell ⟨w.heap.size + 1, 1, none⟩ (.int .i64 (min hi y))) (k + 1) (max lo x) (min hi y) := by
  obtain ⟨h1, h2, h3, h4, h5⟩ := h
  have h3' := (hb.block _ (lt_blk h3)).trans h3
  have h4' := (hb.block _ (lt_blk h4)).trans h4
  subst hx hy
  refine ⟨?_, ?_, ?_, ?_, ?_⟩
  · rw [meetL_take xs _ k hk, h1]
  · rw [goodAll_take xs k hk, h2, hg]; rfl
  · simp [World.setCell, Array.getElem?_modify, h3']
  · simp [World.setCell, Array.getElem?_modify, h4']
  · exact ((h5.trans (hb.mono h5.size)).setCell (by simp) _).setCell (by simp) _

set_option maxRecDepth 100000 in
set_option maxHeartbeats 1000000 in
theorem meet_out (A : Option Addr) (n c : Nat) (xs : List (Int × Int)) (w : World) (hn : xs.length = n) (hl : n ≤ 1048576) (ho : n = 0 ∨ 20 < n) :
    Calls Try.prog 27 #[.slice A n c] w fun e w' => e = MtRet xs ∧ Below w.heap.size w w' := by
  have hno : mtOk xs = false := by
    unfold mtOk
    rcases ho with h | h
    · rw [decide_eq_false (show ¬ 1 ≤ xs.length by omega)]; rfl
    · rw [decide_eq_false (show ¬ xs.length ≤ 20 by omega)]; simp
  rw [← mt_no hno]
  clear hno hn
  rcases ho with h | h
  · subst h
    go_enter Try.func27, Try.ntmps27
    go_wp2
    exact bodyPost_ret (v := .tuple #[.agg #[.int .i64 0, .int .i64 0], .bool false]) (by simp [results, Try.results27, go_sem]) rfl ⟨rfl, below1 _ _⟩
  · go_enter Try.func27, Try.ntmps27
    go_wp2
    exact bodyPost_ret (v := .tuple #[.agg #[.int .i64 0, .int .i64 0], .bool false]) (by simp [results, Try.results27, go_sem]) rfl ⟨rfl, below1 _ _⟩

set_option maxRecDepth 100000 in
set_option maxHeartbeats 1000000 in
theorem meet_in (A : Option Addr) (n c : Nat) (xs : List (Int × Int)) (w : World) (hn : xs.length = n) (h : SpansAt w A xs) (h1 : 1 ≤ n) (h2 : n ≤ 20) :
    Calls Try.prog 27 #[.slice A n c] w fun e w' => e = MtRet xs ∧ Below w.heap.size w w' := by
  have HN := Lib.hid hn
  have hge := Nat.le_of_eq hn
  have hle := Nat.le_of_eq hn.symm
  rcases h with h | ⟨b, off, rfl, hbs, hc⟩
  · subst h; simp only [List.length_nil] at hle; omega
  · have HC := Lib.hid hc
    have hp : 0 < xs.length := by omega
    obtain ⟨c0, c1⟩ := hc 0 hp
    simp only [Nat.zero_mul, Nat.add_zero] at c0 c1
    obtain ⟨x0, hx0⟩ : ∃ x, x = xs[0].1 := ⟨_, rfl⟩
    obtain ⟨y0, hy0⟩ : ∃ y, y = xs[0].2 := ⟨_, rfl⟩
    rw [← hx0] at c0
    rw [← hy0] at c1
    have hR0 : MeetRel xs w ((w.alloc (.cells #[.int .i64 0, .int .i64 0] 29)).alloc (.cells #[.int .i64 x0, .int .i64 y0] 29)) 0 x0 y0 := by
      refine ⟨?_, rfl, ?_, ?_, below2 _ _ _⟩
      · rw [hx0, hy0]
        rcases xs with _ | ⟨a, t⟩
        · simp at hp
        · rfl
      · have := heap_alloc_new (w.alloc (.cells #[.int .i64 0, .int .i64 0] 29)) (.cells #[.int .i64 x0, .int .i64 y0] 29)
        simpa using this
      · exact (Below.heap_alloc _ _ w.heap.size (by simp)).trans (heap_alloc_new w _)
    have HR0 := Lib.hid hR0
    have hk0 : (0 : Int) < (n : Int) := by omega
    have hd1 : decide ((n : Int) < 1) = false := by simp; omega
    have hd2 : decide (20 < (n : Int)) = false := by simp; omega
    clear hc hn hx0 hy0 hR0
    go_enter Try.func27, Try.ntmps27
    go_wp2
    go_loopw [21] (fun i wr => ∃ (k : Nat) (lo hi : Int), k ≤ n ∧ i = .int .i64 k ∧ MeetRel xs w wr k lo hi) (fun i _ => n - (intOf i).toNat)
    case atStart => exact ⟨0, x0, y0, by omega, rfl, HR0.out⟩
    case round =>
      clear c0 c1
      obtain ⟨k, lo, hi, hk, rfl, hR⟩ := hrel
      have HR := Lib.hid hR
      obtain ⟨hm1, hm2, hm3, hm4, hb⟩ := hR
      have m0 := cell_blk (i := 0) hm3 rfl
      have m1 := cell_blk (i := 1) hm3 rfl
      have g0 := free_blk hm3 0
      have g1 := free_blk hm3 1
      have r0 := cell_blk (i := 0) hm4 rfl
      have r1 := cell_blk (i := 1) hm4 rfl
      have f0 := free_blk hm4 0
      have f1 := free_blk hm4 1
      have hs1 : w.heap.size + 1 < wr.heap.size := lt_blk hm3
      by_cases hlt : k < n
      · obtain ⟨hc1, hc2⟩ := HC.out k (by omega)
        have c0 := (hb.cell (p := ⟨b, off + k * 2, none⟩) hbs).trans hc1
        have c1 := (hb.cell (p := ⟨b, off + k * 2 + 1, none⟩) hbs).trans hc2
        obtain ⟨x, hx⟩ : ∃ x, x = xs[k].1 := ⟨_, rfl⟩
        obtain ⟨y, hy⟩ : ∃ y, y = xs[k].2 := ⟨_, rfl⟩
        rw [← hx] at c0
        rw [← hy] at c1
        have hkn : (k : Int) < (n : Int) := by omega
        have HX := Lib.hid hx
        have HY := Lib.hid hy
        have HB := Lib.hid hb
        have HG := Lib.hid fun W => goodSpan_any x y W
        clear hc1 hc2 hx hy hb hm1 hm2 hm3 hm4
        cases hg : goodB x y with
        | false =>
          rw [hg] at HG
          have hno : mtOk xs = false := by
            unfold mtOk
            rw [goodAll_bad xs k (by omega) (by rw [← HX.out, ← HY.out]; exact hg)]
            simp
          have HNO := Lib.hid (mt_no hno)
          clear hg hno
          go_wp2_with fail
          refine (HG.out _).mono ?_
          rintro e w4 ⟨rfl, hb4⟩
          have hb5 := (below1 wr (.cells #[.int .i64 x, .int .i64 y] 29)).trans (hb4.mono (below1 _ _).size)
          obtain ⟨hc5, hf5⟩ := bcell hb5
          have hs0 : w.heap.size < wr.heap.size := by omega
          have HBB := Lib.hid (HB.out.trans (hb5.mono HB.out.size))
          clear hb4 hb5
          go_wp2
          exact bodyPost_ret (v := .tuple #[.agg #[.int .i64 0, .int .i64 0], .bool false]) (by simp [results, Try.results27, go_sem, *]) rfl ⟨HNO.out, (HBB.out.setCell (Nat.le_refl _) _).setCell (Nat.le_refl _) _⟩
        | true =>
          rw [hg] at HG
          have HGG := Lib.hid hg
          clear hg
          go_wp2_with fail
          refine (HG.out _).mono ?_
          rintro e w4 ⟨rfl, hb4⟩
          have hb5 := (below1 wr (.cells #[.int .i64 x, .int .i64 y] 29)).trans (hb4.mono (below1 _ _).size)
          obtain ⟨hc4, hf4⟩ := bcell hb4
          have hs0 : w.heap.size < wr.heap.size := by omega
          have hs4 : wr.heap.size < w4.heap.size := by have := hb4.size; simp at this; omega
          clear hb4
          go_wp2_with fail
          refine (meetTwo_any _ _ _ _ _).mono ?_
          rintro e w5 ⟨rfl, hb6⟩
          have hb7 := hb5.trans (hb6.mono hb5.size)
          obtain ⟨hc7, hf7⟩ := bcell hb7
          have HST := Lib.hid (HR.out.step (by omega) HX.out HY.out HGG.out hb7)
          clear hb5 hb6 hb7 hc4 hf4
          go_wp2
          go_roundw
          case rel => exact ⟨k + 1, max lo x, min hi y, by omega, by go_num, HST.out⟩
          case measure => simp [intOf]; omega
      · obtain ⟨ha, hga⟩ := HR.out.all (by omega)
        have HB := Lib.hid hb
        by_cases hle2 : lo ≤ hi
        · have HYES := Lib.hid (mt_yes (mtOk_of (by omega) (by omega) ha hga (decide_eq_true hle2)) ha)
          clear ha hga hb hm1 hm2 hm3 hm4
          go_wp2
          exact bodyPost_ret (v := .tuple #[.agg #[.int .i64 lo, .int .i64 hi], .bool true]) (by simp [results, Try.results27, go_sem, *]) rfl ⟨HYES.out, (HB.out.setCell (Nat.le_refl _) _).setCell (Nat.le_refl _) _⟩
        · have HNO := Lib.hid (mt_no (mtOk_of (by omega) (by omega) ha hga (decide_eq_false hle2)))
          clear ha hga hb hm1 hm2 hm3 hm4
          go_wp2
          exact bodyPost_ret (v := .tuple #[.agg #[.int .i64 0, .int .i64 0], .bool false]) (by simp [results, Try.results27, go_sem, *]) rfl ⟨HNO.out, (HB.out.setCell (Nat.le_refl _) _).setCell (Nat.le_refl _) _⟩

theorem meetSpans_any (A : Option Addr) (n c : Nat) (xs : List (Int × Int)) (w : World) (hn : xs.length = n) (h : SpansAt w A xs) (hl : n ≤ 1048576) :
    Calls Try.prog 27 #[.slice A n c] w fun e w' => e = MtRet xs ∧ Below w.heap.size w w' := by
  by_cases ho : n = 0 ∨ 20 < n
  · exact meet_out A n c xs w hn hl ho
  · exact meet_in A n c xs w hn h (by omega) (by omega)
end Go.Proofs.Ytmdejfdkdgpffaa
