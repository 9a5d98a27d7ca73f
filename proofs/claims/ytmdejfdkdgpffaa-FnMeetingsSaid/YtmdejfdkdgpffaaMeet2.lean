/-
  The model's MeetSpans: the answer of the program's.
-/
import Derived.Test.YtmdejfdkdgpffaaMeet
namespace Go.Proofs.Ytmdejfdkdgpffaa
open Go.RowKit
set_option linter.unusedVariables false

set_option maxRecDepth 100000 in
set_option maxHeartbeats 1000000 in
theorem specMeet_out (A : Option Addr) (n c : Nat) (xs : List (Int × Int)) (w : World) (hn : xs.length = n) (hl : n ≤ 1048576) (ho : n = 0 ∨ 20 < n) :
    Calls Try.prog 31 #[.slice A n c] w fun e w' => e = MtRet xs ∧ Below w.heap.size w w' := by
  have hno : mtOk xs = false := by
    unfold mtOk
    rcases ho with h | h
    · rw [decide_eq_false (show ¬ 1 ≤ xs.length by omega)]; rfl
    · rw [decide_eq_false (show ¬ xs.length ≤ 20 by omega)]; simp
  have HL := fun W => l1In_any (n : Int) 1 20 W
  rw [inB_not (by omega)] at HL
  replace HL := Lib.hid HL
  rw [← mt_no hno]
  clear hno hn
  go_enter Try.func31, Try.ntmps31
  go_wp2_with fail
  refine (HL.out _).mono ?_
  rintro e w1 ⟨rfl, rfl⟩
  go_wp2
  exact bodyPost_ret (v := .tuple #[.agg #[.int .i64 0, .int .i64 0], .bool false]) (by simp [results, Try.results31, go_sem]) rfl ⟨rfl, below1 _ _⟩

set_option maxRecDepth 100000 in
set_option maxHeartbeats 1000000 in
theorem specMeet_in (A : Option Addr) (n c : Nat) (xs : List (Int × Int)) (w : World) (hn : xs.length = n) (h : SpansAt w A xs) (h1 : 1 ≤ n) (h2 : n ≤ 20) :
    Calls Try.prog 31 #[.slice A n c] w fun e w' => e = MtRet xs ∧ Below w.heap.size w w' := by
  have HN := Lib.hid hn
  have hge := Nat.le_of_eq hn
  have hle := Nat.le_of_eq hn.symm
  rcases h with h | ⟨b, off, rfl, hbs, hc⟩
  · subst h; simp only [List.length_nil] at hle; omega
  · have HC := Lib.hid hc
    have hp : 0 < xs.length := by omega
    obtain ⟨c0, c1⟩ := hc 0 hp
    simp only [Nat.zero_mul, Nat.add_zero] at c0 c1
    obtain ⟨x0, hx0⟩ : ∃ x, x = xs[0].1 := ⟨_, rfl⟩
    obtain ⟨y0, hy0⟩ : ∃ y, y = xs[0].2 := ⟨_, rfl⟩
    rw [← hx0] at c0
    rw [← hy0] at c1
    have hR0 : MeetRel xs w ((w.alloc (.cells #[.int .i64 0, .int .i64 0] 29)).alloc (.cells #[.int .i64 x0, .int .i64 y0] 29)) 0 x0 y0 := by
      refine ⟨?_, rfl, ?_, ?_, below2 _ _ _⟩
      · rw [hx0, hy0]
        rcases xs with _ | ⟨a, t⟩
        · simp at hp
        · rfl
      · have := heap_alloc_new (w.alloc (.cells #[.int .i64 0, .int .i64 0] 29)) (.cells #[.int .i64 x0, .int .i64 y0] 29)
        simpa using this
      · exact (Below.heap_alloc _ _ w.heap.size (by simp)).trans (heap_alloc_new w _)
    have HR0 := Lib.hid hR0
    have hk0 : (0 : Int) < (n : Int) := by omega
    have HL := fun W => l1In_any (n : Int) 1 20 W
    rw [inB_mk (by omega)] at HL
    replace HL := Lib.hid HL
    clear hc hn hx0 hy0 hR0
    go_enter Try.func31, Try.ntmps31
    go_wp2_with fail
    refine (HL.out _).mono ?_
    rintro e w1 ⟨rfl, rfl⟩
    go_wp2
    go_loopw [17] (fun i wr => ∃ (k : Nat) (lo hi : Int), k ≤ n ∧ i = .int .i64 k ∧ MeetRel xs w wr k lo hi) (fun i _ => n - (intOf i).toNat)
    case atStart => exact ⟨0, x0, y0, by omega, rfl, HR0.out⟩
    case round =>
      clear c0 c1
      obtain ⟨k, lo, hi, hk, rfl, hR⟩ := hrel
      have HR := Lib.hid hR
      obtain ⟨hm1, hm2, hm3, hm4, hb⟩ := hR
      have m0 := cell_blk (i := 0) hm3 rfl
      have m1 := cell_blk (i := 1) hm3 rfl
      have g0 := free_blk hm3 0
      have g1 := free_blk hm3 1
      have r0 := cell_blk (i := 0) hm4 rfl
      have r1 := cell_blk (i := 1) hm4 rfl
      have f0 := free_blk hm4 0
      have f1 := free_blk hm4 1
      have hs1 : w.heap.size + 1 < wr.heap.size := lt_blk hm3
      by_cases hlt : k < n
      · obtain ⟨hc1, hc2⟩ := HC.out k (by omega)
        have c0 := (hb.cell (p := ⟨b, off + k * 2, none⟩) hbs).trans hc1
        have c1 := (hb.cell (p := ⟨b, off + k * 2 + 1, none⟩) hbs).trans hc2
        obtain ⟨x, hx⟩ : ∃ x, x = xs[k].1 := ⟨_, rfl⟩
        obtain ⟨y, hy⟩ : ∃ y, y = xs[k].2 := ⟨_, rfl⟩
        rw [← hx] at c0
        rw [← hy] at c1
        have hkn : (k : Int) < (n : Int) := by omega
        have HX := Lib.hid hx
        have HY := Lib.hid hy
        have HB := Lib.hid hb
        have HG := Lib.hid fun W => l2Span_any x y W
        clear hc1 hc2 hx hy hb hm1 hm2 hm3 hm4
        cases hg : goodB x y with
        | false =>
          rw [hg] at HG
          have hno : mtOk xs = false := by
            unfold mtOk
            rw [goodAll_bad xs k (by omega) (by rw [← HX.out, ← HY.out]; exact hg)]
            simp
          have HNO := Lib.hid (mt_no hno)
          clear hg hno
          go_wp2_with fail
          refine (HG.out _).mono ?_
          rintro e w4 ⟨rfl, hb4⟩
          have hb5 := (below1 wr (.cells #[.int .i64 x, .int .i64 y] 29)).trans (hb4.mono (below1 _ _).size)
          obtain ⟨hc5, hf5⟩ := bcell hb5
          have hs0 : w.heap.size < wr.heap.size := by omega
          have HBB := Lib.hid (HB.out.trans (hb5.mono HB.out.size))
          clear hb4 hb5
          go_wp2
          exact bodyPost_ret (v := .tuple #[.agg #[.int .i64 0, .int .i64 0], .bool false]) (by simp [results, Try.results31, go_sem, *]) rfl ⟨HNO.out, (HBB.out.setCell (Nat.le_refl _) _).setCell (Nat.le_refl _) _⟩
        | true =>
          rw [hg] at HG
          have HGG := Lib.hid hg
          clear hg
          go_wp2_with fail
          refine (HG.out _).mono ?_
          rintro e w4 ⟨rfl, hb4⟩
          have hb5 := (below1 wr (.cells #[.int .i64 x, .int .i64 y] 29)).trans (hb4.mono (below1 _ _).size)
          obtain ⟨hc4, hf4⟩ := bcell hb4
          have hs0 : w.heap.size < wr.heap.size := by omega
          have hs4 : wr.heap.size < w4.heap.size := by have := hb4.size; simp at this; omega
          clear hb4
          have HST := Lib.hid (HR.out.step (by omega) HX.out HY.out HGG.out hb5)
          obtain ⟨hc5, hf5⟩ := bcell hb5
          clear hb5
          go_wp2_with fail
          refine (l1Most_any _ _ _).mono ?_
          rintro e w5 ⟨rfl, rfl⟩
          go_wp2_with fail
          refine (l1Least_any _ _ _).mono ?_
          rintro e w5 ⟨rfl, rfl⟩
          go_wp2
          go_roundw
          case rel => exact ⟨k + 1, max lo x, min hi y, by omega, by go_num, HST.out⟩
          case measure => simp [intOf]; omega
      · obtain ⟨ha, hga⟩ := HR.out.all (by omega)
        have HB := Lib.hid hb
        by_cases hle2 : lo ≤ hi
        · have HYES := Lib.hid (mt_yes (mtOk_of (by omega) (by omega) ha hga (decide_eq_true hle2)) ha)
          clear ha hga hb hm1 hm2 hm3 hm4
          go_wp2
          exact bodyPost_ret (v := .tuple #[.agg #[.int .i64 lo, .int .i64 hi], .bool true]) (by simp [results, Try.results31, go_sem, *]) rfl ⟨HYES.out, (HB.out.setCell (Nat.le_refl _) _).setCell (Nat.le_refl _) _⟩
        · have HNO := Lib.hid (mt_no (mtOk_of (by omega) (by omega) ha hga (decide_eq_false hle2)))
          clear ha hga hb hm1 hm2 hm3 hm4
          go_wp2
          exact bodyPost_ret (v := .tuple #[.agg #[.int .i64 0, .int .i64 0], .bool false]) (by simp [results, Try.results31, go_sem, *]) rfl ⟨HNO.out, (HB.out.setCell (Nat.le_refl _) _).setCell (Nat.le_refl _) _⟩

theorem specMeetSpans_any (A : Option Addr) (n c : Nat) (xs : List (Int × Int)) (w : World) (hn : xs.length = n) (h : SpansAt w A xs) (hl : n ≤ 1048576) :
    Calls Try.prog 31 #[.slice A n c] w fun e w' => e = MtRet xs ∧ Below w.heap.size w w' := by
  by_cases ho : n = 0 ∨ 20 < n
  · exact specMeet_out A n c xs w hn hl ho
  · exact specMeet_in A n c xs w hn h (by omega) (by omega)
end Go.Proofs.Ytmdejfdkdgpffaa
