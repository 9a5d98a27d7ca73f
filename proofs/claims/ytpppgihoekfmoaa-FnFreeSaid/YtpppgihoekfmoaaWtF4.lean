/-
  The program's leaser: SpanAt, leaserOf, isPast, stepsPast, stepsToTurn, holds, holdsAny.
-/
import Derived.Test.YtpppgihoekfmoaaWtF3
import Derived.Deep.RegionHeld3
import Derived.Deep.DeepCutAuto
import Derived.Deep.QuietTactic
namespace Go.Proofs.Ytpppgihoekfmoaa.Wt
open Go.RowKit
set_option linter.unusedVariables false
set_option linter.unusedSimpArgs false

set_option maxHeartbeats 1000000 in
theorem isPastW_any (lo hi t : Int) (w : World) :
    Calls Try.prog 43 #[.agg #[.int .i64 lo, .int .i64 hi], .int .i64 t] w fun e w' => e = .returned (.bool (decide (t < lo))) ∧ Below w.heap.size w w' := by
  go_enter Try.func43, Try.ntmps43
  go_wp2
  go_ret
  exact ⟨rfl, below1 _ _⟩
set_option maxHeartbeats 1000000 in
theorem stepsPast_any (lo hi t : Int) (w : World) (h1 : -20 ≤ lo ∧ lo ≤ 100020) (h2 : -20 ≤ t ∧ t ≤ 100200) :
    Calls Try.prog 55 #[.agg #[.int .i64 lo, .int .i64 hi], .int .i64 t] w fun e w' => e = .returned (.int .i64 (max 0 (t + 1 - lo))) ∧ Below w.heap.size w w' := by
  obtain ⟨a1, a2⟩ := h1
  obtain ⟨b1, b2⟩ := h2
  go_enter Try.func55, Try.ntmps55
  go_wp2
  go_ret
  exact ⟨rfl, below1 _ _⟩
set_option maxHeartbeats 2000000 in
theorem spanAtW_any (tm c : Int) (w : World) (h1 : 0 ≤ tm ∧ tm ≤ 100000) (h2 : -5 ≤ c ∧ c ≤ 5) :
    Calls Try.prog 54 #[.agg #[.int .i64 c], .int .i64 tm] w fun e w' => e = .returned (.tuple #[.agg #[.int .i64 (lowW tm c), .int .i64 (highW tm c)], .bool true]) ∧ Below w.heap.size w w' := by
  have HG := Lib.hid (fun W => goodClock_any c W)
  have HT := Lib.hid (fun W => isTrueTimeW_any tm W)
  rw [inB_mk h2] at HG
  rw [inB_mk h1] at HT
  obtain ⟨a1, a2⟩ := h1
  obtain ⟨b1, b2⟩ := h2
  unfold lowW highW
  have HB0 := Lib.hid (below2 w (.cells #[.int .i64 c] 27) (.cells #[.int .i64 0, .int .i64 0] 58))
  have hk0 := ((below1 (w.alloc (.cells #[.int .i64 c] 27)) (.cells #[.int .i64 0, .int .i64 0] 58)).block w.heap.size (by simp)).trans (heap_alloc_new w (.cells #[.int .i64 c] 27))
  have hr0 := alloc_snd w (.cells #[.int .i64 c] 27) (.cells #[.int .i64 0, .int .i64 0] 58)
  go_enter Try.func54, Try.ntmps54
  go_wp2_with fail
  refine (HG.out _).mono ?_
  rintro e w1 ⟨rfl, hb1⟩
  have hk1 := (hb1.block w.heap.size (lt_blk hk0)).trans hk0
  have hr1 := (hb1.block (w.heap.size + 1) (lt_blk hr0)).trans hr0
  have k0 := cell_blk (i := 0) hk1 rfl
  have r0 := cell_blk (i := 0) hr1 rfl
  have r1 := cell_blk (i := 1) hr1 rfl
  have f0 := free_blk hr1 0
  have f1 := free_blk hr1 1
  have HB1 := Lib.hid (HB0.out.trans (hb1.mono HB0.out.size))
  clear hb1 hk0 hr0 hk1 hr1
  go_wp2_with fail
  refine (HT.out _).mono ?_
  rintro e w2 ⟨rfl, rfl⟩
  go_wp2
  exact bodyPost_ret (v := .tuple #[.agg #[.int .i64 (tm + c - 5), .int .i64 (tm + c + 5)], .bool true]) (by simp [results, Try.results54, go_sem, r0, r1, f0, f1]) rfl ⟨rfl, bel_put2 HB1.out (by omega)⟩

set_option maxHeartbeats 2000000 in
theorem holdsL_any (lo hi a s0 s1 s2 : Int) (w : World) :
    Calls Try.prog 60 #[.agg #[.int .i64 lo, .int .i64 hi, .int .i64 a], .agg #[.int .i64 s0, .int .i64 s1, .int .i64 s2]] w fun e w' => e = .returned (.bool (holdsL a hi (s0, s1, s2))) ∧ Below w.heap.size w w' := by
  by_cases h1 : s0 = a
  · subst h1
    by_cases h2 : s1 ≤ hi
    · by_cases h3 : hi ≤ s2
      · rw [show holdsL s0 hi (s0, s1, s2) = true by simp [holdsL, h2, h3]]
        go_enter Try.func60, Try.ntmps60
        go_wp2
        go_ret
        exact ⟨rfl, below2 _ _ _⟩
      · rw [show holdsL s0 hi (s0, s1, s2) = false by simp [holdsL, h3]]
        have h3d : decide (hi ≤ s2) = false := by simp; omega
        go_enter Try.func60, Try.ntmps60
        go_wp2
        go_ret
        exact ⟨rfl, below2 _ _ _⟩
    · rw [show holdsL s0 hi (s0, s1, s2) = false by simp [holdsL, h2]]
      have h2d : decide (s1 ≤ hi) = false := by simp; omega
      go_enter Try.func60, Try.ntmps60
      go_wp2
      go_ret
      exact ⟨rfl, below2 _ _ _⟩
  · rw [show holdsL a hi (s0, s1, s2) = false by simp [holdsL, h1]]
    have h1d : decide (s0 = a) = false := by simp [h1]
    go_enter Try.func60, Try.ntmps60
    go_wp2
    go_ret
    exact ⟨rfl, below2 _ _ _⟩


def IdxPost (a hi : Int) (ls : List (Int × Int × Int)) (w : World) (e : Ending) (w' : World) : Prop :=
  ∃ r : Int, e = .returned (.int .i64 r) ∧ ((0 ≤ r ∧ holdW a hi ls = true) ∨ (r = -1 ∧ holdW a hi ls = false)) ∧ Below w.heap.size w w'
set_option maxRecDepth 100000 in
set_option maxHeartbeats 2000000 in
theorem idxLease_any (lo hi a : Int) (A : Option Addr) (n c : Nat) (ls : List (Int × Int × Int)) (B : Nat) (w : World) (hn : ls.length = n) (h : LesB w B A ls) (hB : B ≤ w.heap.size) (hl : n ≤ 1048576) :
    Calls Try.prog 65 #[.slice A n c, (.func (.func 60) #[.agg #[.int .i64 lo, .int .i64 hi, .int .i64 a]] #[])] w (IdxPost a hi ls w) := by
  have hge := Nat.le_of_eq hn
  have hle := Nat.le_of_eq hn.symm
  have HS := Lib.hid h
  clear hn h
  go_enter Try.func65, Try.ntmps65
  go_wp2
  go_loopw [8] (fun i wr => ∃ k : Nat, k ≤ n ∧ i = .int .i64 k ∧ Hid (holdW a hi ls = holdW a hi (ls.drop k)) ∧ Below w.heap.size w wr) (fun i _ => n - (intOf i).toNat)
  case atStart => exact ⟨0, by omega, rfl, Lib.hid rfl, Below.refl _ _⟩
  case round =>
    obtain ⟨k, hk, rfl, HP, hb⟩ := hrel
    by_cases hlt : k < n
    · obtain ⟨b, off, rfl, hbB, hc⟩ := HS.out.get (by omega)
      obtain ⟨hc0, hc1, hc2⟩ := hc k (by omega)
      have c0 := (hb.cell (p := ⟨b, off + k * 3, none⟩) (Nat.lt_of_lt_of_le hbB hB)).trans hc0
      have c1 := (hb.cell (p := ⟨b, off + k * 3 + 1, none⟩) (Nat.lt_of_lt_of_le hbB hB)).trans hc1
      have c2 := (hb.cell (p := ⟨b, off + k * 3 + 2, none⟩) (Nat.lt_of_lt_of_le hbB hB)).trans hc2
      have HST := Lib.hid (HP.out.trans (hold_step (show k < ls.length by omega)))
      obtain ⟨y, hy⟩ : ∃ y, y = ls[k]'(by omega) := ⟨_, rfl⟩
      rw [← hy] at c0 c1 c2 HST
      obtain ⟨s0, s1, s2⟩ := y
      simp only at c0 c1 c2
      have HB := Lib.hid hb
      have HC := Lib.hid (fun W => holdsL_any lo hi a s0 s1 s2 W)
      clear hc hc0 hc1 hc2 hy hb HP
      cases hg : holdsL a hi (s0, s1, s2) with
      | true =>
        rw [hg] at HC
        have HF0 := Lib.hid (show ∀ w', Below w.heap.size w w' → IdxPost a hi ls w (.returned (.int .i64 (k : Int))) w' from fun w' hb' => ⟨k, rfl, .inl ⟨by omega, by rw [HST.out, hg]; rfl⟩, hb'⟩)
        clear hg HST
        go_wp2_with fail
        refine (HC.out _).mono ?_
        rintro e w4 ⟨rfl, hb4⟩
        have HF := Lib.hid (HF0.out w4 (HB.out.trans (hb4.mono HB.out.size)))
        clear hb4
        go_wp2
        go_ret
        exact HF.out
      | false =>
        rw [hg] at HC
        have HP4 := Lib.hid (show holdW a hi ls = holdW a hi (ls.drop (k + 1)) by rw [HST.out, hg]; rfl)
        clear hg HST
        go_wp2_with fail
        refine (HC.out _).mono ?_
        rintro e w4 ⟨rfl, hb4⟩
        have HB4 := Lib.hid (HB.out.trans (hb4.mono HB.out.size))
        clear hb4
        go_wp2
        go_roundw
        case rel => exact ⟨k + 1, by omega, by go_num, HP4, HB4.out⟩
        case measure => simp [intOf]; omega
    · have HF := Lib.hid (show IdxPost a hi ls w (.returned (.int .i64 (-1))) wr from ⟨-1, rfl, .inr ⟨rfl, by rw [HP.out, hold_end (by omega)]⟩, hb⟩)
      clear hb
      go_wp2
      go_ret
      exact HF.out
theorem hasLease_any (lo hi a : Int) (A : Option Addr) (n c : Nat) (ls : List (Int × Int × Int)) (B : Nat) (w : World) (hn : ls.length = n) (h : LesB w B A ls) (hB : B ≤ w.heap.size) (hl : n ≤ 1048576) :
    Calls Try.prog 59 #[.slice A n c, (.func (.func 60) #[.agg #[.int .i64 lo, .int .i64 hi, .int .i64 a]] #[])] w fun e w' => e = .returned (.bool (holdW a hi ls)) ∧ Below w.heap.size w w' := by
  have HC := Lib.hid (idxLease_any lo hi a A n c ls B w hn h hB hl)
  clear h
  go_enter Try.func59, Try.ntmps59
  go_wp2_with fail
  refine HC.out.mono ?_
  rintro e w4 ⟨r, rfl, hr, hb4⟩
  have HB4 := Lib.hid hb4
  clear hb4
  rcases hr with ⟨hk, hg⟩ | ⟨rfl, hg⟩
  · have HF := Lib.hid (ret_bool hg.symm)
    clear hg
    go_wp2
    go_ret
    exact ⟨HF.out, HB4.out⟩
  · have HF := Lib.hid (ret_bool hg.symm)
    clear hg
    go_wp2
    go_ret
    exact ⟨HF.out, HB4.out⟩

theorem holdsAny_any (lo hi a : Int) (A : Option Addr) (n c : Nat) (ls : List (Int × Int × Int)) (B : Nat) (w : World) (hn : ls.length = n) (h : LesB w B A ls) (hB : B ≤ w.heap.size) (hl : n ≤ 1048576) :
    Calls Try.prog 42 #[.agg #[.int .i64 lo, .int .i64 hi, .int .i64 a], .slice A n c] w fun e w' => e = .returned (.bool (holdW a hi ls)) ∧ Below w.heap.size w w' := by
  have hb0 := below1 w (.cells #[.int .i64 lo, .int .i64 hi, .int .i64 a] 60)
  have HC := Lib.hid (hasLease_any lo hi a A n c ls B _ hn (h.below (hb0.mono hB)) (Nat.le_trans hB hb0.size) hl)
  clear h
  go_enter Try.func42, Try.ntmps42
  go_wp2_with fail
  refine HC.out.mono ?_
  rintro e w4 ⟨rfl, hb4⟩
  have HB4 := Lib.hid (hb0.trans (hb4.mono hb0.size))
  clear hb4
  go_wp2
  go_ret
  exact ⟨rfl, HB4.out⟩

theorem step_same {a lo s : Int} {x : (Int × Int × Int)} (h : x.1 = a) : stepW a lo s x = s := by simp [stepW, h]
theorem step_other {a lo s : Int} {x : (Int × Int × Int)} (h : x.1 ≠ a) (hs : 0 ≤ s) : stepW a lo s x = max s (max 0 (x.2.2 + 1 - lo)) := by
  simp only [stepW, h, if_false]; omega
set_option maxRecDepth 100000 in
set_option maxHeartbeats 2000000 in
theorem stepsToTurn_any (lo hi a : Int) (A : Option Addr) (n c : Nat) (ls : List (Int × Int × Int)) (B : Nat) (w : World) (hn : ls.length = n) (h : LesB w B A ls) (hB : B ≤ w.heap.size) (hl : n ≤ 1048576) (h1 : -20 ≤ lo ∧ lo ≤ 100020) (h2 : ∀ x ∈ ls, -20 ≤ x.2.2 ∧ x.2.2 ≤ 100200) :
    Calls Try.prog 32 #[.agg #[.int .i64 lo, .int .i64 hi, .int .i64 a], .slice A n c] w fun e w' => e = .returned (.int .i64 (stepsW a lo ls)) ∧ Below w.heap.size w w' := by
  have HB0 := Lib.hid (below1 w (.cells #[.int .i64 lo, .int .i64 hi, .int .i64 a] 60))
  have HBK := Lib.hid (heap_alloc_new w (.cells #[.int .i64 lo, .int .i64 hi, .int .i64 a] 60))
  have hge := Nat.le_of_eq hn
  have hle := Nat.le_of_eq hn.symm
  have HS := Lib.hid h
  have HX := Lib.hid h2
  clear hn h h2
  go_enter Try.func32, Try.ntmps32
  go_wp2
  go_loopw [5, 10] (fun v i wr => ∃ (k : Nat) (s : Int), k ≤ n ∧ i = .int .i64 k ∧ v = .int .i64 s ∧ 0 ≤ s ∧ s ≤ 200000 ∧ Hid (s = stepsW a lo (ls.take k)) ∧ Hid (Below w.heap.size w wr) ∧ Hid (wr.heap[w.heap.size]? = some (.cells #[.int .i64 lo, .int .i64 hi, .int .i64 a] 60 (0, 0)))) (fun _ i _ => n - (intOf i).toNat)
  case atStart => exact ⟨0, 0, by omega, rfl, rfl, by omega, by omega, Lib.hid rfl, HB0.out, HBK.out⟩
  case round =>
    clear HB0 HBK
    obtain ⟨k, s, hk, rfl, rfl, hs0, hs1, HP, HB, HK⟩ := hrel
    have k0 := cell_blk (i := 0) HK.out rfl
    have k1 := cell_blk (i := 1) HK.out rfl
    have k2 := cell_blk (i := 2) HK.out rfl
    have hlw := lt_blk HK.out
    by_cases hlt : k < n
    · obtain ⟨b, off, rfl, hbB, hc⟩ := HS.out.get (by omega)
      obtain ⟨hc0, hc1, hc2⟩ := hc k (by omega)
      have c0 := (HB.out.cell (p := ⟨b, off + k * 3, none⟩) (Nat.lt_of_lt_of_le hbB hB)).trans hc0
      have c1 := (HB.out.cell (p := ⟨b, off + k * 3 + 1, none⟩) (Nat.lt_of_lt_of_le hbB hB)).trans hc1
      have c2 := (HB.out.cell (p := ⟨b, off + k * 3 + 2, none⟩) (Nat.lt_of_lt_of_le hbB hB)).trans hc2
      have HST := Lib.hid (steps_succ (who := a) (lo := lo) (show k < ls.length by omega))
      have hxb := HX.out _ (List.getElem_mem (show k < ls.length by omega))
      obtain ⟨y, hy⟩ : ∃ y, y = ls[k]'(by omega) := ⟨_, rfl⟩
      rw [← hy] at c0 c1 c2 HST hxb
      obtain ⟨s0, s1, s2⟩ := y
      simp only at c0 c1 c2 hxb
      have hk0 : (0 : Int) ≤ (k : Int) := by omega
      have hkn : (k : Int) < (n : Int) := by omega
      have HC := Lib.hid (fun W => stepsPast_any lo hi s2 W h1 hxb)
      have HB1 := Lib.hid (below1 wr (.cells #[.int .i64 s0, .int .i64 s1, .int .i64 s2] 55))
      have HBX := Lib.hid (HB.out.trans (HB1.out.mono HB.out.size))
      have HKX := Lib.hid ((HB1.out.block w.heap.size hlw).trans HK.out)
      clear hc hc0 hc1 hc2 hy
      by_cases he : s0 = a
      · subst he
        have HP2 := Lib.hid (show s = stepsW s0 lo (ls.take (k + 1)) by rw [HST.out, step_same (x := (s0, s1, s2)) rfl]; exact HP.out)
        clear HST
        go_wp2
        go_roundw
        case rel => exact ⟨k + 1, s, by omega, by go_num, rfl, hs0, hs1, HP2, HBX.out, HKX.out⟩
        case measure => simp [intOf]; omega
      · have HP2 := Lib.hid (show max s (max 0 (s2 + 1 - lo)) = stepsW a lo (ls.take (k + 1)) by rw [HST.out, step_other (x := (s0, s1, s2)) he (by have := HP.out; omega), ← HP.out])
        have h1n : (s0 != a) = true := by simp [he]
        have h1d : decide (s0 = a) = false := by simp [he]
        have hmb : 0 ≤ max 0 (s2 + 1 - lo) ∧ max 0 (s2 + 1 - lo) ≤ 200000 := by omega
        obtain ⟨mv, hmv⟩ : ∃ mv, mv = max 0 (s2 + 1 - lo) := ⟨_, rfl⟩
        rw [← hmv] at HC HP2 hmb
        obtain ⟨hm0, hm1⟩ := hmb
        clear HST hmv hxb h1
        go_wp2_with fail
        refine (HC.out _).mono ?_
        rintro e w4 ⟨rfl, hb4⟩
        have HB5 := Lib.hid (HBX.out.trans (hb4.mono HBX.out.size))
        have HK5 := Lib.hid ((hb4.block w.heap.size (by simp; omega)).trans HKX.out)
        clear hb4 c0 c1 c2 k0 k1 k2
        have hm2 : 0 ≤ max s mv ∧ max s mv ≤ 200000 := by omega
        go_wp2
        go_roundw
        case rel => exact ⟨k + 1, max s mv, by omega, by go_num, by go_num, hm2.1, hm2.2, HP2, HB5.out, HK5.out⟩
        case measure => simp [intOf]; omega
    · have HF := Lib.hid (ret_int (k := .i64) (show s = stepsW a lo ls by rw [HP.out, List.take_of_length_le (by omega)]))
      go_wp2
      go_ret
      exact ⟨HF.out, HB.out⟩
end Go.Proofs.Ytpppgihoekfmoaa.Wt
