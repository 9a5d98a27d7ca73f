/-
  WaitFor of both sides.
-/
import Derived.Test.YtoanigbjdfgjcaaSpAsks
namespace Go.Proofs.Ytoanigbjdfgjcaa.Sp

open Go.RowKit
set_option linter.unusedVariables false

/-- The steps to wait, whether WaitFor succeeds, and its number. -/
def waitN (o now t : Int) : Int := max 0 (t + 1 - (now + o - 5))
def waitOk (o now t : Int) : Bool := inB o (-5) 5 && (inB now 0 100000 && (inB t 0 100000 && decide (now + waitN o now t ≤ 100000)))
def waitV (o now t : Int) : Int := if waitOk o now t then waitN o now t else 0

set_option maxRecDepth 100000 in
theorem waitFor_no1 (o now t : Int) (w : World) (h : saOk o now = false) :
    Calls Try.prog 65 #[.agg #[.int .i64 o], .int .i64 now, .int .i64 t] w fun e w' => e = .returned (.tuple #[.int .i64 0, .bool false]) ∧ Below w.heap.size w w' := by
  have HG := fun W => spanAt_any o now W
  have h' := h
  unfold saOk at h'
  rw [h, show saLo o now = 0 by simp [saLo, h'], show saHi o now = 0 by simp [saHi, h']] at HG
  replace HG := Lib.hid HG
  clear h h'
  go_enter Try.func65, Try.ntmps65
  go_wp2_with fail
  refine (HG.out _).mono ?_
  rintro e w1 ⟨rfl, hb1⟩
  go_wp2
  go_ret2
  exact ⟨rfl, ((below1 _ _).trans (hb1.mono (below1 _ _).size)).alloc ((below1 _ _).trans (hb1.mono (below1 _ _).size)).size _⟩

set_option maxRecDepth 100000 in
theorem waitFor_no2 (o now t : Int) (w : World) (h1 : inB o (-5) 5 = true) (h2 : inB now 0 100000 = true) (h3 : inB t 0 100000 = false) :
    Calls Try.prog 65 #[.agg #[.int .i64 o], .int .i64 now, .int .i64 t] w fun e w' => e = .returned (.tuple #[.int .i64 0, .bool false]) ∧ Below w.heap.size w w' := by
  have HG := Lib.hid fun W => spanAt_yes o now W h1 h2
  have HT := fun W => isTrueTime_any t W
  rw [h3] at HT
  replace HT := Lib.hid HT
  clear h1 h2 h3
  go_enter Try.func65, Try.ntmps65
  go_wp2_with fail
  refine (HG.out _).mono ?_
  rintro e w1 ⟨rfl, hb1⟩
  go_wp2_with fail
  refine (HT.out _).mono ?_
  rintro e w2 ⟨rfl, rfl⟩
  go_wp2
  go_ret2
  exact ⟨rfl, ((below1 _ _).trans (hb1.mono (below1 _ _).size)).alloc ((below1 _ _).trans (hb1.mono (below1 _ _).size)).size _⟩

set_option maxRecDepth 100000 in
/-- No waiting. -/
theorem waitFor_zero (o now t : Int) (w : World) (h1 : inB o (-5) 5 = true) (h2 : inB now 0 100000 = true) (h3 : inB t 0 100000 = true) (h4 : t + 1 - (now + o - 5) ≤ 0) :
    Calls Try.prog 65 #[.agg #[.int .i64 o], .int .i64 now, .int .i64 t] w fun e w' => e = .returned (.tuple #[.int .i64 0, .bool true]) ∧ Below w.heap.size w w' := by
  have HG := Lib.hid fun W => spanAt_yes o now W h1 h2
  have HT := fun W => isTrueTime_any t W
  have HN := fun W => isTrueTime_any now W
  rw [h3] at HT
  rw [h2] at HN
  replace HT := Lib.hid HT
  replace HN := Lib.hid HN
  obtain ⟨b1, b2⟩ := inB_true h1
  obtain ⟨b3, b4⟩ := inB_true h2
  obtain ⟨b5, b6⟩ := inB_true h3
  clear h1 h2 h3
  have HS := fun W => Wt.stepsPast_any (now + o - 5) (now + o + 5) t W (by omega) (by omega)
  rw [show max 0 (t + 1 - (now + o - 5)) = 0 by omega] at HS
  replace HS := Lib.hid HS
  go_enter Try.func65, Try.ntmps65
  go_wp2_with fail
  refine (HG.out _).mono ?_
  rintro e w1 ⟨rfl, hb1⟩
  go_wp2_with fail
  refine (HT.out _).mono ?_
  rintro e w2 ⟨rfl, rfl⟩
  go_wp2_with fail
  refine (HS.out _).mono ?_
  rintro e w3 ⟨rfl, hb3⟩
  have HB1 := (below1 w (.cells #[.int .i64 o] 68)).trans (hb1.mono (below1 _ _).size)
  have HB2 := HB1.alloc HB1.size (.cells #[.int .i64 (now + o - 5), .int .i64 (now + o + 5)] 78)
  have HB3 := HB2.trans (hb3.mono HB2.size)
  go_wp2_with fail
  refine (HN.out _).mono ?_
  rintro e w2 ⟨rfl, rfl⟩
  go_wp2
  go_ret2
  exact ⟨rfl, HB3⟩

set_option maxRecDepth 100000 in
/-- Waiting, too late. -/
theorem waitFor_pos_no (o now t : Int) (w : World) (h1 : inB o (-5) 5 = true) (h2 : inB now 0 100000 = true) (h3 : inB t 0 100000 = true) (h4 : 0 < t + 1 - (now + o - 5)) (h5 : inB (now + (t + 1 - (now + o - 5))) 0 100000 = false) :
    Calls Try.prog 65 #[.agg #[.int .i64 o], .int .i64 now, .int .i64 t] w fun e w' => e = .returned (.tuple #[.int .i64 (0), .bool false]) ∧ Below w.heap.size w w' := by
  have HG := Lib.hid fun W => spanAt_yes o now W h1 h2
  have HT := fun W => isTrueTime_any t W
  have HN := fun W => isTrueTime_any (now + (t + 1 - (now + o - 5))) W
  rw [h3] at HT
  rw [h5] at HN
  replace HT := Lib.hid HT
  replace HN := Lib.hid HN
  obtain ⟨b1, b2⟩ := inB_true h1
  obtain ⟨b3, b4⟩ := inB_true h2
  obtain ⟨b5, b6⟩ := inB_true h3
  clear h1 h2 h3 h5
  have HS := fun W => Wt.stepsPast_any (now + o - 5) (now + o + 5) t W (by omega) (by omega)
  rw [show max 0 (t + 1 - (now + o - 5)) = t + 1 - (now + o - 5) by omega] at HS
  replace HS := Lib.hid HS
  go_enter Try.func65, Try.ntmps65
  go_wp2_with fail
  refine (HG.out _).mono ?_
  rintro e w1 ⟨rfl, hb1⟩
  go_wp2_with fail
  refine (HT.out _).mono ?_
  rintro e w2 ⟨rfl, rfl⟩
  go_wp2_with fail
  refine (HS.out _).mono ?_
  rintro e w3 ⟨rfl, hb3⟩
  have HB1 := (below1 w (.cells #[.int .i64 o] 68)).trans (hb1.mono (below1 _ _).size)
  have HB2 := HB1.alloc HB1.size (.cells #[.int .i64 (now + o - 5), .int .i64 (now + o + 5)] 78)
  have HB3 := HB2.trans (hb3.mono HB2.size)
  go_wp2_with fail
  refine (HN.out _).mono ?_
  rintro e w2 ⟨rfl, rfl⟩
  go_wp2
  go_ret2
  exact ⟨rfl, HB3⟩

set_option maxRecDepth 100000 in
/-- Waiting. -/
theorem waitFor_pos_yes (o now t : Int) (w : World) (h1 : inB o (-5) 5 = true) (h2 : inB now 0 100000 = true) (h3 : inB t 0 100000 = true) (h4 : 0 < t + 1 - (now + o - 5)) (h5 : inB (now + (t + 1 - (now + o - 5))) 0 100000 = true) :
    Calls Try.prog 65 #[.agg #[.int .i64 o], .int .i64 now, .int .i64 t] w fun e w' => e = .returned (.tuple #[.int .i64 (t + 1 - (now + o - 5)), .bool true]) ∧ Below w.heap.size w w' := by
  have HG := Lib.hid fun W => spanAt_yes o now W h1 h2
  have HT := fun W => isTrueTime_any t W
  have HN := fun W => isTrueTime_any (now + (t + 1 - (now + o - 5))) W
  rw [h3] at HT
  rw [h5] at HN
  replace HT := Lib.hid HT
  replace HN := Lib.hid HN
  obtain ⟨b1, b2⟩ := inB_true h1
  obtain ⟨b3, b4⟩ := inB_true h2
  obtain ⟨b5, b6⟩ := inB_true h3
  clear h1 h2 h3 h5
  have HS := fun W => Wt.stepsPast_any (now + o - 5) (now + o + 5) t W (by omega) (by omega)
  rw [show max 0 (t + 1 - (now + o - 5)) = t + 1 - (now + o - 5) by omega] at HS
  replace HS := Lib.hid HS
  go_enter Try.func65, Try.ntmps65
  go_wp2_with fail
  refine (HG.out _).mono ?_
  rintro e w1 ⟨rfl, hb1⟩
  go_wp2_with fail
  refine (HT.out _).mono ?_
  rintro e w2 ⟨rfl, rfl⟩
  go_wp2_with fail
  refine (HS.out _).mono ?_
  rintro e w3 ⟨rfl, hb3⟩
  have HB1 := (below1 w (.cells #[.int .i64 o] 68)).trans (hb1.mono (below1 _ _).size)
  have HB2 := HB1.alloc HB1.size (.cells #[.int .i64 (now + o - 5), .int .i64 (now + o + 5)] 78)
  have HB3 := HB2.trans (hb3.mono HB2.size)
  go_wp2_with fail
  refine (HN.out _).mono ?_
  rintro e w2 ⟨rfl, rfl⟩
  go_wp2
  go_ret2
  exact ⟨rfl, HB3⟩

theorem waitV_of {o now t : Int} (h : waitOk o now t = true) : waitV o now t = waitN o now t := by simp only [waitV, h, if_true]

theorem waitFor_any (o now t : Int) (w : World) :
    Calls Try.prog 65 #[.agg #[.int .i64 o], .int .i64 now, .int .i64 t] w fun e w' => e = .returned (.tuple #[.int .i64 (waitV o now t), .bool (waitOk o now t)]) ∧ Below w.heap.size w w' := by
  cases h1 : inB o (-5) 5
  · rw [show waitOk o now t = false by simp [waitOk, h1], show waitV o now t = 0 by simp [waitV, waitOk, h1]]
    exact waitFor_no1 o now t w (by simp [saOk, h1])
  · cases h2 : inB now 0 100000
    · rw [show waitOk o now t = false by simp [waitOk, h2], show waitV o now t = 0 by simp [waitV, waitOk, h2]]
      exact waitFor_no1 o now t w (by simp [saOk, h2])
    · cases h3 : inB t 0 100000
      · rw [show waitOk o now t = false by simp [waitOk, h3], show waitV o now t = 0 by simp [waitV, waitOk, h3]]
        exact waitFor_no2 o now t w h1 h2 h3
      · obtain ⟨b1, b2⟩ := inB_true h1
        obtain ⟨b3, b4⟩ := inB_true h2
        obtain ⟨b5, b6⟩ := inB_true h3
        by_cases h4 : t + 1 - (now + o - 5) ≤ 0
        · have hn : waitN o now t = 0 := by unfold waitN; omega
          rw [show waitOk o now t = true by simp [waitOk, h1, h2, h3, hn]; omega, show waitV o now t = 0 by simp [waitV, hn]]
          exact waitFor_zero o now t w h1 h2 h3 h4
        · have hn : waitN o now t = t + 1 - (now + o - 5) := by unfold waitN; omega
          have hd : decide (now + waitN o now t ≤ 100000) = inB (now + (t + 1 - (now + o - 5))) 0 100000 := by
            rw [hn]; unfold inB; simp; omega
          cases h5 : inB (now + (t + 1 - (now + o - 5))) 0 100000
          · rw [h5] at hd
            rw [show waitOk o now t = false by simp [waitOk, hd], show waitV o now t = 0 by simp [waitV, waitOk, hd]]
            exact waitFor_pos_no o now t w h1 h2 h3 (by omega) h5
          · rw [h5] at hd
            rw [show waitOk o now t = true by simp [waitOk, h1, h2, h3, hd], (waitV_of (by simp [waitOk, h1, h2, h3, hd])).trans hn]
            exact waitFor_pos_yes o now t w h1 h2 h3 (by omega) h5

set_option maxRecDepth 100000 in
theorem specWaitFor_no1 (o now t : Int) (w : World) (h1 : inB o (-5) 5 = false) :
    Calls Try.prog 63 #[.agg #[.int .i64 o], .int .i64 now, .int .i64 t] w fun e w' => e = .returned (.tuple #[.int .i64 0, .bool false]) ∧ Below w.heap.size w w' := by
  have HG := fun W => l2Clock_any o W
  rw [h1] at HG
  replace HG := Lib.hid HG
  clear h1
  go_enter Try.func63, Try.ntmps63
  go_wp2_with fail
  refine (HG.out _).mono ?_
  rintro e w1 ⟨rfl, hb1⟩
  go_wp2
  go_ret2
  exact ⟨rfl, (below1 _ _).trans (hb1.mono (below1 _ _).size)⟩

set_option maxRecDepth 100000 in
theorem specWaitFor_no2 (o now t : Int) (w : World) (h1 : inB o (-5) 5 = true) (h2 : inB now 0 100000 = false) :
    Calls Try.prog 63 #[.agg #[.int .i64 o], .int .i64 now, .int .i64 t] w fun e w' => e = .returned (.tuple #[.int .i64 0, .bool false]) ∧ Below w.heap.size w w' := by
  have HG := fun W => l2Clock_any o W
  have HT := fun W => l2True_any now W
  rw [h1] at HG
  rw [h2] at HT
  replace HG := Lib.hid HG
  replace HT := Lib.hid HT
  clear h1 h2
  go_enter Try.func63, Try.ntmps63
  go_wp2_with fail
  refine (HG.out _).mono ?_
  rintro e w1 ⟨rfl, hb1⟩
  go_wp2_with fail
  refine (HT.out _).mono ?_
  rintro e w2 ⟨rfl, rfl⟩
  go_wp2
  go_ret2
  exact ⟨rfl, (below1 _ _).trans (hb1.mono (below1 _ _).size)⟩

set_option maxRecDepth 100000 in
theorem specWaitFor_no3 (o now t : Int) (w : World) (h1 : inB o (-5) 5 = true) (h2 : inB now 0 100000 = true) (h3 : inB t 0 100000 = false) :
    Calls Try.prog 63 #[.agg #[.int .i64 o], .int .i64 now, .int .i64 t] w fun e w' => e = .returned (.tuple #[.int .i64 0, .bool false]) ∧ Below w.heap.size w w' := by
  have HG := fun W => l2Clock_any o W
  have HT := fun W => l2True_any now W
  have HU := fun W => l2True_any t W
  rw [h1] at HG
  rw [h2] at HT
  rw [h3] at HU
  replace HG := Lib.hid HG
  replace HT := Lib.hid HT
  replace HU := Lib.hid HU
  clear h1 h2 h3
  go_enter Try.func63, Try.ntmps63
  go_wp2_with fail
  refine (HG.out _).mono ?_
  rintro e w1 ⟨rfl, hb1⟩
  go_wp2_with fail
  refine (HT.out _).mono ?_
  rintro e w2 ⟨rfl, rfl⟩
  go_wp2_with fail
  refine (HU.out _).mono ?_
  rintro e w2 ⟨rfl, rfl⟩
  go_wp2
  go_ret2
  exact ⟨rfl, (below1 _ _).trans (hb1.mono (below1 _ _).size)⟩

set_option maxRecDepth 100000 in
theorem specWaitFor_go (o now t n : Int) (v : Bool) (w : World) (h1 : inB o (-5) 5 = true) (h2 : inB now 0 100000 = true) (h3 : inB t 0 100000 = true) (hn : n = waitN o now t) (hv : decide (now + n ≤ 100000) = v) :
    Calls Try.prog 63 #[.agg #[.int .i64 o], .int .i64 now, .int .i64 t] w fun e w' => e = .returned (.tuple #[.int .i64 (if v then n else 0), .bool v]) ∧ Below w.heap.size w w' := by
  have HG := fun W => l2Clock_any o W
  have HT := fun W => l2True_any now W
  have HU := fun W => l2True_any t W
  have HA := Lib.hid fun W => l2At_any o now W h1 h2
  have HM := fun W => l1Most_any 0 (t + 1 - (now + o - 5)) W
  rw [show max 0 (t + 1 - (now + o - 5)) = n by rw [hn]; rfl] at HM
  rw [h1] at HG
  rw [h2] at HT
  rw [h3] at HU
  replace HG := Lib.hid HG
  replace HT := Lib.hid HT
  replace HU := Lib.hid HU
  replace HM := Lib.hid HM
  obtain ⟨b1, b2⟩ := inB_true h1
  obtain ⟨b3, b4⟩ := inB_true h2
  obtain ⟨b5, b6⟩ := inB_true h3
  have b7 : 0 ≤ n := by rw [hn]; unfold waitN; omega
  have b8 : n ≤ 200000 := by rw [hn]; unfold waitN; omega
  have hfd : ∀ W : World, (Instr.field 78 (.agg #[.int .i64 (now + o - 5), .int .i64 (now + o + 5)]) 0).run Try.prog W = .ok (.int .i64 (now + o - 5)) W := fun _ => by kernel_rfl
  clear h1 h2 h3 hn
  cases v with
  | true =>
    have hle : now + n ≤ 100000 := of_decide_eq_true hv
    clear hv
    go_enter Try.func63, Try.ntmps63
    go_wp2_with fail
    refine (HG.out _).mono ?_
    rintro e w1 ⟨rfl, hb1⟩
    obtain ⟨hc, hf⟩ := bcell hb1
    go_wp2_with fail
    refine (HT.out _).mono ?_
    rintro e w2 ⟨rfl, rfl⟩
    go_wp2_with fail
    refine (HU.out _).mono ?_
    rintro e w2 ⟨rfl, rfl⟩
    go_wp2_with fail
    refine (HA.out _).mono ?_
    rintro e w2 ⟨rfl, hb2⟩
    go_wp2_with fail
    refine (HM.out _).mono ?_
    rintro e w3 ⟨rfl, rfl⟩
    go_wp2
    go_ret2
    exact ⟨rfl, ((below1 _ _).trans (hb1.mono (below1 _ _).size)).trans (hb2.mono ((below1 _ _).trans (hb1.mono (below1 _ _).size)).size)⟩
  | false =>
    have hle : 100000 < now + n := by have := of_decide_eq_false hv; omega
    clear hv
    go_enter Try.func63, Try.ntmps63
    go_wp2_with fail
    refine (HG.out _).mono ?_
    rintro e w1 ⟨rfl, hb1⟩
    obtain ⟨hc, hf⟩ := bcell hb1
    go_wp2_with fail
    refine (HT.out _).mono ?_
    rintro e w2 ⟨rfl, rfl⟩
    go_wp2_with fail
    refine (HU.out _).mono ?_
    rintro e w2 ⟨rfl, rfl⟩
    go_wp2_with fail
    refine (HA.out _).mono ?_
    rintro e w2 ⟨rfl, hb2⟩
    go_wp2_with fail
    refine (HM.out _).mono ?_
    rintro e w3 ⟨rfl, rfl⟩
    go_wp2
    go_ret2
    exact ⟨rfl, ((below1 _ _).trans (hb1.mono (below1 _ _).size)).trans (hb2.mono ((below1 _ _).trans (hb1.mono (below1 _ _).size)).size)⟩

theorem specWaitFor_any (o now t : Int) (w : World) :
    Calls Try.prog 63 #[.agg #[.int .i64 o], .int .i64 now, .int .i64 t] w fun e w' => e = .returned (.tuple #[.int .i64 (waitV o now t), .bool (waitOk o now t)]) ∧ Below w.heap.size w w' := by
  cases h1 : inB o (-5) 5
  · rw [show waitOk o now t = false by simp [waitOk, h1], show waitV o now t = 0 by simp [waitV, waitOk, h1]]
    exact specWaitFor_no1 o now t w h1
  · cases h2 : inB now 0 100000
    · rw [show waitOk o now t = false by simp [waitOk, h2], show waitV o now t = 0 by simp [waitV, waitOk, h2]]
      exact specWaitFor_no2 o now t w h1 h2
    · cases h3 : inB t 0 100000
      · rw [show waitOk o now t = false by simp [waitOk, h3], show waitV o now t = 0 by simp [waitV, waitOk, h3]]
        exact specWaitFor_no3 o now t w h1 h2 h3
      · have hk : waitOk o now t = decide (now + waitN o now t ≤ 100000) := by simp [waitOk, h1, h2, h3]
        unfold waitV
        exact specWaitFor_go o now t _ _ w h1 h2 h3 rfl hk.symm
end Go.Proofs.Ytoanigbjdfgjcaa.Sp
