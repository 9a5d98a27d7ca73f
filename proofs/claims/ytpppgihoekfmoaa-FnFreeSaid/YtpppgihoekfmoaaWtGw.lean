/-
  The walks of FnGiven and FnFree; what they draw is handed in.
-/
import Derived.Test.YtpppgihoekfmoaaWtGm
import Derived.Test.YtpppgihoekfmoaaWtF6
import Derived.Test.YtpppgihoekfmoaaWtF7
import Derived.Test.YtpppgihoekfmoaaWtV
import Derived.Test.YtpppgihoekfmoaaFnV
import Derived.Deep.DeepCutAuto
import Derived.BigQuiet
namespace Go.Proofs.Ytpppgihoekfmoaa.Wt
open Go.RowKit
set_option linter.unusedVariables false
set_option linter.unusedSimpArgs false

theorem ask_len {tm who long t' : Int} {cs cs' : List Int} {ls ls' : List (Int × Int × Int)} {ok : Bool} (h : askW tm cs ls who long = (t', cs', ls', ok)) : cs'.length ≤ cs.length ∧ ls'.length ≤ ls.length + 1 := by
  cases ok with
  | true => obtain ⟨_, rfl, rfl, _⟩ := ask_ok h; simp
  | false => obtain ⟨_, rfl, rfl⟩ := ask_no h; simp
theorem pass_len {tm b t' : Int} {cs cs' : List Int} {ls ls' : List (Int × Int × Int)} {ok : Bool} (h : passW tm cs ls b = (t', cs', ls', ok)) : cs'.length ≤ cs.length ∧ ls'.length ≤ ls.length := by
  unfold passW ifW noW at h
  cases g : (wchB tm cs ls && inB b 0 100000) with
  | false => rw [g] at h; simp only [cond_false, Prod.mk.injEq] at h; obtain ⟨_, rfl, rfl, _⟩ := h; simp
  | true =>
    rw [g] at h
    cases g2 : wchB (tm + b) cs ls with
    | false => rw [g2] at h; simp only [cond_true, cond_false, Prod.mk.injEq] at h; obtain ⟨_, rfl, rfl, _⟩ := h; simp
    | true => rw [g2] at h; simp only [cond_true, Prod.mk.injEq] at h; obtain ⟨_, rfl, rfl, _⟩ := h; simp
def DrAsk (w : World) (e : Ending) (w' : World) : Prop :=
  ∃ (tm : Int) (A1 : Option Addr) (c1 : Nat) (is : List Int) (A2 : Option Addr) (c2 : Nat) (ls : List (Int × Int × Int)) (who long : Int), e = .returned (.tuple #[.agg #[.int .i64 tm, .slice A1 is.length c1, .slice A2 ls.length c2], .int .i64 who, .int .i64 long]) ∧ OwnCk w' w.heap.size w'.heap.size A1 c1 is ∧ OwnLe w' w.heap.size w'.heap.size A2 c2 ls ∧ is.length ≤ 5 ∧ ls.length ≤ 41 ∧ Below w.heap.size w w'
def DrWhen (w : World) (e : Ending) (w' : World) : Prop :=
  ∃ (tm : Int) (A1 : Option Addr) (c1 : Nat) (is : List Int) (A2 : Option Addr) (c2 : Nat) (ls : List (Int × Int × Int)) (who : Int), e = .returned (.tuple #[.agg #[.int .i64 tm, .slice A1 is.length c1, .slice A2 ls.length c2], .int .i64 who]) ∧ OwnCk w' w.heap.size w'.heap.size A1 c1 is ∧ OwnLe w' w.heap.size w'.heap.size A2 c2 ls ∧ is.length ≤ 5 ∧ ls.length ≤ 41 ∧ Below w.heap.size w w'

set_option maxRecDepth 100000 in
set_option maxHeartbeats 16000000 in
theorem fnGiven_walk (w : World) (A : Option Addr) (n c : Nat) (HDR0 : n ≤ 65536 → Calls Try.prog 19 #[.slice A n c] w (DrAsk w)) :
    Calls Try.prog 5 #[.slice A n c] w fun e w' => e = .returned (.bool true) ∧ Below w.heap.size w w' := by
  by_cases h : n ≤ 65536
  · have HDR := Lib.hid (HDR0 h)
    clear HDR0
    have HBG := Lib.hid (Fv.vBig_no A n c w h)
    go_enter Try.func5, Try.ntmps5
    go_wp2_with fail
    refine HBG.out.mono ?_
    rintro e w0 ⟨rfl, rfl⟩
    go_wp2_with fail
    refine HDR.out.mono ?_
    rintro e w1 ⟨tm, A1, c1, is, A2, c2, ls, who, long, rfl, hoi, hol, hli, hll, hb1⟩
    have HB1 := Lib.hid hb1
    have hz1 := hb1.size
    obtain ⟨n1, hn1⟩ : ∃ n1, n1 = is.length := ⟨_, rfl⟩
    obtain ⟨n2, hn2⟩ : ∃ n2, n2 = ls.length := ⟨_, rfl⟩
    rw [← hn1] at hli ⊢
    rw [← hn2] at hll ⊢
    have HN1 := Lib.hid hn1.symm
    have HN2 := Lib.hid hn2.symm
    clear hb1 hn1 hn2 HBG HDR
    have RI_1 := Lib.hid hoi
    clear hoi
    have RL_1 := Lib.hid hol
    clear hol
    have hb2 := below1 w1 (.cells #[.int .i64 tm, .slice A1 n1 c1, .slice A2 n2 c2] 30)
    have hk2 := heap_alloc_new w1 (.cells #[.int .i64 tm, .slice A1 n1 c1, .slice A2 n2 c2] 30)
    obtain ⟨w2, hw2⟩ : ∃ x, x = w1.alloc (.cells #[.int .i64 tm, .slice A1 n1 c1, .slice A2 n2 c2] 30) := ⟨_, rfl⟩
    rw [← hw2] at hb2 hk2
    have HB2 := Lib.hid (HB1.out.trans (hb2.mono HB1.out.size))
    have hz2 := hb2.size
    have RI_2 := Lib.hid (RI_1.out.since hb2 (by omega))
    have RL_2 := Lib.hid (RL_1.out.since hb2 (by omega))
    clear hb2
    have b3_2 := Lib.hid hk2
    clear hk2
    have HIA := Lib.hid (fun W (hi : OwnCk W w.heap.size w1.heap.size A1 c1 is) (hl : OwnLe W w.heap.size w1.heap.size A2 c2 ls) (hh : w1.heap.size ≤ W.heap.size) => implAskLease_any tm A1 A2 n1 c1 n2 c2 is ls who long W.heap.size W HN1.out HN2.out (hi.cks.mono hh) (hl.les.mono hh) (Nat.le_refl _))
    have HSA := Lib.hid (fun W (hi : OwnCk W w.heap.size w1.heap.size A1 c1 is) (hl : OwnLe W w.heap.size w1.heap.size A2 c2 ls) (hh : w1.heap.size ≤ W.heap.size) => specAskLease_any tm A1 A2 n1 c1 n2 c2 is ls who long W.heap.size W HN1.out HN2.out (hi.cks.mono hh) (hl.les.mono hh) (Nat.le_refl _))
    obtain ⟨⟨at', ai, al, ok⟩, hr⟩ : ∃ r, r = askW tm is ls who long := ⟨_, rfl⟩
    have hlen := ask_len hr.symm
    rw [HN1.out, HN2.out] at hlen
    simp only [← hr, WAPost_un] at HIA HSA
    obtain ⟨m1, hm1⟩ : ∃ m1, m1 = ai.length := ⟨_, rfl⟩
    obtain ⟨m2, hm2⟩ : ∃ m2, m2 = al.length := ⟨_, rfl⟩
    simp only [← hm1, ← hm2] at HIA HSA hlen
    have HM1 := Lib.hid hm1.symm
    have HM2 := Lib.hid hm2.symm
    have HASK := Lib.hid hr.symm
    obtain ⟨hlen1, hlen2⟩ := hlen
    clear hr hm1 hm2
    have y0 : w2.cell? ⟨w1.heap.size, 0, none⟩ = some (.int .i64 tm) := cell_blk (i := 0) b3_2.out rfl
    have y1 : w2.cell? ⟨w1.heap.size, 1, none⟩ = some (.slice A1 n1 c1) := cell_blk (i := 1) b3_2.out rfl
    have y2 : w2.cell? ⟨w1.heap.size, 2, none⟩ = some (.slice A2 n2 c2) := cell_blk (i := 2) b3_2.out rfl
    have yl := lt_blk b3_2.out
    go_wp2_with fail
    rw [← hw2]
    clear hw2
    refine (HIA.out _ RI_2.out RL_2.out (by omega)).mono ?_
    rintro e w3 ⟨A3, c3, A4, c4, rfl, hoi3, hol3, hb3⟩
    clear y0 y1 y2 yl
    have HB3 := Lib.hid (HB2.out.trans (hb3.mono HB2.out.size))
    have hz3 := hb3.size
    have RI_3 := Lib.hid (RI_2.out.since hb3 (by omega))
    have RL_3 := Lib.hid (RL_2.out.since hb3 (by omega))
    have b3_3 := Lib.hid ((hb3.block w1.heap.size (lt_blk b3_2.out)).trans b3_2.out)
    clear hb3
    have XI_3 := Lib.hid hoi3
    clear hoi3
    have XL_3 := Lib.hid hol3
    clear hol3
    have hb4 := below1 w3 (.cells #[.int .i64 at', .slice A3 m1 c3, .slice A4 m2 c4] 30)
    have hk4 := heap_alloc_new w3 (.cells #[.int .i64 at', .slice A3 m1 c3, .slice A4 m2 c4] 30)
    obtain ⟨w4, hw4⟩ : ∃ x, x = w3.alloc (.cells #[.int .i64 at', .slice A3 m1 c3, .slice A4 m2 c4] 30) := ⟨_, rfl⟩
    rw [← hw4] at hb4 hk4
    have HB4 := Lib.hid (HB3.out.trans (hb4.mono HB3.out.size))
    have hz4 := hb4.size
    have RI_4 := Lib.hid (RI_3.out.since hb4 (by omega))
    have RL_4 := Lib.hid (RL_3.out.since hb4 (by omega))
    have XI_4 := Lib.hid (XI_3.out.since hb4 (by omega))
    have XL_4 := Lib.hid (XL_3.out.since hb4 (by omega))
    have b3_4 := Lib.hid ((hb4.block w1.heap.size (lt_blk b3_3.out)).trans b3_3.out)
    clear hb4
    have b6_4 := Lib.hid hk4
    clear hk4
    have y3 : w3.cell? ⟨w1.heap.size, 0, none⟩ = some (.int .i64 tm) := cell_blk (i := 0) b3_3.out rfl
    have y4 : w3.cell? ⟨w1.heap.size, 1, none⟩ = some (.slice A1 n1 c1) := cell_blk (i := 1) b3_3.out rfl
    have y5 : w3.cell? ⟨w1.heap.size, 2, none⟩ = some (.slice A2 n2 c2) := cell_blk (i := 2) b3_3.out rfl
    have y6 := lt_blk b3_3.out
    have y0 : w4.cell? ⟨w1.heap.size, 0, none⟩ = some (.int .i64 tm) := cell_blk (i := 0) b3_4.out rfl
    have y1 : w4.cell? ⟨w1.heap.size, 1, none⟩ = some (.slice A1 n1 c1) := cell_blk (i := 1) b3_4.out rfl
    have y2 : w4.cell? ⟨w1.heap.size, 2, none⟩ = some (.slice A2 n2 c2) := cell_blk (i := 2) b3_4.out rfl
    have yl := lt_blk b3_4.out
    go_wp2_with fail
    rw [← hw4]
    clear hw4
    refine (HSA.out _ RI_4.out RL_4.out (by omega)).mono ?_
    rintro e w5 ⟨A5, c5, A6, c6, rfl, hoi5, hol5, hb5⟩
    clear y0 y1 y2 yl
    have HB5 := Lib.hid (HB4.out.trans (hb5.mono HB4.out.size))
    have hz5 := hb5.size
    have RI_5 := Lib.hid (RI_4.out.since hb5 (by omega))
    have RL_5 := Lib.hid (RL_4.out.since hb5 (by omega))
    have XI_5 := Lib.hid (XI_4.out.since hb5 (by omega))
    have XL_5 := Lib.hid (XL_4.out.since hb5 (by omega))
    have b3_5 := Lib.hid ((hb5.block w1.heap.size (lt_blk b3_4.out)).trans b3_4.out)
    have b6_5 := Lib.hid ((hb5.block w3.heap.size (lt_blk b6_4.out)).trans b6_4.out)
    clear hb5
    have WI_5 := Lib.hid hoi5
    clear hoi5
    have WL_5 := Lib.hid hol5
    clear hol5
    have hb6 := below1 w5 (.cells #[.int .i64 at', .slice A5 m1 c5, .slice A6 m2 c6] 30)
    have hk6 := heap_alloc_new w5 (.cells #[.int .i64 at', .slice A5 m1 c5, .slice A6 m2 c6] 30)
    obtain ⟨w6, hw6⟩ : ∃ x, x = w5.alloc (.cells #[.int .i64 at', .slice A5 m1 c5, .slice A6 m2 c6] 30) := ⟨_, rfl⟩
    rw [← hw6] at hb6 hk6
    have HB6 := Lib.hid (HB5.out.trans (hb6.mono HB5.out.size))
    have hz6 := hb6.size
    have XI_6 := Lib.hid (XI_5.out.since hb6 (by omega))
    have XL_6 := Lib.hid (XL_5.out.since hb6 (by omega))
    have WI_6 := Lib.hid (WI_5.out.since hb6 (by omega))
    have WL_6 := Lib.hid (WL_5.out.since hb6 (by omega))
    have b6_6 := Lib.hid ((hb6.block w3.heap.size (lt_blk b6_5.out)).trans b6_5.out)
    clear hb6
    have b8_6 := Lib.hid hk6
    clear hk6
    clear HIA HSA
    cases ok with
    | false =>
      obtain ⟨e1, e2, e3⟩ := ask_no HASK.out
      subst e1
      subst e2
      subst e3
      have hm10 : m1 = 0 := HM1.out.symm
      have hm20 : m2 = 0 := HM2.out.symm
      subst hm10
      subst hm20
      have HVW := Lib.hid (vWatch_same 0 A3 A4 A5 A6 0 c3 0 c4 c5 c6 [] [] w6.heap.size w6 HM1.out HM2.out (XI_6.out.cks.mono (by omega)) (XL_6.out.les.mono (by omega)) (WI_6.out.cks.mono (by omega)) (WL_6.out.les.mono (by omega)) (Nat.le_refl _) (by omega) (by omega))
      have y3 : w5.cell? ⟨w3.heap.size, 0, none⟩ = some (.int .i64 0) := cell_blk (i := 0) b6_5.out rfl
      have y4 : w5.cell? ⟨w3.heap.size, 1, none⟩ = some (.slice A3 0 c3) := cell_blk (i := 1) b6_5.out rfl
      have y5 : w5.cell? ⟨w3.heap.size, 2, none⟩ = some (.slice A4 0 c4) := cell_blk (i := 2) b6_5.out rfl
      have y6 := lt_blk b6_5.out
      have y0 : w6.cell? ⟨w3.heap.size, 0, none⟩ = some (.int .i64 0) := cell_blk (i := 0) b6_6.out rfl
      have y1 : w6.cell? ⟨w3.heap.size, 1, none⟩ = some (.slice A3 0 c3) := cell_blk (i := 1) b6_6.out rfl
      have y2 : w6.cell? ⟨w3.heap.size, 2, none⟩ = some (.slice A4 0 c4) := cell_blk (i := 2) b6_6.out rfl
      have yl := lt_blk b6_6.out
      have z0 : w6.cell? ⟨w5.heap.size, 0, none⟩ = some (.int .i64 0) := cell_blk (i := 0) b8_6.out rfl
      have z1 : w6.cell? ⟨w5.heap.size, 1, none⟩ = some (.slice A5 0 c5) := cell_blk (i := 1) b8_6.out rfl
      have z2 : w6.cell? ⟨w5.heap.size, 2, none⟩ = some (.slice A6 0 c6) := cell_blk (i := 2) b8_6.out rfl
      have zl := lt_blk b8_6.out
      go_wp2_with fail
      rw [← hw6]
      clear hw6
      refine (HVW.out).mono ?_
      rintro e w7 ⟨rfl, hb7⟩
      clear y0 y1 y2 yl
      clear z0 z1 z2 zl
      have HB7 := Lib.hid (HB6.out.trans (hb7.mono HB6.out.size))
      have hz7 := hb7.size
      have XI_7 := Lib.hid (XI_6.out.since hb7 (by omega))
      have XL_7 := Lib.hid (XL_6.out.since hb7 (by omega))
      have WI_7 := Lib.hid (WI_6.out.since hb7 (by omega))
      have WL_7 := Lib.hid (WL_6.out.since hb7 (by omega))
      have b6_7 := Lib.hid ((hb7.block w3.heap.size (lt_blk b6_6.out)).trans b6_6.out)
      have b8_7 := Lib.hid ((hb7.block w5.heap.size (lt_blk b8_6.out)).trans b8_6.out)
      clear hb7
      have HVZ := Lib.hid (vWatch_same 0 A3 A4 none none 0 c3 0 c4 0 0 [] [] w7.heap.size w7 rfl rfl (XI_7.out.cks.mono (by omega)) (XL_7.out.les.mono (by omega)) (.inl rfl) (.inl rfl) (Nat.le_refl _) (by omega) (by omega))
      have y0 : w7.cell? ⟨w3.heap.size, 0, none⟩ = some (.int .i64 0) := cell_blk (i := 0) b6_7.out rfl
      have y1 : w7.cell? ⟨w3.heap.size, 1, none⟩ = some (.slice A3 0 c3) := cell_blk (i := 1) b6_7.out rfl
      have y2 : w7.cell? ⟨w3.heap.size, 2, none⟩ = some (.slice A4 0 c4) := cell_blk (i := 2) b6_7.out rfl
      have yl := lt_blk b6_7.out
      go_wp2_with fail
      refine (HVZ.out).mono ?_
      rintro e w8 ⟨rfl, hb8⟩
      clear y0 y1 y2 yl
      have HB8 := Lib.hid (HB7.out.trans (hb8.mono HB7.out.size))
      have hz8 := hb8.size
      have XI_8 := Lib.hid (XI_7.out.since hb8 (by omega))
      have XL_8 := Lib.hid (XL_7.out.since hb8 (by omega))
      have WI_8 := Lib.hid (WI_7.out.since hb8 (by omega))
      have WL_8 := Lib.hid (WL_7.out.since hb8 (by omega))
      have b6_8 := Lib.hid ((hb8.block w3.heap.size (lt_blk b6_7.out)).trans b6_7.out)
      have b8_8 := Lib.hid ((hb8.block w5.heap.size (lt_blk b8_7.out)).trans b8_7.out)
      clear hb8
      go_wp2
      go_ret
      exact ⟨rfl, HB8.out⟩
    | true =>
      have HVW := Lib.hid (vWatch_same at' A3 A4 A5 A6 m1 c3 m2 c4 c5 c6 ai al w6.heap.size w6 HM1.out HM2.out (XI_6.out.cks.mono (by omega)) (XL_6.out.les.mono (by omega)) (WI_6.out.cks.mono (by omega)) (WL_6.out.les.mono (by omega)) (Nat.le_refl _) (by omega) (by omega))
      have y3 : w5.cell? ⟨w3.heap.size, 0, none⟩ = some (.int .i64 at') := cell_blk (i := 0) b6_5.out rfl
      have y4 : w5.cell? ⟨w3.heap.size, 1, none⟩ = some (.slice A3 m1 c3) := cell_blk (i := 1) b6_5.out rfl
      have y5 : w5.cell? ⟨w3.heap.size, 2, none⟩ = some (.slice A4 m2 c4) := cell_blk (i := 2) b6_5.out rfl
      have y6 := lt_blk b6_5.out
      have y0 : w6.cell? ⟨w3.heap.size, 0, none⟩ = some (.int .i64 at') := cell_blk (i := 0) b6_6.out rfl
      have y1 : w6.cell? ⟨w3.heap.size, 1, none⟩ = some (.slice A3 m1 c3) := cell_blk (i := 1) b6_6.out rfl
      have y2 : w6.cell? ⟨w3.heap.size, 2, none⟩ = some (.slice A4 m2 c4) := cell_blk (i := 2) b6_6.out rfl
      have yl := lt_blk b6_6.out
      have z0 : w6.cell? ⟨w5.heap.size, 0, none⟩ = some (.int .i64 at') := cell_blk (i := 0) b8_6.out rfl
      have z1 : w6.cell? ⟨w5.heap.size, 1, none⟩ = some (.slice A5 m1 c5) := cell_blk (i := 1) b8_6.out rfl
      have z2 : w6.cell? ⟨w5.heap.size, 2, none⟩ = some (.slice A6 m2 c6) := cell_blk (i := 2) b8_6.out rfl
      have zl := lt_blk b8_6.out
      go_wp2_with fail
      rw [← hw6]
      clear hw6
      refine (HVW.out).mono ?_
      rintro e w7 ⟨rfl, hb7⟩
      clear y0 y1 y2 yl
      clear z0 z1 z2 zl
      have HB7 := Lib.hid (HB6.out.trans (hb7.mono HB6.out.size))
      have hz7 := hb7.size
      have XI_7 := Lib.hid (XI_6.out.since hb7 (by omega))
      have XL_7 := Lib.hid (XL_6.out.since hb7 (by omega))
      have WI_7 := Lib.hid (WI_6.out.since hb7 (by omega))
      have WL_7 := Lib.hid (WL_6.out.since hb7 (by omega))
      have b6_7 := Lib.hid ((hb7.block w3.heap.size (lt_blk b6_6.out)).trans b6_6.out)
      have b8_7 := Lib.hid ((hb7.block w5.heap.size (lt_blk b8_6.out)).trans b8_6.out)
      clear hb7
      have HHL := Lib.hid (fun W (hi : OwnCk W w2.heap.size w3.heap.size A3 c3 ai) (hl : OwnLe W w2.heap.size w3.heap.size A4 c4 al) (hh : w3.heap.size ≤ W.heap.size) => implHoldsLease_any at' A3 A4 m1 c3 m2 c4 ai al who W.heap.size W HM1.out HM2.out (hi.cks.mono hh) (hl.les.mono hh) (Nat.le_refl _) (by omega))
      rw [given_holds HASK.out] at HHL
      have HPT := Lib.hid (fun W (hi : OwnCk W w2.heap.size w3.heap.size A3 c3 ai) (hl : OwnLe W w2.heap.size w3.heap.size A4 c4 al) (hh : w3.heap.size ≤ W.heap.size) => implPassTime_any at' A3 A4 m1 c3 m2 c4 ai al long W.heap.size W HM1.out HM2.out (hi.cks.mono hh) (hl.les.mono hh) (Nat.le_refl _))
      have HGB := Lib.hid (fun W (hi : OwnCk W w2.heap.size w3.heap.size A3 c3 ai) (hl : OwnLe W w2.heap.size w3.heap.size A4 c4 al) (hh : w3.heap.size ≤ W.heap.size) => implGiveBack_any at' A3 A4 m1 c3 m2 c4 ai al who W.heap.size W HM1.out HM2.out (hi.cks.mono hh) (hl.les.mono hh) (Nat.le_refl _))
      rw [(given_back HASK.out).1] at HGB
      have HNO := Lib.hid (given_back HASK.out).2
      obtain ⟨zl, hzl⟩ : ∃ zl, zl = al.map (backL who (lowW at' (offW ai who))) := ⟨_, rfl⟩
      rw [← hzl] at HGB HNO
      have HZM : Hid (zl.length = m2) := Lib.hid (by rw [hzl, List.length_map]; exact HM2.out)
      obtain ⟨⟨pt, pi, pl, there⟩, hp⟩ : ∃ r, r = passW at' ai al long := ⟨_, rfl⟩
      have hplen := pass_len hp.symm
      rw [HM1.out, HM2.out] at hplen
      simp only [← hp, WAPost_un] at HPT
      simp only [WAPost_un, HM1.out, HZM.out] at HGB
      obtain ⟨p1, hp1⟩ : ∃ p1, p1 = pi.length := ⟨_, rfl⟩
      obtain ⟨p2, hp2⟩ : ∃ p2, p2 = pl.length := ⟨_, rfl⟩
      simp only [← hp1, ← hp2] at HPT hplen
      have HP1 := Lib.hid hp1.symm
      have HP2 := Lib.hid hp2.symm
      obtain ⟨hplen1, hplen2⟩ := hplen
      have HST : Hid (there = true → (holdsW pt pi pl who).1 = true) := Lib.hid (fun e => by subst e; exact given_still HASK.out hp.symm)
      clear hp hp1 hp2 hzl
      have y0 : w7.cell? ⟨w3.heap.size, 0, none⟩ = some (.int .i64 at') := cell_blk (i := 0) b6_7.out rfl
      have y1 : w7.cell? ⟨w3.heap.size, 1, none⟩ = some (.slice A3 m1 c3) := cell_blk (i := 1) b6_7.out rfl
      have y2 : w7.cell? ⟨w3.heap.size, 2, none⟩ = some (.slice A4 m2 c4) := cell_blk (i := 2) b6_7.out rfl
      have yl := lt_blk b6_7.out
      go_wp2_with fail
      refine (HHL.out _ XI_7.out XL_7.out (by omega)).mono ?_
      rintro e w8 ⟨rfl, hb8⟩
      clear y0 y1 y2 yl
      have HB8 := Lib.hid (HB7.out.trans (hb8.mono HB7.out.size))
      have hz8 := hb8.size
      have XI_8 := Lib.hid (XI_7.out.since hb8 (by omega))
      have XL_8 := Lib.hid (XL_7.out.since hb8 (by omega))
      have b6_8 := Lib.hid ((hb8.block w3.heap.size (lt_blk b6_7.out)).trans b6_7.out)
      clear hb8
      have y0 : w8.cell? ⟨w3.heap.size, 0, none⟩ = some (.int .i64 at') := cell_blk (i := 0) b6_8.out rfl
      have y1 : w8.cell? ⟨w3.heap.size, 1, none⟩ = some (.slice A3 m1 c3) := cell_blk (i := 1) b6_8.out rfl
      have y2 : w8.cell? ⟨w3.heap.size, 2, none⟩ = some (.slice A4 m2 c4) := cell_blk (i := 2) b6_8.out rfl
      have yl := lt_blk b6_8.out
      go_wp2_with fail
      refine (HPT.out _ XI_8.out XL_8.out (by omega)).mono ?_
      rintro e w9 ⟨A7, c7, A8, c8, rfl, hoi9, hol9, hb9⟩
      clear y0 y1 y2 yl
      have HB9 := Lib.hid (HB8.out.trans (hb9.mono HB8.out.size))
      have hz9 := hb9.size
      have XI_9 := Lib.hid (XI_8.out.since hb9 (by omega))
      have XL_9 := Lib.hid (XL_8.out.since hb9 (by omega))
      have b6_9 := Lib.hid ((hb9.block w3.heap.size (lt_blk b6_8.out)).trans b6_8.out)
      clear hb9
      have PI_9 := Lib.hid hoi9
      clear hoi9
      have PL_9 := Lib.hid hol9
      clear hol9
      have hb10 := below1 w9 (.cells #[.int .i64 pt, .slice A7 p1 c7, .slice A8 p2 c8] 30)
      have hk10 := heap_alloc_new w9 (.cells #[.int .i64 pt, .slice A7 p1 c7, .slice A8 p2 c8] 30)
      obtain ⟨w10, hw10⟩ : ∃ x, x = w9.alloc (.cells #[.int .i64 pt, .slice A7 p1 c7, .slice A8 p2 c8] 30) := ⟨_, rfl⟩
      rw [← hw10] at hb10 hk10
      have HB10 := Lib.hid (HB9.out.trans (hb10.mono HB9.out.size))
      have hz10 := hb10.size
      have XI_10 := Lib.hid (XI_9.out.since hb10 (by omega))
      have XL_10 := Lib.hid (XL_9.out.since hb10 (by omega))
      have PI_10 := Lib.hid (PI_9.out.since hb10 (by omega))
      have PL_10 := Lib.hid (PL_9.out.since hb10 (by omega))
      have b6_10 := Lib.hid ((hb10.block w3.heap.size (lt_blk b6_9.out)).trans b6_9.out)
      clear hb10
      have b12_10 := Lib.hid hk10
      clear hk10
      have HHP := Lib.hid (fun W (hi : OwnCk W w8.heap.size w9.heap.size A7 c7 pi) (hl : OwnLe W w8.heap.size w9.heap.size A8 c8 pl) (hh : w9.heap.size ≤ W.heap.size) => implHoldsLease_any pt A7 A8 p1 c7 p2 c8 pi pl who W.heap.size W HP1.out HP2.out (hi.cks.mono hh) (hl.les.mono hh) (Nat.le_refl _) (by omega))
      obtain ⟨⟨still, u1⟩, hsu⟩ : ∃ r, r = holdsW pt pi pl who := ⟨_, rfl⟩
      rw [← hsu] at HHP HST
      simp only at HHP
      clear hsu
      have y0 : w10.cell? ⟨w9.heap.size, 0, none⟩ = some (.int .i64 pt) := cell_blk (i := 0) b12_10.out rfl
      have y1 : w10.cell? ⟨w9.heap.size, 1, none⟩ = some (.slice A7 p1 c7) := cell_blk (i := 1) b12_10.out rfl
      have y2 : w10.cell? ⟨w9.heap.size, 2, none⟩ = some (.slice A8 p2 c8) := cell_blk (i := 2) b12_10.out rfl
      have yl := lt_blk b12_10.out
      go_wp2_with fail
      rw [← hw10]
      clear hw10
      refine (HHP.out _ PI_10.out PL_10.out (by omega)).mono ?_
      rintro e w11 ⟨rfl, hb11⟩
      clear y0 y1 y2 yl
      have HB11 := Lib.hid (HB10.out.trans (hb11.mono HB10.out.size))
      have hz11 := hb11.size
      have XI_11 := Lib.hid (XI_10.out.since hb11 (by omega))
      have XL_11 := Lib.hid (XL_10.out.since hb11 (by omega))
      have PI_11 := Lib.hid (PI_10.out.since hb11 (by omega))
      have PL_11 := Lib.hid (PL_10.out.since hb11 (by omega))
      have b6_11 := Lib.hid ((hb11.block w3.heap.size (lt_blk b6_10.out)).trans b6_10.out)
      have b12_11 := Lib.hid ((hb11.block w9.heap.size (lt_blk b12_10.out)).trans b12_10.out)
      clear hb11
      have y0 : w11.cell? ⟨w3.heap.size, 0, none⟩ = some (.int .i64 at') := cell_blk (i := 0) b6_11.out rfl
      have y1 : w11.cell? ⟨w3.heap.size, 1, none⟩ = some (.slice A3 m1 c3) := cell_blk (i := 1) b6_11.out rfl
      have y2 : w11.cell? ⟨w3.heap.size, 2, none⟩ = some (.slice A4 m2 c4) := cell_blk (i := 2) b6_11.out rfl
      have yl := lt_blk b6_11.out
      go_wp2_with fail
      refine (HGB.out _ XI_11.out XL_11.out (by omega)).mono ?_
      rintro e w12 ⟨A9, c9, A10, c10, rfl, hoi12, hol12, hb12⟩
      clear y0 y1 y2 yl
      have HB12 := Lib.hid (HB11.out.trans (hb12.mono HB11.out.size))
      have hz12 := hb12.size
      have XI_12 := Lib.hid (XI_11.out.since hb12 (by omega))
      have XL_12 := Lib.hid (XL_11.out.since hb12 (by omega))
      have b6_12 := Lib.hid ((hb12.block w3.heap.size (lt_blk b6_11.out)).trans b6_11.out)
      clear hb12
      have ZI_12 := Lib.hid hoi12
      clear hoi12
      have ZL_12 := Lib.hid hol12
      clear hol12
      have hb13 := below1 w12 (.cells #[.int .i64 at', .slice A9 m1 c9, .slice A10 m2 c10] 30)
      have hk13 := heap_alloc_new w12 (.cells #[.int .i64 at', .slice A9 m1 c9, .slice A10 m2 c10] 30)
      obtain ⟨w13, hw13⟩ : ∃ x, x = w12.alloc (.cells #[.int .i64 at', .slice A9 m1 c9, .slice A10 m2 c10] 30) := ⟨_, rfl⟩
      rw [← hw13] at hb13 hk13
      have HB13 := Lib.hid (HB12.out.trans (hb13.mono HB12.out.size))
      have hz13 := hb13.size
      have ZI_13 := Lib.hid (ZI_12.out.since hb13 (by omega))
      have ZL_13 := Lib.hid (ZL_12.out.since hb13 (by omega))
      clear hb13
      have b16_13 := Lib.hid hk13
      clear hk13
      have HHZ := Lib.hid (fun W (hi : OwnCk W w11.heap.size w12.heap.size A9 c9 ai) (hl : OwnLe W w11.heap.size w12.heap.size A10 c10 zl) (hh : w12.heap.size ≤ W.heap.size) => implHoldsLease_any at' A9 A10 m1 c9 m2 c10 ai zl who W.heap.size W HM1.out HZM.out (hi.cks.mono hh) (hl.les.mono hh) (Nat.le_refl _) (by omega))
      obtain ⟨⟨none', u2⟩, hnu⟩ : ∃ r, r = holdsW at' ai zl who := ⟨_, rfl⟩
      rw [← hnu] at HHZ HNO
      simp only at HHZ
      have hn0 : none' = false := HNO.out
      subst hn0
      clear hnu
      have y0 : w13.cell? ⟨w12.heap.size, 0, none⟩ = some (.int .i64 at') := cell_blk (i := 0) b16_13.out rfl
      have y1 : w13.cell? ⟨w12.heap.size, 1, none⟩ = some (.slice A9 m1 c9) := cell_blk (i := 1) b16_13.out rfl
      have y2 : w13.cell? ⟨w12.heap.size, 2, none⟩ = some (.slice A10 m2 c10) := cell_blk (i := 2) b16_13.out rfl
      have yl := lt_blk b16_13.out
      go_wp2_with fail
      rw [← hw13]
      clear hw13
      refine (HHZ.out _ ZI_13.out ZL_13.out (by omega)).mono ?_
      rintro e w14 ⟨rfl, hb14⟩
      clear y0 y1 y2 yl
      have HB14 := Lib.hid (HB13.out.trans (hb14.mono HB13.out.size))
      have hz14 := hb14.size
      have ZI_14 := Lib.hid (ZI_13.out.since hb14 (by omega))
      have ZL_14 := Lib.hid (ZL_13.out.since hb14 (by omega))
      have b16_14 := Lib.hid ((hb14.block w12.heap.size (lt_blk b16_13.out)).trans b16_13.out)
      clear hb14
      cases there with
      | false =>
        go_wp2
        go_ret
        exact ⟨rfl, HB14.out⟩
      | true =>
        have hst : still = true := HST.out rfl
        subst hst
        go_wp2
        go_ret
        exact ⟨rfl, HB14.out⟩
  · have HBG := Lib.hid (Fv.vBig_yes A n c w (by omega))
    clear HDR0
    go_enter Try.func5, Try.ntmps5
    go_wp2_with fail
    refine HBG.out.mono ?_
    rintro e w0 ⟨rfl, rfl⟩
    go_wp2
    go_ret
    exact ⟨rfl, Below.refl _ _⟩
end Go.Proofs.Ytpppgihoekfmoaa.Wt
