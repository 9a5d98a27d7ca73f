/-
  Contracts for GoodPoll of the program.
-/
import Derived.Test.YtojplmjoipjabaaPoGood2
namespace Go.Proofs.Ytojplmjoipjabaa.Po
open Go.RowKit Nt
set_option linter.unusedVariables false
set_option linter.unusedSimpArgs false

theorem pollB_impl (vs : List ((Bool × Int × Int × Bool) × List Int)) (now : Int) (is : List Int) (far : Int) (ls : List (Int × Int × Int × ByteArray)) (ws : List (Int × Int)) (n n1 n3 : Nat) (hn : vs.length = n) (hn1 : is.length = n1) (hn3 : ws.length = n3) :
    pollB vs now is far ls ws = (sizeB n && (decide (n = n1) && (netB now is far ls && (votsB n 0 vs && (wonsB n1 ws && decide (n3 ≤ 60)))))) := by
  unfold pollB
  rw [hn, hn1, hn3]
  by_cases h : n = n1
  · subst h
    rw [decide_eq_true rfl, Bool.true_and, Bool.true_and]
    cases netB now is far ls <;> cases sizeB n <;> cases votsB n 0 vs <;> cases wonsB n ws <;> cases decide (n3 ≤ 60) <;> rfl
  · rw [decide_eq_false h]
    cases netB now is far ls <;> cases sizeB n <;> cases sizeB n1 <;> rfl

set_option maxRecDepth 100000 in
set_option maxHeartbeats 4000000 in
theorem implGoodPoll_any (A A1 A2 A3 : Option Addr) (n c n1 c1 n2 c2 n3 c3 : Nat) (now far : Int) (hs : List ((Bool × Int × Int × Bool) × Option Addr × Nat × List Int)) (is : List Int) (ls : List (Int × Int × Int × ByteArray)) (ws : List (Int × Int)) (B : Nat) (w : World)
    (h : PollB w B A n hs A1 n1 is A2 n2 ls A3 n3 ws) (hB : B ≤ w.heap.size) (hs' : PollS hs is ls ws) :
    Calls Try.prog 13 #[.agg #[.slice A n c, .int .i64 now, .slice A1 n1 c1, .int .i64 far, .slice A2 n2 c2, .slice A3 n3 c3]] w fun e w' => e = .returned (.bool (pollB (hs.map vdat) now is far ls ws)) ∧ Below w.heap.size w w' := by
  have hb0 := below1 w (.cells #[.slice A n c, .int .i64 now, .slice A1 n1 c1, .int .i64 far, .slice A2 n2 c2, .slice A3 n3 c3] 38)
  have hk0 := heap_alloc_new w (.cells #[.slice A n c, .int .i64 now, .slice A1 n1 c1, .int .i64 far, .slice A2 n2 c2, .slice A3 n3 c3] 38)
  obtain ⟨hn, hn1, hn2, hn3, hv, hi, hl, hw⟩ := h
  obtain ⟨s1, s2, s3, s4⟩ := hs'
  have hnv : n ≤ 1048576 := by rw [← hn]; exact s1.1
  have hn1b : n1 ≤ 1048576 := by omega
  have HSZ := Lib.hid (fun W => isSize_any n W hnv)
  have HN := Lib.hid (fun W (hW : Below w.heap.size w W) => implGoodNet_any now far A1 A2 n1 c1 n2 c2 is ls B W hn1 hn2 (hi.below (hW.mono hB)) (hl.below (hW.mono hB)) (Nat.le_trans hB hW.size) s3)
  have HV := Lib.hid (fun W (hW : Below w.heap.size w W) => goodVoters_any A n c hs B W hn (hv.below (hW.mono hB)) (Nat.le_trans hB hW.size) s1)
  have HW := Lib.hid (fun W (hW : Below w.heap.size w W) => goodWon_any A A1 A2 A3 n c n1 c1 n2 c2 n3 c3 now far ws B W hn3 (hw.below (hW.mono hB)) (Nat.le_trans hB hW.size) (by omega))
  obtain ⟨res, hres⟩ : ∃ res, res = pollB (hs.map vdat) now is far ls ws := ⟨_, rfl⟩
  rw [← hres]
  rw [pollB_impl (hs.map vdat) now is far ls ws n n1 n3 (by simp [hn]) hn1 hn3] at hres
  have HRES := Lib.hid hres
  have HB0 := Lib.hid hb0
  have HK0 := Lib.hid hk0
  clear hres hv hi hl hw s1 s2 s3 s4 hb0 hn hn1 hn2 hn3 hk0
  have k00 := cell_of_row _ _ 0 _ 38 (0, 0) HK0.out
  have k02 := cell_of_row _ _ 2 _ 38 (0, 0) HK0.out
  have k01 := cell_of_row _ _ 1 _ 38 (0, 0) HK0.out
  have k03 := cell_of_row _ _ 3 _ 38 (0, 0) HK0.out
  have k04 := cell_of_row _ _ 4 _ 38 (0, 0) HK0.out
  cases g1 : sizeB n with
  | false =>
    rw [g1] at HSZ HRES
    have HX := Lib.hid (ret_bool (show false = res by rw [HRES.out]; rfl))
    clear g1
    go_enter Try.func13, Try.ntmps13
    go_wp2_with fail
    refine (HSZ.out _).mono ?_
    rintro e w1 ⟨rfl, rfl⟩
    go_wp2
    go_ret
    exact ⟨HX.out, HB0.out⟩
  | true =>
    rw [g1, Bool.true_and] at HRES
    rw [g1] at HSZ
    clear g1
    by_cases h1 : n = n1
    · have hi1 : (n : Int) = (n1 : Int) := by omega
      rw [decide_eq_true h1, Bool.true_and] at HRES
      subst h1
      cases g2 : netB now is far ls with
      | false =>
        rw [g2] at HN HRES
        have HX := Lib.hid (ret_bool (show false = res by rw [HRES.out]; rfl))
        clear g2
        go_enter Try.func13, Try.ntmps13
        go_wp2_with fail
        refine (HSZ.out _).mono ?_
        rintro e w1 ⟨rfl, rfl⟩
        go_wp2_with fail
        refine (HN.out _ HB0.out).mono ?_
        rintro e w2 ⟨rfl, ha2⟩
        have HB2 := Lib.hid (HB0.out.trans (ha2.mono HB0.out.size))
        clear ha2
        go_wp2
        go_ret
        exact ⟨HX.out, HB2.out⟩
      | true =>
        rw [g2, Bool.true_and] at HRES
        rw [g2] at HN
        clear g2
        cases g3 : votsB n 0 (hs.map vdat) with
        | false =>
          rw [g3] at HV HRES
          have HX := Lib.hid (ret_bool (show false = res by rw [HRES.out]; rfl))
          clear g3
          go_enter Try.func13, Try.ntmps13
          go_wp2_with fail
          refine (HSZ.out _).mono ?_
          rintro e w1 ⟨rfl, rfl⟩
          go_wp2_with fail
          refine (HN.out _ HB0.out).mono ?_
          rintro e w2 ⟨rfl, ha2⟩
          have HB2 := Lib.hid (HB0.out.trans (ha2.mono HB0.out.size))
          have hk2 := (ha2.block w.heap.size (lt_blk HK0.out)).trans HK0.out
          have k20 := cell_of_row _ _ 0 _ 38 (0, 0) hk2
          clear ha2 hk2
          go_wp2_with fail
          refine (HV.out _ HB2.out).mono ?_
          rintro e w3 ⟨rfl, ha3⟩
          have HB3 := Lib.hid (HB2.out.trans (ha3.mono HB2.out.size))
          clear ha3
          go_wp2
          go_ret
          exact ⟨HX.out, HB3.out⟩
        | true =>
          rw [g3, Bool.true_and] at HRES
          rw [g3] at HV
          clear g3
          rw [← HRES.out] at HW
          go_enter Try.func13, Try.ntmps13
          go_wp2_with fail
          refine (HSZ.out _).mono ?_
          rintro e w1 ⟨rfl, rfl⟩
          go_wp2_with fail
          refine (HN.out _ HB0.out).mono ?_
          rintro e w2 ⟨rfl, ha2⟩
          have HB2 := Lib.hid (HB0.out.trans (ha2.mono HB0.out.size))
          have hk2 := (ha2.block w.heap.size (lt_blk HK0.out)).trans HK0.out
          have k20 := cell_of_row _ _ 0 _ 38 (0, 0) hk2
          have HK2 := Lib.hid hk2
          clear ha2 hk2
          go_wp2_with fail
          refine (HV.out _ HB2.out).mono ?_
          rintro e w3 ⟨rfl, ha3⟩
          have HB3 := Lib.hid (HB2.out.trans (ha3.mono HB2.out.size))
          have hk3 := (ha3.block w.heap.size (lt_blk HK2.out)).trans HK2.out
          have k30 := cell_of_row _ _ 0 _ 38 (0, 0) hk3
          have k31 := cell_of_row _ _ 1 _ 38 (0, 0) hk3
          have k32 := cell_of_row _ _ 2 _ 38 (0, 0) hk3
          have k33 := cell_of_row _ _ 3 _ 38 (0, 0) hk3
          have k34 := cell_of_row _ _ 4 _ 38 (0, 0) hk3
          have k35 := cell_of_row _ _ 5 _ 38 (0, 0) hk3
          clear ha3 hk3 k20
          go_wp2_with fail
          refine (HW.out _ HB3.out).mono ?_
          rintro e w4 ⟨rfl, ha4⟩
          have HB4 := Lib.hid (HB3.out.trans (ha4.mono HB3.out.size))
          clear ha4
          go_wp2
          go_ret
          exact ⟨rfl, HB4.out⟩
    · have hi1 : ¬ (n : Int) = (n1 : Int) := by omega
      rw [decide_eq_false h1] at HRES
      have HX := Lib.hid (ret_bool (show false = res by rw [HRES.out]; rfl))
      clear h1
      go_enter Try.func13, Try.ntmps13
      go_wp2_with fail
      refine (HSZ.out _).mono ?_
      rintro e w1 ⟨rfl, rfl⟩
      go_wp2
      go_ret
      exact ⟨HX.out, HB0.out⟩
end Go.Proofs.Ytojplmjoipjabaa.Po
