/-
  Contracts for the check of operations: goodOp, GoodOps, l5Op, l5Good.
-/
import Derived.Test.YtohkpcgekoipbaaOps
import Derived.Test.YtohkpcgekoipbaaCont
import Derived.Test.YtohkpcgekoipbaaGoodW
namespace Go.Proofs.Ytohkpcgekoipbaa
open Go.RowKit CM
set_option linter.unusedVariables false

/-- A valid operation. -/
def opB (x : (Int × ByteArray × ByteArray × Int)) : Bool :=
  keyB x.2.1 && (if x.1 = 2 ∨ x.1 = 7 then valB x.2.2.1 && decide (x.2.2.2 = 0)
    else if x.1 = 4 ∨ x.1 = 5 then x.2.2.1.toList.isEmpty && inB x.2.2.2 (-9999) 9999
    else decide (x.1 = 1 ∨ x.1 = 3 ∨ x.1 = 6) && (x.2.2.1.toList.isEmpty && decide (x.2.2.2 = 0)))
def osB (l : List (Int × ByteArray × ByteArray × Int)) : Bool := l.all opB && decide (l.length ≤ 8)
theorem opB_key {kd bi : Int} {k v : ByteArray} (h : keyB k = false) : opB (kd, k, v, bi) = false := by simp [opB, h]
theorem valB_empty {v : ByteArray} (h : v.toList = []) : valB v = true := by
  have h2 : v = ByteArray.empty := list_inj (h.trans empty_list.symm)
  subst h2; rfl
theorem osB_mk {l : List (Int × ByteArray × ByteArray × Int)} (h : (l.take l.length).all opB = true) (hl : l.length ≤ 8) : osB l = true := by
  rw [List.take_length] at h
  simp [osB, h, hl]
theorem osB_item {l : List (Int × ByteArray × ByteArray × Int)} (k : Nat) (hk : k < l.length) (h : opB l[k] = false) : osB l = false := by
  simp only [osB, all_bad _ l k hk h, Bool.false_and]
theorem osB_long {l : List (Int × ByteArray × ByteArray × Int)} (h : 8 < l.length) : osB l = false := by
  simp only [osB, decide_eq_false (show ¬ l.length ≤ 8 by omega), Bool.and_false]

theorem usesVal_yes (kd : Int) (h : kd = 2 ∨ kd = 7) (w : World) : Calls Try.prog 55 #[.int .i64 kd] w fun e w' => e = .returned (.bool true) ∧ w = w' := by
  rcases h with rfl | rfl <;>
  · go_enter Try.func55, Try.ntmps55
    go_wp2
    go_ret
    exact ⟨rfl, rfl⟩
theorem usesVal_no (kd : Int) (h : kd ≠ 2 ∧ kd ≠ 7) (w : World) : Calls Try.prog 55 #[.int .i64 kd] w fun e w' => e = .returned (.bool false) ∧ w = w' := by
  obtain ⟨h1, h2⟩ := h
  have e1 : (kd == 2) = false := beq_eq_false_iff_ne.2 h1
  have e2 : (kd == 7) = false := beq_eq_false_iff_ne.2 h2
  go_enter Try.func55, Try.ntmps55
  go_wp2
  go_ret
  exact ⟨by first | rfl | rw [e2], rfl⟩
theorem usesBy_yes (kd : Int) (h : kd = 4 ∨ kd = 5) (w : World) : Calls Try.prog 57 #[.int .i64 kd] w fun e w' => e = .returned (.bool true) ∧ w = w' := by
  rcases h with rfl | rfl <;>
  · go_enter Try.func57, Try.ntmps57
    go_wp2
    go_ret
    exact ⟨rfl, rfl⟩
theorem usesBy_no (kd : Int) (h : kd ≠ 4 ∧ kd ≠ 5) (w : World) : Calls Try.prog 57 #[.int .i64 kd] w fun e w' => e = .returned (.bool false) ∧ w = w' := by
  obtain ⟨h1, h2⟩ := h
  have e1 : (kd == 4) = false := beq_eq_false_iff_ne.2 h1
  have e2 : (kd == 5) = false := beq_eq_false_iff_ne.2 h2
  go_enter Try.func57, Try.ntmps57
  go_wp2
  go_ret
  exact ⟨by first | rfl | rw [e2], rfl⟩
set_option maxHeartbeats 8000000 in
theorem l5Op_any (kd : Int) (k v : ByteArray) (bi : Int) (w : World) (hk : k.size ≤ 1048576) (hv : v.size ≤ 1048576) :
    Calls Try.prog 53 #[.agg #[.int .i64 kd, .string k, .string v, .int .i64 bi]] w fun e w' => e = .returned (.bool (opB (kd, k, v, bi))) ∧ Below w.heap.size w w' := by
  have HK := Lib.hid (fun W => l3Key_any k W hk)
  have HV := Lib.hid (fun W => l3Val_any v W hv)
  cases h1 : keyB k with
  | false =>
    rw [h1] at HK
    have HR := Lib.hid (ret_bool (opB_key (kd := kd) (bi := bi) (v := v) h1).symm)
    clear h1
    go_enter Try.func53, Try.ntmps53
    go_wp2_with fail
    refine (HK.out _).mono ?_
    rintro e w' ⟨rfl, n, rfl⟩
    go_wp2
    go_ret
    exact ⟨HR.out, by first | exact below_drewN (below_drewN (below1 _ _) _) _ | exact below_drewN (below1 _ _) _ | exact below1 _ _⟩
  | true =>
    rw [h1] at HK
    have HK1 := Lib.hid h1
    clear h1
    by_cases h2 : kd = 2
    · subst h2
      cases h : valB v with
      | false =>
        have HR := Lib.hid (ret_bool (show false = opB (2, k, v, bi) by simp [opB, HK1.out, h]))
        rw [h] at HV
        clear h
        go_enter Try.func53, Try.ntmps53
        go_wp2_with fail
        refine (HK.out _).mono ?_
        rintro e w' ⟨rfl, n, rfl⟩
        go_wp2_with fail
        refine (HV.out _).mono ?_
        rintro e w' ⟨rfl, m, rfl⟩
        go_wp2
        go_ret
        exact ⟨HR.out, by first | exact below_drewN (below_drewN (below1 _ _) _) _ | exact below_drewN (below1 _ _) _ | exact below1 _ _⟩
      | true =>
        have HV1 := Lib.hid h
        rw [h] at HV
        clear h
        by_cases hb : bi = 0
        · subst hb
          have HR := Lib.hid (ret_bool (show true = opB (2, k, v, 0) by simp [opB, HK1.out, HV1.out]))
          go_enter Try.func53, Try.ntmps53
          go_wp2_with fail
          refine (HK.out _).mono ?_
          rintro e w' ⟨rfl, n, rfl⟩
          go_wp2_with fail
          refine (HV.out _).mono ?_
          rintro e w' ⟨rfl, m, rfl⟩
          go_wp2
          go_ret
          exact ⟨HR.out, by first | exact below_drewN (below_drewN (below1 _ _) _) _ | exact below_drewN (below1 _ _) _ | exact below1 _ _⟩
        · have hbe : (bi == 0) = false := beq_eq_false_iff_ne.2 hb
          have HR := Lib.hid (ret_bool (show false = opB (2, k, v, bi) by simp [opB, HK1.out, HV1.out, hb]))
          go_enter Try.func53, Try.ntmps53
          go_wp2_with fail
          refine (HK.out _).mono ?_
          rintro e w' ⟨rfl, n, rfl⟩
          go_wp2_with fail
          refine (HV.out _).mono ?_
          rintro e w' ⟨rfl, m, rfl⟩
          go_wp2
          go_ret
          exact ⟨by first | exact HR.out | (rw [hbe]; exact HR.out), by first | exact below_drewN (below_drewN (below1 _ _) _) _ | exact below_drewN (below1 _ _) _ | exact below1 _ _⟩
    · skip
      by_cases h7 : kd = 7
      · subst h7
        cases h : valB v with
        | false =>
          have HR := Lib.hid (ret_bool (show false = opB (7, k, v, bi) by simp [opB, HK1.out, h]))
          rw [h] at HV
          clear h
          go_enter Try.func53, Try.ntmps53
          go_wp2_with fail
          refine (HK.out _).mono ?_
          rintro e w' ⟨rfl, n, rfl⟩
          go_wp2_with fail
          refine (HV.out _).mono ?_
          rintro e w' ⟨rfl, m, rfl⟩
          go_wp2
          go_ret
          exact ⟨HR.out, by first | exact below_drewN (below_drewN (below1 _ _) _) _ | exact below_drewN (below1 _ _) _ | exact below1 _ _⟩
        | true =>
          have HV1 := Lib.hid h
          rw [h] at HV
          clear h
          by_cases hb : bi = 0
          · subst hb
            have HR := Lib.hid (ret_bool (show true = opB (7, k, v, 0) by simp [opB, HK1.out, HV1.out]))
            go_enter Try.func53, Try.ntmps53
            go_wp2_with fail
            refine (HK.out _).mono ?_
            rintro e w' ⟨rfl, n, rfl⟩
            go_wp2_with fail
            refine (HV.out _).mono ?_
            rintro e w' ⟨rfl, m, rfl⟩
            go_wp2
            go_ret
            exact ⟨HR.out, by first | exact below_drewN (below_drewN (below1 _ _) _) _ | exact below_drewN (below1 _ _) _ | exact below1 _ _⟩
          · have hbe : (bi == 0) = false := beq_eq_false_iff_ne.2 hb
            have HR := Lib.hid (ret_bool (show false = opB (7, k, v, bi) by simp [opB, HK1.out, HV1.out, hb]))
            go_enter Try.func53, Try.ntmps53
            go_wp2_with fail
            refine (HK.out _).mono ?_
            rintro e w' ⟨rfl, n, rfl⟩
            go_wp2_with fail
            refine (HV.out _).mono ?_
            rintro e w' ⟨rfl, m, rfl⟩
            go_wp2
            go_ret
            exact ⟨by first | exact HR.out | (rw [hbe]; exact HR.out), by first | exact below_drewN (below_drewN (below1 _ _) _) _ | exact below_drewN (below1 _ _) _ | exact below1 _ _⟩
      · skip
        by_cases h4 : kd = 4
        · subst h4
          by_cases h0 : v.toList = []
          · cases hr : inB bi (-9999) 9999 with
            | true =>
              have HR := Lib.hid (ret_bool (show true = opB (4, k, v, bi) by simp [opB, HK1.out, h0, hr]))
              have HI := Lib.hid (fun W => l1In_any bi (-9999) 9999 W)
              rw [hr] at HI
              clear hr
              go_enter Try.func53, Try.ntmps53
              go_wp2_with fail
              refine (HK.out _).mono ?_
              rintro e w' ⟨rfl, n, rfl⟩
              go_wp2_with fail
              refine (HI.out _).mono ?_
              rintro e w' ⟨rfl, rfl⟩
              go_wp2
              go_ret
              exact ⟨HR.out, by first | exact below_drewN (below_drewN (below1 _ _) _) _ | exact below_drewN (below1 _ _) _ | exact below1 _ _⟩
            | false =>
              have HR := Lib.hid (ret_bool (show false = opB (4, k, v, bi) by simp [opB, HK1.out, h0, hr]))
              have HI := Lib.hid (fun W => l1In_any bi (-9999) 9999 W)
              rw [hr] at HI
              clear hr
              go_enter Try.func53, Try.ntmps53
              go_wp2_with fail
              refine (HK.out _).mono ?_
              rintro e w' ⟨rfl, n, rfl⟩
              go_wp2_with fail
              refine (HI.out _).mono ?_
              rintro e w' ⟨rfl, rfl⟩
              go_wp2
              go_ret
              exact ⟨HR.out, by first | exact below_drewN (below_drewN (below1 _ _) _) _ | exact below_drewN (below1 _ _) _ | exact below1 _ _⟩
          · have HR := Lib.hid (ret_bool (show false = opB (4, k, v, bi) by simp [opB, HK1.out, h0]))
            go_enter Try.func53, Try.ntmps53
            go_wp2_with fail
            refine (HK.out _).mono ?_
            rintro e w' ⟨rfl, n, rfl⟩
            go_wp2
            go_ret
            exact ⟨by first | exact HR.out | (rw [show (v.toList == []) = false by simpa using h0]; exact HR.out), by first | exact below_drewN (below_drewN (below1 _ _) _) _ | exact below_drewN (below1 _ _) _ | exact below1 _ _⟩
        · skip
          by_cases h5 : kd = 5
          · subst h5
            by_cases h0 : v.toList = []
            · cases hr : inB bi (-9999) 9999 with
              | true =>
                have HR := Lib.hid (ret_bool (show true = opB (5, k, v, bi) by simp [opB, HK1.out, h0, hr]))
                have HI := Lib.hid (fun W => l1In_any bi (-9999) 9999 W)
                rw [hr] at HI
                clear hr
                go_enter Try.func53, Try.ntmps53
                go_wp2_with fail
                refine (HK.out _).mono ?_
                rintro e w' ⟨rfl, n, rfl⟩
                go_wp2_with fail
                refine (HI.out _).mono ?_
                rintro e w' ⟨rfl, rfl⟩
                go_wp2
                go_ret
                exact ⟨HR.out, by first | exact below_drewN (below_drewN (below1 _ _) _) _ | exact below_drewN (below1 _ _) _ | exact below1 _ _⟩
              | false =>
                have HR := Lib.hid (ret_bool (show false = opB (5, k, v, bi) by simp [opB, HK1.out, h0, hr]))
                have HI := Lib.hid (fun W => l1In_any bi (-9999) 9999 W)
                rw [hr] at HI
                clear hr
                go_enter Try.func53, Try.ntmps53
                go_wp2_with fail
                refine (HK.out _).mono ?_
                rintro e w' ⟨rfl, n, rfl⟩
                go_wp2_with fail
                refine (HI.out _).mono ?_
                rintro e w' ⟨rfl, rfl⟩
                go_wp2
                go_ret
                exact ⟨HR.out, by first | exact below_drewN (below_drewN (below1 _ _) _) _ | exact below_drewN (below1 _ _) _ | exact below1 _ _⟩
            · have HR := Lib.hid (ret_bool (show false = opB (5, k, v, bi) by simp [opB, HK1.out, h0]))
              go_enter Try.func53, Try.ntmps53
              go_wp2_with fail
              refine (HK.out _).mono ?_
              rintro e w' ⟨rfl, n, rfl⟩
              go_wp2
              go_ret
              exact ⟨by first | exact HR.out | (rw [show (v.toList == []) = false by simpa using h0]; exact HR.out), by first | exact below_drewN (below_drewN (below1 _ _) _) _ | exact below_drewN (below1 _ _) _ | exact below1 _ _⟩
          · skip
            by_cases h1 : kd = 1
            · subst h1
              by_cases h0 : v.toList = []
              · by_cases hb : bi = 0
                · subst hb
                  have HR := Lib.hid (ret_bool (show true = opB (1, k, v, 0) by simp [opB, HK1.out, h0]))
                  go_enter Try.func53, Try.ntmps53
                  go_wp2_with fail
                  refine (HK.out _).mono ?_
                  rintro e w' ⟨rfl, n, rfl⟩
                  go_wp2
                  go_ret
                  exact ⟨HR.out, by first | exact below_drewN (below_drewN (below1 _ _) _) _ | exact below_drewN (below1 _ _) _ | exact below1 _ _⟩
                · have hbe : (bi == 0) = false := beq_eq_false_iff_ne.2 hb
                  have HR := Lib.hid (ret_bool (show false = opB (1, k, v, bi) by simp [opB, HK1.out, h0, hb]))
                  go_enter Try.func53, Try.ntmps53
                  go_wp2_with fail
                  refine (HK.out _).mono ?_
                  rintro e w' ⟨rfl, n, rfl⟩
                  go_wp2
                  go_ret
                  exact ⟨by first | exact HR.out | (rw [hbe]; exact HR.out), by first | exact below_drewN (below_drewN (below1 _ _) _) _ | exact below_drewN (below1 _ _) _ | exact below1 _ _⟩
              · have HR := Lib.hid (ret_bool (show false = opB (1, k, v, bi) by simp [opB, HK1.out, h0]))
                go_enter Try.func53, Try.ntmps53
                go_wp2_with fail
                refine (HK.out _).mono ?_
                rintro e w' ⟨rfl, n, rfl⟩
                go_wp2
                go_ret
                exact ⟨by first | exact HR.out | (rw [show (v.toList == []) = false by simpa using h0]; exact HR.out), by first | exact below_drewN (below_drewN (below1 _ _) _) _ | exact below_drewN (below1 _ _) _ | exact below1 _ _⟩
            · skip
              by_cases h3 : kd = 3
              · subst h3
                by_cases h0 : v.toList = []
                · by_cases hb : bi = 0
                  · subst hb
                    have HR := Lib.hid (ret_bool (show true = opB (3, k, v, 0) by simp [opB, HK1.out, h0]))
                    go_enter Try.func53, Try.ntmps53
                    go_wp2_with fail
                    refine (HK.out _).mono ?_
                    rintro e w' ⟨rfl, n, rfl⟩
                    go_wp2
                    go_ret
                    exact ⟨HR.out, by first | exact below_drewN (below_drewN (below1 _ _) _) _ | exact below_drewN (below1 _ _) _ | exact below1 _ _⟩
                  · have hbe : (bi == 0) = false := beq_eq_false_iff_ne.2 hb
                    have HR := Lib.hid (ret_bool (show false = opB (3, k, v, bi) by simp [opB, HK1.out, h0, hb]))
                    go_enter Try.func53, Try.ntmps53
                    go_wp2_with fail
                    refine (HK.out _).mono ?_
                    rintro e w' ⟨rfl, n, rfl⟩
                    go_wp2
                    go_ret
                    exact ⟨by first | exact HR.out | (rw [hbe]; exact HR.out), by first | exact below_drewN (below_drewN (below1 _ _) _) _ | exact below_drewN (below1 _ _) _ | exact below1 _ _⟩
                · have HR := Lib.hid (ret_bool (show false = opB (3, k, v, bi) by simp [opB, HK1.out, h0]))
                  go_enter Try.func53, Try.ntmps53
                  go_wp2_with fail
                  refine (HK.out _).mono ?_
                  rintro e w' ⟨rfl, n, rfl⟩
                  go_wp2
                  go_ret
                  exact ⟨by first | exact HR.out | (rw [show (v.toList == []) = false by simpa using h0]; exact HR.out), by first | exact below_drewN (below_drewN (below1 _ _) _) _ | exact below_drewN (below1 _ _) _ | exact below1 _ _⟩
              · skip
                by_cases h6 : kd = 6
                · subst h6
                  by_cases h0 : v.toList = []
                  · by_cases hb : bi = 0
                    · subst hb
                      have HR := Lib.hid (ret_bool (show true = opB (6, k, v, 0) by simp [opB, HK1.out, h0]))
                      go_enter Try.func53, Try.ntmps53
                      go_wp2_with fail
                      refine (HK.out _).mono ?_
                      rintro e w' ⟨rfl, n, rfl⟩
                      go_wp2
                      go_ret
                      exact ⟨HR.out, by first | exact below_drewN (below_drewN (below1 _ _) _) _ | exact below_drewN (below1 _ _) _ | exact below1 _ _⟩
                    · have hbe : (bi == 0) = false := beq_eq_false_iff_ne.2 hb
                      have HR := Lib.hid (ret_bool (show false = opB (6, k, v, bi) by simp [opB, HK1.out, h0, hb]))
                      go_enter Try.func53, Try.ntmps53
                      go_wp2_with fail
                      refine (HK.out _).mono ?_
                      rintro e w' ⟨rfl, n, rfl⟩
                      go_wp2
                      go_ret
                      exact ⟨by first | exact HR.out | (rw [hbe]; exact HR.out), by first | exact below_drewN (below_drewN (below1 _ _) _) _ | exact below_drewN (below1 _ _) _ | exact below1 _ _⟩
                  · have HR := Lib.hid (ret_bool (show false = opB (6, k, v, bi) by simp [opB, HK1.out, h0]))
                    go_enter Try.func53, Try.ntmps53
                    go_wp2_with fail
                    refine (HK.out _).mono ?_
                    rintro e w' ⟨rfl, n, rfl⟩
                    go_wp2
                    go_ret
                    exact ⟨by first | exact HR.out | (rw [show (v.toList == []) = false by simpa using h0]; exact HR.out), by first | exact below_drewN (below_drewN (below1 _ _) _) _ | exact below_drewN (below1 _ _) _ | exact below1 _ _⟩
                · skip
                  have HR := Lib.hid (ret_bool (show false = opB (kd, k, v, bi) by simp [opB, h1, h2, h3, h4, h5, h6, h7]))
                  go_enter Try.func53, Try.ntmps53
                  go_wp2_with fail
                  refine (HK.out _).mono ?_
                  rintro e w' ⟨rfl, n, rfl⟩
                  go_wp2
                  go_ret
                  exact ⟨by first | exact HR.out | (rw [show (kd == 1) = false from beq_eq_false_iff_ne.2 h1, show (kd == 3) = false from beq_eq_false_iff_ne.2 h3, show (kd == 6) = false from beq_eq_false_iff_ne.2 h6]; exact HR.out), by first | exact below_drewN (below_drewN (below1 _ _) _) _ | exact below_drewN (below1 _ _) _ | exact below1 _ _⟩

set_option maxHeartbeats 8000000 in
theorem goodOp_any (kd : Int) (k v : ByteArray) (bi : Int) (w : World) (hk : k.size ≤ 1048576) (hv : v.size ≤ 1048576) :
    Calls Try.prog 30 #[.agg #[.int .i64 kd, .string k, .string v, .int .i64 bi]] w fun e w' => e = .returned (.bool (opB (kd, k, v, bi))) ∧ Below w.heap.size w w' := by
  have HK := Lib.hid (fun W => goodKey_any k W hk)
  have HV := Lib.hid (fun W => goodVal_any v W hv)
  cases h1 : keyB k with
  | false =>
    rw [h1] at HK
    have HR := Lib.hid (ret_bool (opB_key (kd := kd) (bi := bi) (v := v) h1).symm)
    clear h1
    by_cases ha : 1 ≤ kd
    · by_cases hb : kd ≤ 7
      · go_enter Try.func30, Try.ntmps30
        go_wp2_with fail
        refine (HK.out _).mono ?_
        rintro e w' ⟨rfl, rfl⟩
        go_wp2
        go_ret
        exact ⟨HR.out, by first | exact below1 _ _ | exact below2 _ _ _ | exact (below2 _ _ _).alloc (by simp; omega) _⟩
      · go_enter Try.func30, Try.ntmps30
        go_wp2
        go_ret
        exact ⟨HR.out, by first | exact below1 _ _ | exact below2 _ _ _ | exact (below2 _ _ _).alloc (by simp; omega) _⟩
    · go_enter Try.func30, Try.ntmps30
      go_wp2
      go_ret
      exact ⟨HR.out, by first | exact below1 _ _ | exact below2 _ _ _ | exact (below2 _ _ _).alloc (by simp; omega) _⟩
  | true =>
    rw [h1] at HK
    have HK1 := Lib.hid h1
    clear h1
    by_cases h2 : kd = 2
    · subst h2
      cases h : valB v with
      | false =>
        have HR := Lib.hid (ret_bool (show false = opB (2, k, v, bi) by simp [opB, HK1.out, h]))
        have h0 : ¬ v.toList = [] := fun e => by rw [valB_empty e] at h; cases h
        rw [h] at HV
        clear h
        by_cases hb : bi = 0
        · subst hb
          go_enter Try.func30, Try.ntmps30
          go_wp2_with fail
          refine (HK.out _).mono ?_
          rintro e w' ⟨rfl, rfl⟩
          go_wp2_with fail
          refine (usesVal_yes 2 (by decide) _).mono ?_
          rintro e w' ⟨rfl, rfl⟩
          go_wp2_with fail
          refine (HV.out _).mono ?_
          rintro e w' ⟨rfl, rfl⟩
          go_wp2
          go_ret
          exact ⟨HR.out, by first | exact below1 _ _ | exact below2 _ _ _ | exact (below2 _ _ _).alloc (by simp; omega) _⟩
        · have hbe : (bi == 0) = false := beq_eq_false_iff_ne.2 hb
          go_enter Try.func30, Try.ntmps30
          go_wp2_with fail
          refine (HK.out _).mono ?_
          rintro e w' ⟨rfl, rfl⟩
          go_wp2_with fail
          refine (usesVal_yes 2 (by decide) _).mono ?_
          rintro e w' ⟨rfl, rfl⟩
          go_wp2_with fail
          refine (HV.out _).mono ?_
          rintro e w' ⟨rfl, rfl⟩
          go_wp2_with fail
          refine (usesBy_no 2 (by decide) _).mono ?_
          rintro e w' ⟨rfl, rfl⟩
          go_wp2
          go_ret
          exact ⟨HR.out, by first | exact below1 _ _ | exact below2 _ _ _ | exact (below2 _ _ _).alloc (by simp; omega) _⟩
      | true =>
        have HV1 := Lib.hid h
        rw [h] at HV
        clear h
        by_cases hb : bi = 0
        · subst hb
          have HR := Lib.hid (ret_bool (show true = opB (2, k, v, 0) by simp [opB, HK1.out, HV1.out]))
          by_cases h0 : v.toList = []
          · go_enter Try.func30, Try.ntmps30
            go_wp2_with fail
            refine (HK.out _).mono ?_
            rintro e w' ⟨rfl, rfl⟩
            go_wp2
            go_ret
            exact ⟨HR.out, by first | exact below1 _ _ | exact below2 _ _ _ | exact (below2 _ _ _).alloc (by simp; omega) _⟩
          · go_enter Try.func30, Try.ntmps30
            go_wp2_with fail
            refine (HK.out _).mono ?_
            rintro e w' ⟨rfl, rfl⟩
            go_wp2_with fail
            refine (usesVal_yes 2 (by decide) _).mono ?_
            rintro e w' ⟨rfl, rfl⟩
            go_wp2_with fail
            refine (HV.out _).mono ?_
            rintro e w' ⟨rfl, rfl⟩
            go_wp2
            go_ret
            exact ⟨HR.out, by first | exact below1 _ _ | exact below2 _ _ _ | exact (below2 _ _ _).alloc (by simp; omega) _⟩
        · have hbe : (bi == 0) = false := beq_eq_false_iff_ne.2 hb
          have HR := Lib.hid (ret_bool (show false = opB (2, k, v, bi) by simp [opB, HK1.out, HV1.out, hb]))
          by_cases h0 : v.toList = []
          · go_enter Try.func30, Try.ntmps30
            go_wp2_with fail
            refine (HK.out _).mono ?_
            rintro e w' ⟨rfl, rfl⟩
            go_wp2_with fail
            refine (usesBy_no 2 (by decide) _).mono ?_
            rintro e w' ⟨rfl, rfl⟩
            go_wp2
            go_ret
            exact ⟨HR.out, by first | exact below1 _ _ | exact below2 _ _ _ | exact (below2 _ _ _).alloc (by simp; omega) _⟩
          · go_enter Try.func30, Try.ntmps30
            go_wp2_with fail
            refine (HK.out _).mono ?_
            rintro e w' ⟨rfl, rfl⟩
            go_wp2_with fail
            refine (usesVal_yes 2 (by decide) _).mono ?_
            rintro e w' ⟨rfl, rfl⟩
            go_wp2_with fail
            refine (HV.out _).mono ?_
            rintro e w' ⟨rfl, rfl⟩
            go_wp2_with fail
            refine (usesBy_no 2 (by decide) _).mono ?_
            rintro e w' ⟨rfl, rfl⟩
            go_wp2
            go_ret
            exact ⟨HR.out, by first | exact below1 _ _ | exact below2 _ _ _ | exact (below2 _ _ _).alloc (by simp; omega) _⟩
    · skip
      by_cases h7 : kd = 7
      · subst h7
        cases h : valB v with
        | false =>
          have HR := Lib.hid (ret_bool (show false = opB (7, k, v, bi) by simp [opB, HK1.out, h]))
          have h0 : ¬ v.toList = [] := fun e => by rw [valB_empty e] at h; cases h
          rw [h] at HV
          clear h
          by_cases hb : bi = 0
          · subst hb
            go_enter Try.func30, Try.ntmps30
            go_wp2_with fail
            refine (HK.out _).mono ?_
            rintro e w' ⟨rfl, rfl⟩
            go_wp2_with fail
            refine (usesVal_yes 7 (by decide) _).mono ?_
            rintro e w' ⟨rfl, rfl⟩
            go_wp2_with fail
            refine (HV.out _).mono ?_
            rintro e w' ⟨rfl, rfl⟩
            go_wp2
            go_ret
            exact ⟨HR.out, by first | exact below1 _ _ | exact below2 _ _ _ | exact (below2 _ _ _).alloc (by simp; omega) _⟩
          · have hbe : (bi == 0) = false := beq_eq_false_iff_ne.2 hb
            go_enter Try.func30, Try.ntmps30
            go_wp2_with fail
            refine (HK.out _).mono ?_
            rintro e w' ⟨rfl, rfl⟩
            go_wp2_with fail
            refine (usesVal_yes 7 (by decide) _).mono ?_
            rintro e w' ⟨rfl, rfl⟩
            go_wp2_with fail
            refine (HV.out _).mono ?_
            rintro e w' ⟨rfl, rfl⟩
            go_wp2_with fail
            refine (usesBy_no 7 (by decide) _).mono ?_
            rintro e w' ⟨rfl, rfl⟩
            go_wp2
            go_ret
            exact ⟨HR.out, by first | exact below1 _ _ | exact below2 _ _ _ | exact (below2 _ _ _).alloc (by simp; omega) _⟩
        | true =>
          have HV1 := Lib.hid h
          rw [h] at HV
          clear h
          by_cases hb : bi = 0
          · subst hb
            have HR := Lib.hid (ret_bool (show true = opB (7, k, v, 0) by simp [opB, HK1.out, HV1.out]))
            by_cases h0 : v.toList = []
            · go_enter Try.func30, Try.ntmps30
              go_wp2_with fail
              refine (HK.out _).mono ?_
              rintro e w' ⟨rfl, rfl⟩
              go_wp2
              go_ret
              exact ⟨HR.out, by first | exact below1 _ _ | exact below2 _ _ _ | exact (below2 _ _ _).alloc (by simp; omega) _⟩
            · go_enter Try.func30, Try.ntmps30
              go_wp2_with fail
              refine (HK.out _).mono ?_
              rintro e w' ⟨rfl, rfl⟩
              go_wp2_with fail
              refine (usesVal_yes 7 (by decide) _).mono ?_
              rintro e w' ⟨rfl, rfl⟩
              go_wp2_with fail
              refine (HV.out _).mono ?_
              rintro e w' ⟨rfl, rfl⟩
              go_wp2
              go_ret
              exact ⟨HR.out, by first | exact below1 _ _ | exact below2 _ _ _ | exact (below2 _ _ _).alloc (by simp; omega) _⟩
          · have hbe : (bi == 0) = false := beq_eq_false_iff_ne.2 hb
            have HR := Lib.hid (ret_bool (show false = opB (7, k, v, bi) by simp [opB, HK1.out, HV1.out, hb]))
            by_cases h0 : v.toList = []
            · go_enter Try.func30, Try.ntmps30
              go_wp2_with fail
              refine (HK.out _).mono ?_
              rintro e w' ⟨rfl, rfl⟩
              go_wp2_with fail
              refine (usesBy_no 7 (by decide) _).mono ?_
              rintro e w' ⟨rfl, rfl⟩
              go_wp2
              go_ret
              exact ⟨HR.out, by first | exact below1 _ _ | exact below2 _ _ _ | exact (below2 _ _ _).alloc (by simp; omega) _⟩
            · go_enter Try.func30, Try.ntmps30
              go_wp2_with fail
              refine (HK.out _).mono ?_
              rintro e w' ⟨rfl, rfl⟩
              go_wp2_with fail
              refine (usesVal_yes 7 (by decide) _).mono ?_
              rintro e w' ⟨rfl, rfl⟩
              go_wp2_with fail
              refine (HV.out _).mono ?_
              rintro e w' ⟨rfl, rfl⟩
              go_wp2_with fail
              refine (usesBy_no 7 (by decide) _).mono ?_
              rintro e w' ⟨rfl, rfl⟩
              go_wp2
              go_ret
              exact ⟨HR.out, by first | exact below1 _ _ | exact below2 _ _ _ | exact (below2 _ _ _).alloc (by simp; omega) _⟩
      · skip
        by_cases h4 : kd = 4
        · subst h4
          by_cases h0 : v.toList = []
          · cases hr : inB bi (-9999) 9999 with
            | true =>
              have HR := Lib.hid (ret_bool (show true = opB (4, k, v, bi) by simp [opB, HK1.out, h0, hr]))
              obtain ⟨ha, hx⟩ := inB_true hr
              clear hr
              by_cases hb : bi = 0
              · subst hb
                go_enter Try.func30, Try.ntmps30
                go_wp2_with fail
                refine (HK.out _).mono ?_
                rintro e w' ⟨rfl, rfl⟩
                go_wp2
                go_ret
                exact ⟨HR.out, by first | exact below1 _ _ | exact below2 _ _ _ | exact (below2 _ _ _).alloc (by simp; omega) _⟩
              · have hbe : (bi == 0) = false := beq_eq_false_iff_ne.2 hb
                go_enter Try.func30, Try.ntmps30
                go_wp2_with fail
                refine (HK.out _).mono ?_
                rintro e w' ⟨rfl, rfl⟩
                go_wp2_with fail
                refine (usesBy_yes 4 (by decide) _).mono ?_
                rintro e w' ⟨rfl, rfl⟩
                go_wp2
                go_ret
                exact ⟨HR.out, by first | exact below1 _ _ | exact below2 _ _ _ | exact (below2 _ _ _).alloc (by simp; omega) _⟩
            | false =>
              have HR := Lib.hid (ret_bool (show false = opB (4, k, v, bi) by simp [opB, HK1.out, h0, hr]))
              have hb : bi ≠ 0 := fun e => by subst e; simp [inB] at hr
              have hbe : (bi == 0) = false := beq_eq_false_iff_ne.2 hb
              by_cases ha : -9999 ≤ bi
              · have hx : ¬ bi ≤ 9999 := fun hx => by rw [inB_mk ⟨ha, hx⟩] at hr; cases hr
                have hd : decide (bi ≤ 9999) = false := decide_eq_false hx
                clear hr
                go_enter Try.func30, Try.ntmps30
                go_wp2_with fail
                refine (HK.out _).mono ?_
                rintro e w' ⟨rfl, rfl⟩
                go_wp2_with fail
                refine (usesBy_yes 4 (by decide) _).mono ?_
                rintro e w' ⟨rfl, rfl⟩
                go_wp2
                go_ret
                exact ⟨by first | exact HR.out | (show Ending.returned (Value.bool (decide (bi ≤ 9999))) = _; rw [hd]; exact HR.out), by first | exact below1 _ _ | exact below2 _ _ _ | exact (below2 _ _ _).alloc (by simp; omega) _⟩
              · clear hr
                go_enter Try.func30, Try.ntmps30
                go_wp2_with fail
                refine (HK.out _).mono ?_
                rintro e w' ⟨rfl, rfl⟩
                go_wp2_with fail
                refine (usesBy_yes 4 (by decide) _).mono ?_
                rintro e w' ⟨rfl, rfl⟩
                go_wp2
                go_ret
                exact ⟨HR.out, by first | exact below1 _ _ | exact below2 _ _ _ | exact (below2 _ _ _).alloc (by simp; omega) _⟩
          · have HR := Lib.hid (ret_bool (show false = opB (4, k, v, bi) by simp [opB, HK1.out, h0]))
            by_cases hb : bi = 0
            · subst hb
              go_enter Try.func30, Try.ntmps30
              go_wp2_with fail
              refine (HK.out _).mono ?_
              rintro e w' ⟨rfl, rfl⟩
              go_wp2_with fail
              refine (usesVal_no 4 (by decide) _).mono ?_
              rintro e w' ⟨rfl, rfl⟩
              go_wp2
              go_ret
              exact ⟨HR.out, by first | exact below1 _ _ | exact below2 _ _ _ | exact (below2 _ _ _).alloc (by simp; omega) _⟩
            · have hbe : (bi == 0) = false := beq_eq_false_iff_ne.2 hb
              by_cases ha : -9999 ≤ bi
              · by_cases hx : bi ≤ 9999
                · go_enter Try.func30, Try.ntmps30
                  go_wp2_with fail
                  refine (HK.out _).mono ?_
                  rintro e w' ⟨rfl, rfl⟩
                  go_wp2_with fail
                  refine (usesVal_no 4 (by decide) _).mono ?_
                  rintro e w' ⟨rfl, rfl⟩
                  go_wp2_with fail
                  refine (usesBy_yes 4 (by decide) _).mono ?_
                  rintro e w' ⟨rfl, rfl⟩
                  go_wp2
                  go_ret
                  exact ⟨HR.out, by first | exact below1 _ _ | exact below2 _ _ _ | exact (below2 _ _ _).alloc (by simp; omega) _⟩
                · go_enter Try.func30, Try.ntmps30
                  go_wp2_with fail
                  refine (HK.out _).mono ?_
                  rintro e w' ⟨rfl, rfl⟩
                  go_wp2_with fail
                  refine (usesVal_no 4 (by decide) _).mono ?_
                  rintro e w' ⟨rfl, rfl⟩
                  go_wp2_with fail
                  refine (usesBy_yes 4 (by decide) _).mono ?_
                  rintro e w' ⟨rfl, rfl⟩
                  go_wp2
                  go_ret
                  exact ⟨HR.out, by first | exact below1 _ _ | exact below2 _ _ _ | exact (below2 _ _ _).alloc (by simp; omega) _⟩
              · go_enter Try.func30, Try.ntmps30
                go_wp2_with fail
                refine (HK.out _).mono ?_
                rintro e w' ⟨rfl, rfl⟩
                go_wp2_with fail
                refine (usesVal_no 4 (by decide) _).mono ?_
                rintro e w' ⟨rfl, rfl⟩
                go_wp2_with fail
                refine (usesBy_yes 4 (by decide) _).mono ?_
                rintro e w' ⟨rfl, rfl⟩
                go_wp2
                go_ret
                exact ⟨HR.out, by first | exact below1 _ _ | exact below2 _ _ _ | exact (below2 _ _ _).alloc (by simp; omega) _⟩
        · skip
          by_cases h5 : kd = 5
          · subst h5
            by_cases h0 : v.toList = []
            · cases hr : inB bi (-9999) 9999 with
              | true =>
                have HR := Lib.hid (ret_bool (show true = opB (5, k, v, bi) by simp [opB, HK1.out, h0, hr]))
                obtain ⟨ha, hx⟩ := inB_true hr
                clear hr
                by_cases hb : bi = 0
                · subst hb
                  go_enter Try.func30, Try.ntmps30
                  go_wp2_with fail
                  refine (HK.out _).mono ?_
                  rintro e w' ⟨rfl, rfl⟩
                  go_wp2
                  go_ret
                  exact ⟨HR.out, by first | exact below1 _ _ | exact below2 _ _ _ | exact (below2 _ _ _).alloc (by simp; omega) _⟩
                · have hbe : (bi == 0) = false := beq_eq_false_iff_ne.2 hb
                  go_enter Try.func30, Try.ntmps30
                  go_wp2_with fail
                  refine (HK.out _).mono ?_
                  rintro e w' ⟨rfl, rfl⟩
                  go_wp2_with fail
                  refine (usesBy_yes 5 (by decide) _).mono ?_
                  rintro e w' ⟨rfl, rfl⟩
                  go_wp2
                  go_ret
                  exact ⟨HR.out, by first | exact below1 _ _ | exact below2 _ _ _ | exact (below2 _ _ _).alloc (by simp; omega) _⟩
              | false =>
                have HR := Lib.hid (ret_bool (show false = opB (5, k, v, bi) by simp [opB, HK1.out, h0, hr]))
                have hb : bi ≠ 0 := fun e => by subst e; simp [inB] at hr
                have hbe : (bi == 0) = false := beq_eq_false_iff_ne.2 hb
                by_cases ha : -9999 ≤ bi
                · have hx : ¬ bi ≤ 9999 := fun hx => by rw [inB_mk ⟨ha, hx⟩] at hr; cases hr
                  have hd : decide (bi ≤ 9999) = false := decide_eq_false hx
                  clear hr
                  go_enter Try.func30, Try.ntmps30
                  go_wp2_with fail
                  refine (HK.out _).mono ?_
                  rintro e w' ⟨rfl, rfl⟩
                  go_wp2_with fail
                  refine (usesBy_yes 5 (by decide) _).mono ?_
                  rintro e w' ⟨rfl, rfl⟩
                  go_wp2
                  go_ret
                  exact ⟨by first | exact HR.out | (show Ending.returned (Value.bool (decide (bi ≤ 9999))) = _; rw [hd]; exact HR.out), by first | exact below1 _ _ | exact below2 _ _ _ | exact (below2 _ _ _).alloc (by simp; omega) _⟩
                · clear hr
                  go_enter Try.func30, Try.ntmps30
                  go_wp2_with fail
                  refine (HK.out _).mono ?_
                  rintro e w' ⟨rfl, rfl⟩
                  go_wp2_with fail
                  refine (usesBy_yes 5 (by decide) _).mono ?_
                  rintro e w' ⟨rfl, rfl⟩
                  go_wp2
                  go_ret
                  exact ⟨HR.out, by first | exact below1 _ _ | exact below2 _ _ _ | exact (below2 _ _ _).alloc (by simp; omega) _⟩
            · have HR := Lib.hid (ret_bool (show false = opB (5, k, v, bi) by simp [opB, HK1.out, h0]))
              by_cases hb : bi = 0
              · subst hb
                go_enter Try.func30, Try.ntmps30
                go_wp2_with fail
                refine (HK.out _).mono ?_
                rintro e w' ⟨rfl, rfl⟩
                go_wp2_with fail
                refine (usesVal_no 5 (by decide) _).mono ?_
                rintro e w' ⟨rfl, rfl⟩
                go_wp2
                go_ret
                exact ⟨HR.out, by first | exact below1 _ _ | exact below2 _ _ _ | exact (below2 _ _ _).alloc (by simp; omega) _⟩
              · have hbe : (bi == 0) = false := beq_eq_false_iff_ne.2 hb
                by_cases ha : -9999 ≤ bi
                · by_cases hx : bi ≤ 9999
                  · go_enter Try.func30, Try.ntmps30
                    go_wp2_with fail
                    refine (HK.out _).mono ?_
                    rintro e w' ⟨rfl, rfl⟩
                    go_wp2_with fail
                    refine (usesVal_no 5 (by decide) _).mono ?_
                    rintro e w' ⟨rfl, rfl⟩
                    go_wp2_with fail
                    refine (usesBy_yes 5 (by decide) _).mono ?_
                    rintro e w' ⟨rfl, rfl⟩
                    go_wp2
                    go_ret
                    exact ⟨HR.out, by first | exact below1 _ _ | exact below2 _ _ _ | exact (below2 _ _ _).alloc (by simp; omega) _⟩
                  · go_enter Try.func30, Try.ntmps30
                    go_wp2_with fail
                    refine (HK.out _).mono ?_
                    rintro e w' ⟨rfl, rfl⟩
                    go_wp2_with fail
                    refine (usesVal_no 5 (by decide) _).mono ?_
                    rintro e w' ⟨rfl, rfl⟩
                    go_wp2_with fail
                    refine (usesBy_yes 5 (by decide) _).mono ?_
                    rintro e w' ⟨rfl, rfl⟩
                    go_wp2
                    go_ret
                    exact ⟨HR.out, by first | exact below1 _ _ | exact below2 _ _ _ | exact (below2 _ _ _).alloc (by simp; omega) _⟩
                · go_enter Try.func30, Try.ntmps30
                  go_wp2_with fail
                  refine (HK.out _).mono ?_
                  rintro e w' ⟨rfl, rfl⟩
                  go_wp2_with fail
                  refine (usesVal_no 5 (by decide) _).mono ?_
                  rintro e w' ⟨rfl, rfl⟩
                  go_wp2_with fail
                  refine (usesBy_yes 5 (by decide) _).mono ?_
                  rintro e w' ⟨rfl, rfl⟩
                  go_wp2
                  go_ret
                  exact ⟨HR.out, by first | exact below1 _ _ | exact below2 _ _ _ | exact (below2 _ _ _).alloc (by simp; omega) _⟩
          · skip
            by_cases h1 : kd = 1
            · subst h1
              by_cases h0 : v.toList = []
              · by_cases hb : bi = 0
                · subst hb
                  have HR := Lib.hid (ret_bool (show true = opB (1, k, v, 0) by simp [opB, HK1.out, h0]))
                  go_enter Try.func30, Try.ntmps30
                  go_wp2_with fail
                  refine (HK.out _).mono ?_
                  rintro e w' ⟨rfl, rfl⟩
                  go_wp2
                  go_ret
                  exact ⟨HR.out, by first | exact below1 _ _ | exact below2 _ _ _ | exact (below2 _ _ _).alloc (by simp; omega) _⟩
                · have hbe : (bi == 0) = false := beq_eq_false_iff_ne.2 hb
                  have HR := Lib.hid (ret_bool (show false = opB (1, k, v, bi) by simp [opB, HK1.out, h0, hb]))
                  go_enter Try.func30, Try.ntmps30
                  go_wp2_with fail
                  refine (HK.out _).mono ?_
                  rintro e w' ⟨rfl, rfl⟩
                  go_wp2_with fail
                  refine (usesBy_no 1 (by decide) _).mono ?_
                  rintro e w' ⟨rfl, rfl⟩
                  go_wp2
                  go_ret
                  exact ⟨by first | exact HR.out | (rw [hbe]; exact HR.out), by first | exact below1 _ _ | exact below2 _ _ _ | exact (below2 _ _ _).alloc (by simp; omega) _⟩
              · have HR := Lib.hid (ret_bool (show false = opB (1, k, v, bi) by simp [opB, HK1.out, h0]))
                by_cases hb : bi = 0
                · subst hb
                  go_enter Try.func30, Try.ntmps30
                  go_wp2_with fail
                  refine (HK.out _).mono ?_
                  rintro e w' ⟨rfl, rfl⟩
                  go_wp2_with fail
                  refine (usesVal_no 1 (by decide) _).mono ?_
                  rintro e w' ⟨rfl, rfl⟩
                  go_wp2
                  go_ret
                  exact ⟨HR.out, by first | exact below1 _ _ | exact below2 _ _ _ | exact (below2 _ _ _).alloc (by simp; omega) _⟩
                · have hbe : (bi == 0) = false := beq_eq_false_iff_ne.2 hb
                  go_enter Try.func30, Try.ntmps30
                  go_wp2_with fail
                  refine (HK.out _).mono ?_
                  rintro e w' ⟨rfl, rfl⟩
                  go_wp2_with fail
                  refine (usesVal_no 1 (by decide) _).mono ?_
                  rintro e w' ⟨rfl, rfl⟩
                  go_wp2_with fail
                  refine (usesBy_no 1 (by decide) _).mono ?_
                  rintro e w' ⟨rfl, rfl⟩
                  go_wp2
                  go_ret
                  exact ⟨HR.out, by first | exact below1 _ _ | exact below2 _ _ _ | exact (below2 _ _ _).alloc (by simp; omega) _⟩
            · skip
              by_cases h3 : kd = 3
              · subst h3
                by_cases h0 : v.toList = []
                · by_cases hb : bi = 0
                  · subst hb
                    have HR := Lib.hid (ret_bool (show true = opB (3, k, v, 0) by simp [opB, HK1.out, h0]))
                    go_enter Try.func30, Try.ntmps30
                    go_wp2_with fail
                    refine (HK.out _).mono ?_
                    rintro e w' ⟨rfl, rfl⟩
                    go_wp2
                    go_ret
                    exact ⟨HR.out, by first | exact below1 _ _ | exact below2 _ _ _ | exact (below2 _ _ _).alloc (by simp; omega) _⟩
                  · have hbe : (bi == 0) = false := beq_eq_false_iff_ne.2 hb
                    have HR := Lib.hid (ret_bool (show false = opB (3, k, v, bi) by simp [opB, HK1.out, h0, hb]))
                    go_enter Try.func30, Try.ntmps30
                    go_wp2_with fail
                    refine (HK.out _).mono ?_
                    rintro e w' ⟨rfl, rfl⟩
                    go_wp2_with fail
                    refine (usesBy_no 3 (by decide) _).mono ?_
                    rintro e w' ⟨rfl, rfl⟩
                    go_wp2
                    go_ret
                    exact ⟨by first | exact HR.out | (rw [hbe]; exact HR.out), by first | exact below1 _ _ | exact below2 _ _ _ | exact (below2 _ _ _).alloc (by simp; omega) _⟩
                · have HR := Lib.hid (ret_bool (show false = opB (3, k, v, bi) by simp [opB, HK1.out, h0]))
                  by_cases hb : bi = 0
                  · subst hb
                    go_enter Try.func30, Try.ntmps30
                    go_wp2_with fail
                    refine (HK.out _).mono ?_
                    rintro e w' ⟨rfl, rfl⟩
                    go_wp2_with fail
                    refine (usesVal_no 3 (by decide) _).mono ?_
                    rintro e w' ⟨rfl, rfl⟩
                    go_wp2
                    go_ret
                    exact ⟨HR.out, by first | exact below1 _ _ | exact below2 _ _ _ | exact (below2 _ _ _).alloc (by simp; omega) _⟩
                  · have hbe : (bi == 0) = false := beq_eq_false_iff_ne.2 hb
                    go_enter Try.func30, Try.ntmps30
                    go_wp2_with fail
                    refine (HK.out _).mono ?_
                    rintro e w' ⟨rfl, rfl⟩
                    go_wp2_with fail
                    refine (usesVal_no 3 (by decide) _).mono ?_
                    rintro e w' ⟨rfl, rfl⟩
                    go_wp2_with fail
                    refine (usesBy_no 3 (by decide) _).mono ?_
                    rintro e w' ⟨rfl, rfl⟩
                    go_wp2
                    go_ret
                    exact ⟨HR.out, by first | exact below1 _ _ | exact below2 _ _ _ | exact (below2 _ _ _).alloc (by simp; omega) _⟩
              · skip
                by_cases h6 : kd = 6
                · subst h6
                  by_cases h0 : v.toList = []
                  · by_cases hb : bi = 0
                    · subst hb
                      have HR := Lib.hid (ret_bool (show true = opB (6, k, v, 0) by simp [opB, HK1.out, h0]))
                      go_enter Try.func30, Try.ntmps30
                      go_wp2_with fail
                      refine (HK.out _).mono ?_
                      rintro e w' ⟨rfl, rfl⟩
                      go_wp2
                      go_ret
                      exact ⟨HR.out, by first | exact below1 _ _ | exact below2 _ _ _ | exact (below2 _ _ _).alloc (by simp; omega) _⟩
                    · have hbe : (bi == 0) = false := beq_eq_false_iff_ne.2 hb
                      have HR := Lib.hid (ret_bool (show false = opB (6, k, v, bi) by simp [opB, HK1.out, h0, hb]))
                      go_enter Try.func30, Try.ntmps30
                      go_wp2_with fail
                      refine (HK.out _).mono ?_
                      rintro e w' ⟨rfl, rfl⟩
                      go_wp2_with fail
                      refine (usesBy_no 6 (by decide) _).mono ?_
                      rintro e w' ⟨rfl, rfl⟩
                      go_wp2
                      go_ret
                      exact ⟨by first | exact HR.out | (rw [hbe]; exact HR.out), by first | exact below1 _ _ | exact below2 _ _ _ | exact (below2 _ _ _).alloc (by simp; omega) _⟩
                  · have HR := Lib.hid (ret_bool (show false = opB (6, k, v, bi) by simp [opB, HK1.out, h0]))
                    by_cases hb : bi = 0
                    · subst hb
                      go_enter Try.func30, Try.ntmps30
                      go_wp2_with fail
                      refine (HK.out _).mono ?_
                      rintro e w' ⟨rfl, rfl⟩
                      go_wp2_with fail
                      refine (usesVal_no 6 (by decide) _).mono ?_
                      rintro e w' ⟨rfl, rfl⟩
                      go_wp2
                      go_ret
                      exact ⟨HR.out, by first | exact below1 _ _ | exact below2 _ _ _ | exact (below2 _ _ _).alloc (by simp; omega) _⟩
                    · have hbe : (bi == 0) = false := beq_eq_false_iff_ne.2 hb
                      go_enter Try.func30, Try.ntmps30
                      go_wp2_with fail
                      refine (HK.out _).mono ?_
                      rintro e w' ⟨rfl, rfl⟩
                      go_wp2_with fail
                      refine (usesVal_no 6 (by decide) _).mono ?_
                      rintro e w' ⟨rfl, rfl⟩
                      go_wp2_with fail
                      refine (usesBy_no 6 (by decide) _).mono ?_
                      rintro e w' ⟨rfl, rfl⟩
                      go_wp2
                      go_ret
                      exact ⟨HR.out, by first | exact below1 _ _ | exact below2 _ _ _ | exact (below2 _ _ _).alloc (by simp; omega) _⟩
                · skip
                  have HR := Lib.hid (ret_bool (show false = opB (kd, k, v, bi) by simp [opB, h1, h2, h3, h4, h5, h6, h7]))
                  by_cases ha : 1 ≤ kd
                  · by_cases hb : kd ≤ 7
                    · omega
                    · go_enter Try.func30, Try.ntmps30
                      go_wp2
                      go_ret
                      exact ⟨HR.out, by first | exact below1 _ _ | exact below2 _ _ _ | exact (below2 _ _ _).alloc (by simp; omega) _⟩
                  · go_enter Try.func30, Try.ntmps30
                    go_wp2
                    go_ret
                    exact ⟨HR.out, by first | exact below1 _ _ | exact below2 _ _ _ | exact (below2 _ _ _).alloc (by simp; omega) _⟩


set_option maxRecDepth 100000 in
set_option maxHeartbeats 1000000 in
theorem l5Good_any (A : Option Addr) (n c : Nat) (ws : List (Int × ByteArray × ByteArray × Int)) (B : Nat) (w : World) (hn : ws.length = n) (h : OpsB w B A ws) (hB : B ≤ w.heap.size) (hm : OSmall ws) :
    Calls Try.prog 28 #[.slice A n c] w fun e w' => e = .returned (.bool (osB ws)) ∧ Below w.heap.size w w' := by
  obtain ⟨hl, hms⟩ := hm
  have HN := Lib.hid hn
  have hge := Nat.le_of_eq hn
  have hle := Nat.le_of_eq hn.symm
  have HS := Lib.hid h
  have HM := Lib.hid hms
  clear hn h hms
  go_enter Try.func28, Try.ntmps28
  go_wp2
  go_loopw [7] (fun i wr => ∃ k : Nat, k ≤ n ∧ i = .int .i64 k ∧ Hid ((ws.take k).all opB = true) ∧ Below w.heap.size w wr) (fun i _ => n - (intOf i).toNat)
  case atStart => exact ⟨0, by omega, rfl, show (ws.take 0).all opB = true by simp, Below.refl _ _⟩
  case round =>
    obtain ⟨k, hk, rfl, HP, hb⟩ := hrel
    by_cases hlt : k < n
    · obtain ⟨b, off, rfl, hbB, hc⟩ := HS.out.get (by omega)
      obtain ⟨hc0, hc1, hc2, hc3⟩ := hc k (by omega)
      have c0 := (hb.cell (p := ⟨b, off + k * 4, none⟩) (Nat.lt_of_lt_of_le hbB hB)).trans hc0
      have c1 := (hb.cell (p := ⟨b, off + k * 4 + 1, none⟩) (Nat.lt_of_lt_of_le hbB hB)).trans hc1
      have c2 := (hb.cell (p := ⟨b, off + k * 4 + 2, none⟩) (Nat.lt_of_lt_of_le hbB hB)).trans hc2
      have c3 := (hb.cell (p := ⟨b, off + k * 4 + 3, none⟩) (Nat.lt_of_lt_of_le hbB hB)).trans hc3
      have hsm := HM.out _ (List.getElem_mem (show k < ws.length by omega))
      obtain ⟨y, hy⟩ : ∃ y, y = ws[k]'(by omega) := ⟨_, rfl⟩
      rw [← hy] at c0 c1 c2 c3 hsm
      have HY := Lib.hid hy
      obtain ⟨kd, s1, s2, bi⟩ := y
      simp only at c0 c1 c2 c3 hsm
      have HB := Lib.hid hb
      have HC := Lib.hid (fun W => l5Op_any kd s1 s2 bi W hsm.1 hsm.2)
      have hw1 := below1 wr (.cells #[.int .i64 kd, .string s1, .string s2, .int .i64 bi] 50)
      have HB1 := Lib.hid (HB.out.trans (hw1.mono HB.out.size))
      clear hc hc0 hc1 hc2 hc3 hy hb hsm hw1
      cases h1 : opB (kd, s1, s2, bi) with
      | false =>
        rw [h1] at HC
        have HNO := Lib.hid (ret_bool (osB_item k (show k < ws.length by omega) (by rw [← HY.out]; exact h1)).symm)
        clear h1
        go_wp2_with fail
        refine (HC.out _).mono ?_
        rintro e w4 ⟨rfl, hb4⟩
        have HB4 := Lib.hid (HB1.out.trans (hb4.mono HB1.out.size))
        clear hb4
        go_wp2
        go_ret
        exact ⟨HNO.out, HB4.out⟩
      | true =>
        rw [h1] at HC
        have HP' := Lib.hid (show (ws.take (k + 1)).all opB = true by rw [take_all_succ opB ws k (by omega), HP.out, ← HY.out, h1]; rfl)
        clear h1
        go_wp2_with fail
        refine (HC.out _).mono ?_
        rintro e w4 ⟨rfl, hb4⟩
        have HB4 := Lib.hid (HB1.out.trans (hb4.mono HB1.out.size))
        clear hb4
        go_wp2
        go_roundw
        case rel => exact ⟨k + 1, by omega, by go_num, HP'.out, HB4.out⟩
        case measure => simp [intOf]; omega
    · have hkn : k = n := by omega
      subst hkn
      by_cases h8 : k ≤ 8
      · have HYES := Lib.hid (ret_bool (osB_mk (by rw [HN.out]; exact HP.out) (by omega)).symm)
        have hd : decide ((k : Int) ≤ 8) = true := decide_eq_true (by omega)
        go_wp2
        go_ret
        exact ⟨HYES.out, hb⟩
      · have HNO := Lib.hid (ret_bool (osB_long (l := ws) (by omega)).symm)
        have hd : decide ((k : Int) ≤ 8) = false := decide_eq_false (by omega)
        go_wp2
        go_ret
        exact ⟨HNO.out, hb⟩

set_option maxRecDepth 100000 in
set_option maxHeartbeats 1000000 in
theorem goodOps_any (A : Option Addr) (n c : Nat) (ws : List (Int × ByteArray × ByteArray × Int)) (B : Nat) (w : World) (hn : ws.length = n) (h : OpsB w B A ws) (hB : B ≤ w.heap.size) (hm : OSmall ws) :
    Calls Try.prog 10 #[.slice A n c] w fun e w' => e = .returned (.bool (osB ws)) ∧ Below w.heap.size w w' := by
  obtain ⟨hl, hms⟩ := hm
  have HN := Lib.hid hn
  have hge := Nat.le_of_eq hn
  have hle := Nat.le_of_eq hn.symm
  have HS := Lib.hid h
  have HM := Lib.hid hms
  clear hn h hms
  by_cases h8 : n ≤ 8
  · go_enter Try.func10, Try.ntmps10
    go_wp2
    go_loopw [10] (fun i wr => ∃ k : Nat, k ≤ n ∧ i = .int .i64 k ∧ Hid ((ws.take k).all opB = true) ∧ Below w.heap.size w wr) (fun i _ => n - (intOf i).toNat)
    case atStart => exact ⟨0, by omega, rfl, show (ws.take 0).all opB = true by simp, Below.refl _ _⟩
    case round =>
      obtain ⟨k, hk, rfl, HP, hb⟩ := hrel
      by_cases hlt : k < n
      · obtain ⟨b, off, rfl, hbB, hc⟩ := HS.out.get (by omega)
        obtain ⟨hc0, hc1, hc2, hc3⟩ := hc k (by omega)
        have c0 := (hb.cell (p := ⟨b, off + k * 4, none⟩) (Nat.lt_of_lt_of_le hbB hB)).trans hc0
        have c1 := (hb.cell (p := ⟨b, off + k * 4 + 1, none⟩) (Nat.lt_of_lt_of_le hbB hB)).trans hc1
        have c2 := (hb.cell (p := ⟨b, off + k * 4 + 2, none⟩) (Nat.lt_of_lt_of_le hbB hB)).trans hc2
        have c3 := (hb.cell (p := ⟨b, off + k * 4 + 3, none⟩) (Nat.lt_of_lt_of_le hbB hB)).trans hc3
        have hsm := HM.out _ (List.getElem_mem (show k < ws.length by omega))
        obtain ⟨y, hy⟩ : ∃ y, y = ws[k]'(by omega) := ⟨_, rfl⟩
        rw [← hy] at c0 c1 c2 c3 hsm
        have HY := Lib.hid hy
        obtain ⟨kd, s1, s2, bi⟩ := y
        simp only at c0 c1 c2 c3 hsm
        have HB := Lib.hid hb
        have HC := Lib.hid (fun W => goodOp_any kd s1 s2 bi W hsm.1 hsm.2)
        have hw1 := below1 wr (.cells #[.int .i64 kd, .string s1, .string s2, .int .i64 bi] 50)
        have HB1 := Lib.hid (HB.out.trans (hw1.mono HB.out.size))
        clear hc hc0 hc1 hc2 hc3 hy hb hsm hw1
        cases h1 : opB (kd, s1, s2, bi) with
        | false =>
          rw [h1] at HC
          have HNO := Lib.hid (ret_bool (osB_item k (show k < ws.length by omega) (by rw [← HY.out]; exact h1)).symm)
          clear h1
          go_wp2_with fail
          refine (HC.out _).mono ?_
          rintro e w4 ⟨rfl, hb4⟩
          have HB4 := Lib.hid (HB1.out.trans (hb4.mono HB1.out.size))
          clear hb4
          go_wp2
          go_ret
          exact ⟨HNO.out, HB4.out⟩
        | true =>
          rw [h1] at HC
          have HP' := Lib.hid (show (ws.take (k + 1)).all opB = true by rw [take_all_succ opB ws k (by omega), HP.out, ← HY.out, h1]; rfl)
          clear h1
          go_wp2_with fail
          refine (HC.out _).mono ?_
          rintro e w4 ⟨rfl, hb4⟩
          have HB4 := Lib.hid (HB1.out.trans (hb4.mono HB1.out.size))
          clear hb4
          go_wp2
          go_roundw
          case rel => exact ⟨k + 1, by omega, by go_num, HP'.out, HB4.out⟩
          case measure => simp [intOf]; omega
      · have hkn : k = n := by omega
        subst hkn
        have HYES := Lib.hid (ret_bool (osB_mk (by rw [HN.out]; exact HP.out) (by omega)).symm)
        go_wp2
        go_ret
        exact ⟨HYES.out, hb⟩
  · have HNO := Lib.hid (ret_bool (osB_long (l := ws) (by omega)).symm)
    go_enter Try.func10, Try.ntmps10
    go_wp2
    go_ret
    exact ⟨HNO.out, Below.refl _ _⟩
end Go.Proofs.Ytohkpcgekoipbaa
