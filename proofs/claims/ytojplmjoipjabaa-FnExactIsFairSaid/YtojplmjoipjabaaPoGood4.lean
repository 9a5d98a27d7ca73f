/-
  Contracts for the model's checks of a poll: l1Rising, l8Voter.
-/
import Derived.Test.YtojplmjoipjabaaPoGood
namespace Go.Proofs.Ytojplmjoipjabaa.Po
open Go.RowKit Nt
set_option linter.unusedVariables false
set_option linter.unusedSimpArgs false

set_option maxRecDepth 100000 in
set_option maxHeartbeats 4000000 in
theorem l1Rising_any (A : Option Addr) (n c m : Nat) (is : List Int) (B : Nat) (w : World) (hn : is.length = n) (h : IntsB w B A is) (hl : n ≤ 1048576) (hm : m ≤ 1048576) :
    Calls Try.prog 119 #[.slice A n c, .int .i64 0, .int .i64 ((m : Int) - 1)] w fun e w' => e = .returned (.bool (risB m (-1) is)) ∧ w = w' := by
  have hge := Nat.le_of_eq hn
  have hle := Nat.le_of_eq hn.symm
  have HS := Lib.hid h
  obtain ⟨r, hr⟩ : ∃ r, r = risB m (-1) is := ⟨_, rfl⟩
  have HR0 := Lib.hid (show r = risB m (-1) (is.drop 0) from hr)
  rw [← hr]
  obtain ⟨M, hM⟩ : ∃ M : Int, M = (m : Int) - 1 := ⟨_, rfl⟩
  have HIN := Lib.hid (fun x W => l1In_any x 0 M W)
  rw [← hM]
  have HM := Lib.hid hM
  clear hn h hr hM
  go_enter Try.func119, Try.ntmps119
  go_wp2_with fail
  go_loopw [11] (fun j wr => ∃ (k : Nat) (y : Int), k ≤ n ∧ j = .int .i64 k ∧ Hid (k = 0 ∧ y = -1 ∨ 0 ≤ y ∧ ∃ q, ∃ h : q < is.length, k = q + 1 ∧ is[q] = y) ∧ Hid (r = risB m y (is.drop k)) ∧ wr = w) (fun j _ => n - (intOf j).toNat)
  case atStart => exact ⟨0, -1, by omega, rfl, .inl ⟨rfl, rfl⟩, HR0, rfl⟩
  case round =>
    clear HR0
    obtain ⟨k, y, hk, rfl, HK, HR, rfl⟩ := hrel
    by_cases hlt : k < n
    · obtain ⟨b, off, rfl, hbB, hc⟩ := HS.out.get (by omega)
      have c0 := hc k (by omega)
      have HRS := Lib.hid (HR.out.trans (risB_step (show k < is.length by omega)))
      have HZ := Lib.hid (show ∃ h : k < is.length, is[k] = is[k]'(by omega) from ⟨by omega, rfl⟩)
      obtain ⟨z, hz⟩ : ∃ z, z = is[k]'(by omega) := ⟨_, rfl⟩
      rw [← hz] at c0 HRS
      have HZ2 := Lib.hid hz
      have hk0 : (0 : Int) ≤ (k : Int) := by omega
      have hkn : (k : Int) < (n : Int) := by omega
      have HC := Lib.hid (fun W => HIN.out z W)
      rcases HK.out with ⟨hk1, hy⟩ | ⟨hy0, q, hq, hk1, hy⟩
      · subst hy
        have hkz : ¬ (0 : Int) < (k : Int) := by omega
        clear hc hz HR HZ HK hk1
        cases g1 : inB z 0 M with
        | false =>
          have HNO := Lib.hid (ret_bool (show false = r by
            rw [HRS.out]
            by_cases a : -1 < z
            · rw [decide_eq_true a, decide_eq_false (fun b => by rw [inB_mk (by have := HM.out; omega)] at g1; cases g1)]; rfl
            · rw [decide_eq_false a]; rfl))
          rw [g1] at HC
          clear HRS g1
          go_wp2_with fail
          refine (HC.out _).mono ?_
          rintro e w4 ⟨rfl, rfl⟩
          go_wp2
          go_ret
          exact ⟨HNO.out, rfl⟩
        | true =>
          have hb := inB_true g1
          have HR2 := Lib.hid (show r = risB m z (is.drop (k + 1)) by
            rw [HRS.out, decide_eq_true (by omega), decide_eq_true (by have := HM.out; omega)]; rfl)
          rw [g1] at HC
          have HK2 := Lib.hid (show (k + 1 = 0 ∧ z = -1) ∨ 0 ≤ z ∧ ∃ q, ∃ h : q < is.length, k + 1 = q + 1 ∧ is[q] = z from .inr ⟨hb.1, k, by omega, rfl, HZ2.out.symm⟩)
          clear HRS g1 hb
          go_wp2_with fail
          refine (HC.out _).mono ?_
          rintro e w4 ⟨rfl, rfl⟩
          go_wp2
          go_roundw
          case rel => exact ⟨k + 1, z, by omega, by go_num, HK2, HR2, by trivial⟩
          case measure => simp [intOf]; omega
      · have c1 := hc q hq
        rw [hy] at c1
        have e1 : (k : Int) - 1 = (q : Int) := by omega
        have hq0 : (0 : Int) ≤ (q : Int) := by omega
        have hqn : (q : Int) < (n : Int) := by omega
        have hkp : (0 : Int) < (k : Int) := by omega
        clear hc hz HR HZ HK hy hk1
        cases g1 : inB z 0 M with
        | false =>
          have HNO := Lib.hid (ret_bool (show false = r by
            rw [HRS.out]
            by_cases a : y < z
            · rw [decide_eq_true a, decide_eq_false (fun b => by rw [inB_mk (by have := HM.out; omega)] at g1; cases g1)]; rfl
            · rw [decide_eq_false a]; rfl))
          rw [g1] at HC
          clear HRS g1
          go_wp2_with fail
          refine (HC.out _).mono ?_
          rintro e w4 ⟨rfl, rfl⟩
          go_wp2
          go_ret
          exact ⟨HNO.out, rfl⟩
        | true =>
          have hb := inB_true g1
          rw [g1] at HC
          by_cases a : y < z
          · have HR2 := Lib.hid (show r = risB m z (is.drop (k + 1)) by
              rw [HRS.out, decide_eq_true a, decide_eq_true (by have := HM.out; omega)]; rfl)
            have HK2 := Lib.hid (show (k + 1 = 0 ∧ z = -1) ∨ 0 ≤ z ∧ ∃ q, ∃ h : q < is.length, k + 1 = q + 1 ∧ is[q] = z from .inr ⟨hb.1, k, by omega, rfl, HZ2.out.symm⟩)
            have a2 : ¬ z ≤ y := by omega
            clear HRS g1 hb
            go_wp2_with fail
            refine (HC.out _).mono ?_
            rintro e w4 ⟨rfl, rfl⟩
            go_wp2
            go_roundw
            case rel => exact ⟨k + 1, z, by omega, by go_num, HK2, HR2, by trivial⟩
            case measure => simp [intOf]; omega
          · have HNO := Lib.hid (ret_bool (show false = r by rw [HRS.out, decide_eq_false a]; rfl))
            have a2 : z ≤ y := by omega
            clear HRS g1 hb
            go_wp2_with fail
            refine (HC.out _).mono ?_
            rintro e w4 ⟨rfl, rfl⟩
            go_wp2
            go_ret
            exact ⟨HNO.out, rfl⟩
    · have HYES := Lib.hid (ret_bool (show true = r by rw [HR.out, risB_end (by omega)]))
      clear HR HK
      go_wp2
      go_ret
      exact ⟨HYES.out, rfl⟩

set_option maxRecDepth 100000 in
set_option maxHeartbeats 8000000 in
theorem l8Voter_any (x : Bool × Int × Int × Bool) (A : Option Addr) (n c i m : Nat) (is : List Int) (B : Nat) (w : World) (hn : is.length = n) (h : IntsB w B A is) (hB : B ≤ w.heap.size) (hl : n ≤ 1048576) (hm : m ≤ 1048576) (hi : i ≤ 1048576) :
    Calls Try.prog 92 #[.agg #[.bool x.1, .int .i64 x.2.1, .int .i64 x.2.2.1, .slice A n c, .bool x.2.2.2], .int .i64 (i : Int), .int .i64 (m : Int)] w fun e w' => e = .returned (.bool (voteB m i (x, is))) ∧ Below w.heap.size w w' := by
  obtain ⟨x0, x1, x2, x3⟩ := x
  have hb0 := below1 w (.cells #[.bool x0, .int .i64 x1, .int .i64 x2, .slice A n c, .bool x3] 81)
  have HRI := Lib.hid (l1Rising_any A n c m is B _ hn (h.below (hb0.mono hB)) hl hm)
  have HT := Lib.hid (fun W => l1In_any x1 0 200 W)
  have HF := Lib.hid (fun W => l1In_any x2 (-1) ((m : Int) - 1) W)
  obtain ⟨res, hres⟩ : ∃ res, res = voteB m i ((x0, x1, x2, x3), is) := ⟨_, rfl⟩
  rw [← hres]
  unfold voteB at hres
  simp only [hn] at hres
  obtain ⟨M, hM⟩ : ∃ M : Int, M = (m : Int) - 1 := ⟨_, rfl⟩
  rw [← hM] at HRI HF hres
  obtain ⟨r, hr⟩ : ∃ r, r = risB m (-1) is := ⟨_, rfl⟩
  rw [← hr] at HRI hres
  obtain ⟨q, hq⟩ : ∃ q, q = ownV i (x0, x1, x2, x3) := ⟨_, rfl⟩
  rw [← hq] at hres
  have HQ := Lib.hid (show q = (x0 && decide (x2 = (i : Int))) from hq)
  obtain ⟨g1, hg1⟩ : ∃ g, g = inB x1 0 200 := ⟨_, rfl⟩
  obtain ⟨g2, hg2⟩ : ∃ g, g = inB x2 (-1) M := ⟨_, rfl⟩
  rw [← hg1] at HT hres
  rw [← hg2] at HF hres
  have HRES := Lib.hid hres
  have hmw : IntKind.i64.wrap ((m : Int) - 1) = M := by rw [hM, IntKind.wrap_i64]; omega
  have hmw2 : (m : Int) - 1 = M := hM.symm
  clear hres hq hr hn h hM hg1 hg2
  cases x0 with
  | false =>
    have hqf : q = false := HQ.out
    subst hqf
    go_enter Try.func92, Try.ntmps92
    go_wp2_with fail
    refine (HT.out _).mono ?_
    rintro e w1 ⟨rfl, rfl⟩
    cases g1 with
    | false =>
      have HX := Lib.hid (ret_bool (show false = res by rw [HRES.out]; simp))
      go_wp2
      go_ret
      exact ⟨HX.out, hb0⟩
    | true =>
      go_wp2_with fail
      refine (HF.out _).mono ?_
      rintro e w1 ⟨rfl, rfl⟩
      cases g2 with
      | false =>
        have HX := Lib.hid (ret_bool (show false = res by rw [HRES.out]; simp))
        go_wp2
        go_ret
        exact ⟨HX.out, hb0⟩
      | true =>
        go_wp2_with fail
        refine (HRI.out).mono ?_
        rintro e w1 ⟨rfl, rfl⟩
        cases r with
        | false =>
          have HX := Lib.hid (ret_bool (show false = res by rw [HRES.out]; simp))
          go_wp2
          go_ret
          exact ⟨HX.out, hb0⟩
        | true =>
          by_cases hn0 : n = 0
          · have hn1 : ¬ (0 : Int) < (n : Int) := by omega
            cases x3 with
            | false =>
              have HX := Lib.hid (ret_bool (show true = res by rw [HRES.out, decide_eq_true hn0]; simp))
              clear hn0
              go_wp2
              go_ret
              exact ⟨HX.out, hb0⟩
            | true =>
              have HX := Lib.hid (ret_bool (show false = res by rw [HRES.out]; simp))
              clear hn0
              go_wp2
              go_ret
              exact ⟨HX.out, hb0⟩
          · have hn1 : (0 : Int) < (n : Int) := by omega
            have HX := Lib.hid (ret_bool (show false = res by rw [HRES.out, decide_eq_false hn0]; simp))
            clear hn0
            go_wp2
            go_ret
            exact ⟨HX.out, hb0⟩
  | true =>
    by_cases hf : x2 = (i : Int)
    · have hqf : q = true := by rw [HQ.out, decide_eq_true hf]; rfl
      subst hqf
      subst hf
      go_enter Try.func92, Try.ntmps92
      go_wp2_with fail
      refine (HT.out _).mono ?_
      rintro e w1 ⟨rfl, rfl⟩
      cases g1 with
      | false =>
        have HX := Lib.hid (ret_bool (show false = res by rw [HRES.out]; simp))
        go_wp2
        go_ret
        exact ⟨HX.out, hb0⟩
      | true =>
        go_wp2_with fail
        refine (HF.out _).mono ?_
        rintro e w1 ⟨rfl, rfl⟩
        cases g2 with
        | false =>
          have HX := Lib.hid (ret_bool (show false = res by rw [HRES.out]; simp))
          go_wp2
          go_ret
          exact ⟨HX.out, hb0⟩
        | true =>
          go_wp2_with fail
          refine (HRI.out).mono ?_
          rintro e w1 ⟨rfl, rfl⟩
          cases r with
          | false =>
            have HX := Lib.hid (ret_bool (show false = res by rw [HRES.out]; simp))
            go_wp2
            go_ret
            exact ⟨HX.out, hb0⟩
          | true =>
            cases x3 with
            | false =>
              have HX := Lib.hid (ret_bool (show true = res by rw [HRES.out]; simp))
              go_wp2
              go_ret
              exact ⟨HX.out, hb0⟩
            | true =>
              by_cases hmj : m < 2 * n
              · have hmj1 : (m : Int) < 2 * (n : Int) := by omega
                have HX := Lib.hid (ret_bool (show true = res by rw [HRES.out, decide_eq_true hmj]; simp))
                go_wp2
                go_ret
                exact ⟨HX.out, hb0⟩
              · have hmj1 : ¬ (m : Int) < 2 * (n : Int) := by omega
                have hmj2 : decide ((m : Int) < 2 * (n : Int)) = false := decide_eq_false hmj1
                have HX := Lib.hid (ret_bool (show false = res by rw [HRES.out, decide_eq_false hmj]; simp))
                go_wp2
                go_ret
                exact ⟨HX.out, hb0⟩
    · have hqf : q = false := by rw [HQ.out, decide_eq_false hf]; rfl
      subst hqf
      have hfb : (x2 == (i : Int)) = false := beq_eq_false_iff_ne.2 hf
      go_enter Try.func92, Try.ntmps92
      go_wp2_with fail
      refine (HT.out _).mono ?_
      rintro e w1 ⟨rfl, rfl⟩
      cases g1 with
      | false =>
        have HX := Lib.hid (ret_bool (show false = res by rw [HRES.out]; simp))
        go_wp2
        go_ret
        exact ⟨HX.out, hb0⟩
      | true =>
        go_wp2_with fail
        refine (HF.out _).mono ?_
        rintro e w1 ⟨rfl, rfl⟩
        cases g2 with
        | false =>
          have HX := Lib.hid (ret_bool (show false = res by rw [HRES.out]; simp))
          go_wp2
          go_ret
          exact ⟨HX.out, hb0⟩
        | true =>
          go_wp2_with fail
          refine (HRI.out).mono ?_
          rintro e w1 ⟨rfl, rfl⟩
          cases r with
          | false =>
            have HX := Lib.hid (ret_bool (show false = res by rw [HRES.out]; simp))
            go_wp2
            go_ret
            exact ⟨HX.out, hb0⟩
          | true =>
            by_cases hn0 : n = 0
            · have hn1 : ¬ (0 : Int) < (n : Int) := by omega
              cases x3 with
              | false =>
                have HX := Lib.hid (ret_bool (show true = res by rw [HRES.out, decide_eq_true hn0]; simp))
                clear hn0
                go_wp2
                go_ret
                exact ⟨HX.out, hb0⟩
              | true =>
                have HX := Lib.hid (ret_bool (show false = res by rw [HRES.out]; simp))
                clear hn0
                go_wp2
                go_ret
                exact ⟨HX.out, hb0⟩
            · have hn1 : (0 : Int) < (n : Int) := by omega
              have HX := Lib.hid (ret_bool (show false = res by rw [HRES.out, decide_eq_false hn0]; simp))
              clear hn0
              go_wp2
              go_ret
              exact ⟨HX.out, hb0⟩
end Go.Proofs.Ytojplmjoipjabaa.Po
