/-
  Contracts for the program's checks of a poll: isSize, isTerm, isMajority, goodVote, goodYes, goodVoters, goodWon, GoodPoll.
-/
import Derived.Test.YtojplmjoipjabaaPoM
import Derived.Test.YtojplmjoipjabaaPoMem
import Derived.Test.YtojplmjoipjabaaNtGood3
import Derived.Test.YtojplmjoipjabaaNtF0
namespace Go.Proofs.Ytojplmjoipjabaa.Po
open Go.RowKit Nt
set_option linter.unusedVariables false
set_option linter.unusedSimpArgs false

/-- A poll that reads as data. -/
def PollB (w : World) (B : Nat) (A : Option Addr) (n : Nat) (hs : List ((Bool × Int × Int × Bool) × Option Addr × Nat × List Int)) (A1 : Option Addr) (n1 : Nat) (is : List Int) (A2 : Option Addr) (n2 : Nat) (ls : List (Int × Int × Int × ByteArray)) (A3 : Option Addr) (n3 : Nat) (ws : List (Int × Int)) : Prop :=
  hs.length = n ∧ is.length = n1 ∧ ls.length = n2 ∧ ws.length = n3 ∧ VotB w B A hs ∧ IntsB w B A1 is ∧ LetsB w B A2 ls ∧ WonB w B A3 ws
def PollS (hs : List ((Bool × Int × Int × Bool) × Option Addr × Nat × List Int)) (is : List Int) (ls : List (Int × Int × Int × ByteArray)) (ws : List (Int × Int)) : Prop := VtSmall hs ∧ is.length ≤ 1048576 ∧ LSmall ls ∧ ws.length ≤ 1048576
section
variable {w w' : World} {B B' n n1 n2 n3 : Nat} {A A1 A2 A3 : Option Addr} {hs : List ((Bool × Int × Int × Bool) × Option Addr × Nat × List Int)} {is : List Int} {ls : List (Int × Int × Int × ByteArray)} {ws : List (Int × Int)}
theorem PollB.below (h : PollB w B A n hs A1 n1 is A2 n2 ls A3 n3 ws) (hb : Below B w w') : PollB w' B A n hs A1 n1 is A2 n2 ls A3 n3 ws :=
  ⟨h.1, h.2.1, h.2.2.1, h.2.2.2.1, h.2.2.2.2.1.below hb, h.2.2.2.2.2.1.below hb, h.2.2.2.2.2.2.1.below hb, h.2.2.2.2.2.2.2.below hb⟩
theorem PollB.mono (h : PollB w B A n hs A1 n1 is A2 n2 ls A3 n3 ws) (hB : B ≤ B') : PollB w B' A n hs A1 n1 is A2 n2 ls A3 n3 ws :=
  ⟨h.1, h.2.1, h.2.2.1, h.2.2.2.1, h.2.2.2.2.1.mono hB, h.2.2.2.2.2.1.mono hB, h.2.2.2.2.2.2.1.mono hB, h.2.2.2.2.2.2.2.mono hB⟩
end

theorem isSize_any (n : Nat) (w : World) (hn : n ≤ 1048576) :
    Calls Try.prog 52 #[.int .i64 (n : Int)] w fun e w' => e = .returned (.bool (sizeB n)) ∧ w = w' := by
  by_cases h3 : n = 3
  · subst h3
    go_enter Try.func52, Try.ntmps52
    go_wp2
    go_ret
    exact ⟨rfl, rfl⟩
  · have k3 : ¬ (n : Int) = 3 := by omega
    have HR := Lib.hid (ret_bool (show ((n : Int) == 3 || (n : Int) == 5) = sizeB n by
      unfold sizeB
      rw [Bool.eq_iff_iff]
      simp only [Bool.or_eq_true, beq_iff_eq, decide_eq_true_eq]
      omega))
    go_enter Try.func52, Try.ntmps52
    go_wp2
    go_ret
    exact ⟨HR.out, rfl⟩
theorem isTerm_any (t : Int) (w : World) :
    Calls Try.prog 99 #[.int .i64 t] w fun e w' => e = .returned (.bool (inB t 1 200)) ∧ w = w' := by
  by_cases h1 : 1 ≤ t
  · by_cases h2 : t ≤ 200
    · rw [inB_mk ⟨h1, h2⟩]
      go_enter Try.func99, Try.ntmps99
      go_wp2
      go_ret
      exact ⟨rfl, rfl⟩
    · rw [inB_not (by omega)]
      go_enter Try.func99, Try.ntmps99
      go_wp2
      go_ret
      exact ⟨rfl, rfl⟩
  · rw [inB_not (by omega)]
    go_enter Try.func99, Try.ntmps99
    go_wp2
    go_ret
    exact ⟨rfl, rfl⟩
theorem isMajority_any (a b : Nat) (w : World) (ha : a ≤ 1048576) (hb : b ≤ 1048576) :
    Calls Try.prog 121 #[.int .i64 (a : Int), .int .i64 (b : Int)] w fun e w' => e = .returned (.bool (decide (b < 2 * a))) ∧ w = w' := by
  by_cases h : b < 2 * a
  · rw [decide_eq_true h]
    have h1 : (b : Int) < 2 * (a : Int) := by omega
    go_enter Try.func121, Try.ntmps121
    go_wp2
    go_ret
    exact ⟨rfl, rfl⟩
  · rw [decide_eq_false h]
    have h1 : ¬ (b : Int) < 2 * (a : Int) := by omega
    have h2 : decide ((b : Int) < 2 * (a : Int)) = false := decide_eq_false h1
    go_enter Try.func121, Try.ntmps121
    go_wp2
    go_ret
    exact ⟨rfl, rfl⟩

set_option maxHeartbeats 2000000 in
theorem goodVote_any (x : Bool × Int × Int × Bool) (A : Option Addr) (n c m : Nat) (w : World) (hm : m ≤ 1048576) :
    Calls Try.prog 97 #[.agg #[.bool x.1, .int .i64 x.2.1, .int .i64 x.2.2.1, .slice A n c, .bool x.2.2.2], .int .i64 (m : Int)] w fun e w' => e = .returned (.bool (inB x.2.1 0 200 && inB x.2.2.1 (-1) ((m : Int) - 1))) ∧ Below w.heap.size w w' := by
  obtain ⟨x0, x1, x2, x3⟩ := x
  simp only
  have HT := Lib.hid (fun W => isTerm_any x1 W)
  have hb0 := below1 w (.cells #[.bool x0, .int .i64 x1, .int .i64 x2, .slice A n c, .bool x3] 81)
  have e01 : inB x1 0 200 = (decide (x1 = 0) || inB x1 1 200) := by
    unfold inB; rw [Bool.eq_iff_iff]; simp only [Bool.and_eq_true, Bool.or_eq_true, decide_eq_true_eq]; omega
  rw [e01]
  have key : ∀ b : Bool, (decide (x1 = 0) || inB x1 1 200) = b → Calls Try.prog 97 #[.agg #[.bool x0, .int .i64 x1, .int .i64 x2, .slice A n c, .bool x3], .int .i64 (m : Int)] w fun e w' => e = .returned (.bool (b && inB x2 (-1) ((m : Int) - 1))) ∧ Below w.heap.size w w' := by
    intro b hb
    cases b with
    | false =>
      simp only [Bool.or_eq_false_iff, decide_eq_false_iff_not] at hb
      obtain ⟨hb1, hb2⟩ := hb
      rw [hb2] at HT
      rw [Bool.false_and]
      have hb3 : decide (x1 = 0) = false := decide_eq_false hb1
      clear e01 hb2
      go_enter Try.func97, Try.ntmps97
      go_wp2_with fail
      refine (HT.out _).mono ?_
      rintro e w1 ⟨rfl, rfl⟩
      go_wp2
      go_ret
      exact ⟨rfl, hb0⟩
    | true =>
      rw [Bool.true_and]
      have hend : ∀ (q : Bool), inB x2 (-1) ((m : Int) - 1) = q → (q = true ∧ -1 ≤ x2 ∧ x2 < (m : Int)) ∨ (q = false ∧ ¬ -1 ≤ x2) ∨ (q = false ∧ -1 ≤ x2 ∧ ¬ x2 < (m : Int)) := by
        intro q hq
        cases q with
        | true => have := inB_true hq; left; exact ⟨rfl, by omega, by omega⟩
        | false =>
          right
          by_cases h1 : -1 ≤ x2
          · right; refine ⟨rfl, h1, fun h2 => ?_⟩
            rw [inB_mk (by omega)] at hq; cases hq
          · left; exact ⟨rfl, h1⟩
      obtain ⟨q, hq⟩ : ∃ q, q = inB x2 (-1) ((m : Int) - 1) := ⟨_, rfl⟩
      have hq3 := hend q hq.symm
      rw [← hq]
      clear hend hq e01
      by_cases h0 : x1 = 0
      · subst h0
        rcases hq3 with ⟨rfl, g1, g2⟩ | ⟨rfl, g1⟩ | ⟨rfl, g1, g2⟩
        all_goals
          go_enter Try.func97, Try.ntmps97
          go_wp2
          go_ret
          first | exact ⟨rfl, hb0⟩ | exact ⟨ret_bool (decide_eq_false (by omega)), hb0⟩
      · have hb1 : inB x1 1 200 = true := by simpa [h0] using hb
        rw [hb1] at HT
        have hb3 : decide (x1 = 0) = false := decide_eq_false h0
        clear hb hb1
        rcases hq3 with ⟨rfl, g1, g2⟩ | ⟨rfl, g1⟩ | ⟨rfl, g1, g2⟩
        all_goals
          go_enter Try.func97, Try.ntmps97
          go_wp2_with fail
          refine (HT.out _).mono ?_
          rintro e w1 ⟨rfl, rfl⟩
          go_wp2
          go_ret
          first | exact ⟨rfl, hb0⟩ | exact ⟨ret_bool (decide_eq_false (by omega)), hb0⟩
  exact key _ rfl

/-- The second half of a valid voter. -/
def yesB (m i : Nat) (x : Bool × Int × Int × Bool) (is : List Int) : Bool := risB m (-1) is && ((decide (is.length = 0) || ownV i x) && (!x.2.2.2 || ownV i x && decide (m < 2 * is.length)))
set_option maxRecDepth 100000 in
set_option maxHeartbeats 4000000 in
theorem goodYes_any (x : Bool × Int × Int × Bool) (A : Option Addr) (n c i m : Nat) (is : List Int) (B : Nat) (w : World) (hn : is.length = n) (h : IntsB w B A is) (hB : B ≤ w.heap.size) (hl : n ≤ 1048576) (hm : m ≤ 1048576) (hi : i ≤ 1048576) :
    Calls Try.prog 98 #[.agg #[.bool x.1, .int .i64 x.2.1, .int .i64 x.2.2.1, .slice A n c, .bool x.2.2.2], .int .i64 (i : Int), .int .i64 (m : Int)] w fun e w' => e = .returned (.bool (yesB m i x is)) ∧ Below w.heap.size w w' := by
  obtain ⟨x0, x1, x2, x3⟩ := x
  unfold yesB
  simp only [hn]
  have hb0 := below1 w (.cells #[.bool x0, .int .i64 x1, .int .i64 x2, .slice A n c, .bool x3] 81)
  have hk0 := heap_alloc_new w (.cells #[.bool x0, .int .i64 x1, .int .i64 x2, .slice A n c, .bool x3] 81)
  have HM := Lib.hid (fun W => isMajority_any n m W hl hm)
  have HS := Lib.hid (h.below (hb0.mono hB))
  obtain ⟨r, hr⟩ : ∃ r, r = risB m (-1) is := ⟨_, rfl⟩
  have HR0 := Lib.hid (show r = risB m (-1) (is.drop 0) from hr)
  rw [← hr]
  obtain ⟨res, hres⟩ : ∃ res, res = (r && ((decide (n = 0) || ownV i (x0, x1, x2, x3)) && (!x3 || ownV i (x0, x1, x2, x3) && decide (m < 2 * n)))) := ⟨_, rfl⟩
  rw [← hres]
  have HRES := Lib.hid hres
  clear hres
  have hge := Nat.le_of_eq hn
  have hle := Nat.le_of_eq hn.symm
  clear hn h hr
  go_enter Try.func98, Try.ntmps98
  go_wp2_with fail
  obtain ⟨W0, hW0⟩ : ∃ W0, W0 = w.alloc (.cells #[.bool x0, .int .i64 x1, .int .i64 x2, .slice A n c, .bool x3] 81) := ⟨_, rfl⟩
  rw [← hW0] at hb0 hk0 HS ⊢
  have k0 := cell_of_row _ _ 0 _ 81 (0, 0) hk0
  have k2 := cell_of_row _ _ 2 _ 81 (0, 0) hk0
  have k3 := cell_of_row _ _ 3 _ 81 (0, 0) hk0
  have k4 := cell_of_row _ _ 4 _ 81 (0, 0) hk0
  have HB0 := Lib.hid hb0
  clear hW0 hk0 hb0
  go_loopw [7, 14] (fun b j wr => ∃ (k : Nat) (y : Int), k ≤ n ∧ j = .int .i64 k ∧ b = .int .i64 y ∧ Hid (r = risB m y (is.drop k)) ∧ wr = W0) (fun _ j _ => n - (intOf j).toNat)
  case atStart => exact ⟨0, -1, by omega, rfl, rfl, HR0, rfl⟩
  case round =>
    clear HR0
    obtain ⟨k, y, hk, rfl, rfl, HR, rfl⟩ := hrel
    by_cases hlt : k < n
    · obtain ⟨b, off, rfl, hbB, hc⟩ := HS.out.get (by omega)
      have c0 := hc k (by omega)
      have HRS := Lib.hid (HR.out.trans (risB_step (show k < is.length by omega)))
      obtain ⟨z, hz⟩ : ∃ z, z = is[k]'(by omega) := ⟨_, rfl⟩
      rw [← hz] at c0 HRS
      have hk0 : (0 : Int) ≤ (k : Int) := by omega
      have hkn : (k : Int) < (n : Int) := by omega
      clear hc hz HR
      by_cases g1 : y < z
      · by_cases g2 : z < (m : Int)
        · have HR2 := Lib.hid (show r = risB m z (is.drop (k + 1)) by rw [HRS.out, decide_eq_true g1, decide_eq_true g2]; rfl)
          have e1 : ¬ z ≤ y := by omega
          have e2 : ¬ (m : Int) ≤ z := by omega
          clear HRS
          go_wp2
          go_roundw
          case rel => exact ⟨k + 1, z, by omega, by go_num, rfl, HR2, by trivial⟩
          case measure => simp [intOf]; omega
        · have HNO := Lib.hid (ret_bool (show false = res by rw [HRES.out, HRS.out, decide_eq_true g1, decide_eq_false g2]; rfl))
          have e1 : ¬ z ≤ y := by omega
          have e2 : (m : Int) ≤ z := by omega
          clear HRS
          go_wp2
          go_ret
          exact ⟨HNO.out, HB0.out⟩
      · have HNO := Lib.hid (ret_bool (show false = res by rw [HRES.out, HRS.out, decide_eq_false g1]; rfl))
        have e1 : z ≤ y := by omega
        clear HRS
        go_wp2
        go_ret
        exact ⟨HNO.out, HB0.out⟩
    · have hrt : r = true := HR.out.trans (risB_end (by omega))
      subst hrt
      clear HR
      by_cases hn0 : n = 0
      · subst hn0
        cases x3 with
        | false =>
          have HX := Lib.hid (ret_bool (show true = res by rw [HRES.out]; simp))
          cases x0 with
          | false =>
            go_wp2
            go_ret
            exact ⟨HX.out, HB0.out⟩
          | true =>
            go_wp2
            go_ret
            exact ⟨HX.out, HB0.out⟩
        | true =>
          have HX := Lib.hid (ret_bool (show false = res by rw [HRES.out]; simp))
          cases x0 with
          | false =>
            go_wp2
            go_ret
            exact ⟨HX.out, HB0.out⟩
          | true =>
            by_cases hf : x2 = (i : Int)
            · subst hf
              have hmj : decide (m < 2 * 0) = false := decide_eq_false (by omega)
              rw [hmj] at HM
              go_wp2_with fail
              refine (HM.out _).mono ?_
              rintro e w1 ⟨rfl, rfl⟩
              go_wp2
              go_ret
              exact ⟨HX.out, HB0.out⟩
            · go_wp2
              go_ret
              exact ⟨HX.out, HB0.out⟩
      · have hn0' : ¬ (n : Int) = 0 := by omega
        cases x0 with
        | false =>
          have HX := Lib.hid (ret_bool (show false = res by rw [HRES.out]; simp [ownV, hn0]))
          go_wp2
          go_ret
          exact ⟨HX.out, HB0.out⟩
        | true =>
          by_cases hf : x2 = (i : Int)
          · subst hf
            cases x3 with
            | false =>
              have HX := Lib.hid (ret_bool (show true = res by rw [HRES.out]; simp [ownV]))
              go_wp2
              go_ret
              exact ⟨HX.out, HB0.out⟩
            | true =>
              have HX := Lib.hid (ret_bool (show decide (m < 2 * n) = res by rw [HRES.out]; simp [ownV]))
              go_wp2_with fail
              refine (HM.out _).mono ?_
              rintro e w1 ⟨rfl, rfl⟩
              go_wp2
              go_ret
              exact ⟨HX.out, HB0.out⟩
          · have HX := Lib.hid (ret_bool (show false = res by rw [HRES.out]; simp [ownV, hn0, hf]))
            go_wp2
            go_ret
            exact ⟨HX.out, HB0.out⟩
end Go.Proofs.Ytojplmjoipjabaa.Po
