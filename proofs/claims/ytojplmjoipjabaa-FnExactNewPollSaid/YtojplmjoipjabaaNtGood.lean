/-
  Contracts for the checks of a net: the model's l1All, l7Node, l7Good, GoodNet; the program's isTrueTime, isNode, goodHomes, goodLetter, goodUnder, GoodNet.
-/
import Derived.Test.YtojplmjoipjabaaNtMem
namespace Go.Proofs.Ytojplmjoipjabaa.Nt
open Go.RowKit
set_option linter.unusedVariables false
set_option linter.unusedSimpArgs false

theorem isTrueTime_any (n : Int) (w : World) :
    Calls Try.prog 86 #[.int .i64 n] w fun e w' => e = .returned (.bool (inB n 0 100000)) ∧ w = w' := by
  by_cases h1 : 0 ≤ n
  · by_cases h2 : n ≤ 100000
    · rw [inB_mk ⟨h1, h2⟩]
      go_enter Try.func86, Try.ntmps86
      go_wp2
      go_ret
      exact ⟨rfl, rfl⟩
    · rw [inB_not (by omega)]
      go_enter Try.func86, Try.ntmps86
      go_wp2
      go_ret
      exact ⟨rfl, rfl⟩
  · rw [inB_not (by omega)]
    go_enter Try.func86, Try.ntmps86
    go_wp2
    go_ret
    exact ⟨rfl, rfl⟩
set_option maxHeartbeats 400000 in
theorem isNode_any (now far : Int) (A A' : Option Addr) (n c n' c' : Nat) (a : Int) (w : World) :
    Calls Try.prog 76 #[.agg #[.int .i64 now, .slice A n c, .int .i64 far, .slice A' n' c'], .int .i64 a] w fun e w' => e = .returned (.bool (nodeB n a)) ∧ Below w.heap.size w w' := by
  by_cases h1 : 0 ≤ a
  · by_cases h2 : a < (n : Int)
    · rw [nodeB_mk ⟨h1, h2⟩]
      go_enter Try.func76, Try.ntmps76
      go_wp2
      go_ret
      exact ⟨rfl, below1 _ _⟩
    · rw [nodeB_not (by omega)]
      have h3 : decide (a < (n : Int)) = false := by simp; omega
      clear h2
      go_enter Try.func76, Try.ntmps76
      go_wp2
      go_ret
      exact ⟨rfl, below1 _ _⟩
  · rw [nodeB_not (by omega)]
    go_enter Try.func76, Try.ntmps76
    go_wp2
    go_ret
    exact ⟨rfl, below1 _ _⟩
theorem inB_node (n : Nat) (a : Int) : inB a 0 ((n : Int) - 1) = nodeB n a := by
  unfold inB nodeB
  congr 1
  rw [decide_eq_decide]
  omega
set_option maxHeartbeats 400000 in
theorem l7Node_any (now far : Int) (A A' : Option Addr) (n c n' c' : Nat) (a : Int) (w : World) (hn : n ≤ 1048576) :
    Calls Try.prog 77 #[.agg #[.int .i64 now, .slice A n c, .int .i64 far, .slice A' n' c'], .int .i64 a] w fun e w' => e = .returned (.bool (nodeB n a)) ∧ Below w.heap.size w w' := by
  have HI := Lib.hid (fun W => l1In_any a 0 ((n : Int) - 1) W)
  rw [inB_node] at HI
  have hn0 : (n : Int) ≤ 1048576 := by omega
  go_enter Try.func77, Try.ntmps77
  go_wp2_with fail
  refine (HI.out _).mono ?_
  rintro e w1 ⟨rfl, rfl⟩
  go_wp2
  go_ret
  exact ⟨rfl, below1 _ _⟩

/-- What a loop over homes keeps. -/
theorem all_step {is : List Int} {k : Nat} (hk : k < is.length) : (is.drop k).all (fun h => inB h 0 2) = (inB is[k] 0 2 && (is.drop (k + 1)).all fun h => inB h 0 2) := by
  rw [List.drop_eq_getElem_cons hk, List.all_cons]

set_option maxRecDepth 100000 in
set_option maxHeartbeats 1000000 in
theorem l1All_any (A : Option Addr) (n c : Nat) (is : List Int) (B : Nat) (w : World) (hn : is.length = n) (h : IntsB w B A is) (hl : n ≤ 1048576) :
    Calls Try.prog 112 #[.slice A n c, .int .i64 0, .int .i64 2] w fun e w' => e = .returned (.bool (is.all fun h => inB h 0 2)) ∧ w = w' := by
  have HN := Lib.hid hn
  have hge := Nat.le_of_eq hn
  have hle := Nat.le_of_eq hn.symm
  have HS := Lib.hid h
  obtain ⟨r, hr⟩ : ∃ r, r = is.all fun h => inB h 0 2 := ⟨_, rfl⟩
  have HR := Lib.hid (show r = (is.drop 0).all fun h => inB h 0 2 from hr)
  rw [← hr]
  clear hn h hr
  go_enter Try.func112, Try.ntmps112
  go_wp2
  go_loopw [8, 11] (fun v i wr => ∃ k : Nat, k ≤ n ∧ i = .int .i64 k ∧ Hid (r = (is.drop k).all fun h => inB h 0 2) ∧ w = wr) (fun _ i _ => n - (intOf i).toNat)
  case atStart => exact ⟨0, by omega, rfl, HR, rfl⟩
  case round =>
    clear HR
    obtain ⟨k, hk, rfl, HR, rfl⟩ := hrel
    by_cases hlt : k < n
    · obtain ⟨b, off, rfl, hbB, hc⟩ := HS.out.get (by omega)
      have c0 := hc k (by omega)
      have HRS := Lib.hid (HR.out.trans (all_step (show k < is.length by omega)))
      obtain ⟨y, hy⟩ : ∃ y, y = is[k]'(by omega) := ⟨_, rfl⟩
      rw [← hy] at c0 HRS
      have hk0 : (0 : Int) ≤ (k : Int) := by omega
      have hkn : (k : Int) < (n : Int) := by omega
      have HC := Lib.hid (fun W => l1In_any y 0 2 W)
      clear hc hy HR
      cases h1 : inB y 0 2 with
      | false =>
        have HNO := Lib.hid (ret_bool (show false = r by rw [HRS.out, h1]; rfl))
        rw [h1] at HC
        clear h1 HRS
        go_wp2_with fail
        refine (HC.out _).mono ?_
        rintro e w4 ⟨rfl, rfl⟩
        go_wp2
        go_ret
        exact ⟨HNO.out, rfl⟩
      | true =>
        have HR2 := Lib.hid (show r = (is.drop (k + 1)).all fun h => inB h 0 2 by rw [HRS.out, h1, Bool.true_and])
        rw [h1] at HC
        clear h1 HRS
        go_wp2_with fail
        refine (HC.out _).mono ?_
        rintro e w4 ⟨rfl, rfl⟩
        go_wp2
        go_roundw
        case rel => exact ⟨k + 1, by omega, by go_num, HR2, by trivial⟩
        case measure => simp [intOf]; omega
    · have HYES := Lib.hid (ret_bool (show true = r by rw [HR.out, List.drop_of_length_le (by omega)]; rfl))
      go_wp2
      go_ret
      exact ⟨HYES.out, rfl⟩

theorem homesB_long {is : List Int} (h : ¬ (1 ≤ is.length ∧ is.length ≤ 5)) : homesB is = false := by
  unfold homesB
  by_cases h1 : 1 ≤ is.length
  · rw [decide_eq_false (show ¬ is.length ≤ 5 by omega)]; simp
  · rw [decide_eq_false h1]; simp
theorem homesB_all {is : List Int} (h : 1 ≤ is.length ∧ is.length ≤ 5) : homesB is = is.all fun h => inB h 0 2 := by
  simp [homesB, h]
set_option maxRecDepth 100000 in
set_option maxHeartbeats 1000000 in
theorem goodHomes_any (A : Option Addr) (n c : Nat) (is : List Int) (B : Nat) (w : World) (hn : is.length = n) (h : IntsB w B A is) :
    Calls Try.prog 87 #[.slice A n c] w fun e w' => e = .returned (.bool (homesB is)) ∧ w = w' := by
  by_cases h15 : 1 ≤ n ∧ n ≤ 5
  · rw [homesB_all (by omega)]
    have HN := Lib.hid hn
    have hge := Nat.le_of_eq hn
    have hle := Nat.le_of_eq hn.symm
    have HS := Lib.hid h
    obtain ⟨r, hr⟩ : ∃ r, r = is.all fun h => inB h 0 2 := ⟨_, rfl⟩
    have HR := Lib.hid (show r = (is.drop 0).all fun h => inB h 0 2 from hr)
    rw [← hr]
    obtain ⟨h1, h5⟩ := h15
    have h1i : (1 : Int) ≤ (n : Int) := by omega
    have h5i : (n : Int) ≤ 5 := by omega
    clear hn h hr
    go_enter Try.func87, Try.ntmps87
    go_wp2
    go_loopw [4, 15] (fun v i wr => ∃ k : Nat, k ≤ n ∧ i = .int .i64 k ∧ Hid (r = (is.drop k).all fun h => inB h 0 2) ∧ w = wr) (fun _ i _ => n - (intOf i).toNat)
    case atStart => exact ⟨0, by omega, rfl, HR, rfl⟩
    case round =>
      clear HR
      obtain ⟨k, hk, rfl, HR, rfl⟩ := hrel
      by_cases hlt : k < n
      · obtain ⟨b, off, rfl, hbB, hc⟩ := HS.out.get (by omega)
        have c0 := hc k (by omega)
        have HRS := Lib.hid (HR.out.trans (all_step (show k < is.length by omega)))
        obtain ⟨y, hy⟩ : ∃ y, y = is[k]'(by omega) := ⟨_, rfl⟩
        rw [← hy] at c0 HRS
        have hk0 : (0 : Int) ≤ (k : Int) := by omega
        have hkn : (k : Int) < (n : Int) := by omega
        clear hc hy HR
        by_cases ha : 0 ≤ y
        · by_cases hb : y ≤ 2
          · have HR2 := Lib.hid (show r = (is.drop (k + 1)).all fun h => inB h 0 2 by rw [HRS.out, inB_mk ⟨ha, hb⟩, Bool.true_and])
            clear HRS
            go_wp2
            go_roundw
            case rel => exact ⟨k + 1, by omega, by go_num, HR2, by trivial⟩
            case measure => simp [intOf]; omega
          · have HNO := Lib.hid (ret_bool (show false = r by rw [HRS.out, inB_not (by omega)]; rfl))
            clear HRS
            go_wp2
            go_ret
            exact ⟨HNO.out, rfl⟩
        · have HNO := Lib.hid (ret_bool (show false = r by rw [HRS.out, inB_not (by omega)]; rfl))
          clear HRS
          go_wp2
          go_ret
          exact ⟨HNO.out, rfl⟩
      · have HYES := Lib.hid (ret_bool (show true = r by rw [HR.out, List.drop_of_length_le (by omega)]; rfl))
        go_wp2
        go_ret
        exact ⟨HYES.out, rfl⟩
  · rw [homesB_long (by omega)]
    by_cases h1 : 1 ≤ n
    · have h1i : (1 : Int) ≤ (n : Int) := by omega
      have h5i : decide ((5 : Int) < (n : Int)) = true := by simp; omega
      clear h15
      go_enter Try.func87, Try.ntmps87
      go_wp2
      go_ret
      exact ⟨rfl, rfl⟩
    · have h0 : n = 0 := by omega
      subst h0
      clear h15 h1
      go_enter Try.func87, Try.ntmps87
      go_wp2
      go_ret
      exact ⟨rfl, rfl⟩
end Go.Proofs.Ytojplmjoipjabaa.Nt
