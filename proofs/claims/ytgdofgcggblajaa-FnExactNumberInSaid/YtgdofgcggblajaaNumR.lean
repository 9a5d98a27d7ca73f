/-
  Contracts for reading a number: l1Read and l5Num of the model, CutPrefix at "-", digitsIn and NumberIn of the program.
-/
import Derived.Test.YtgdofgcggblajaaDec
import Derived.Test.YtgdofgcggblajaaMade
import Derived.Laws.RangeString
import Derived.Lib.DecodeN
import Derived.BigQuiet
namespace Go.Proofs.Ytgdofgcggblajaa
open Go.RowKit
set_option linter.unusedVariables false

/-! ### Plain facts -/
def readN (l : List UInt8) : Int := if canB l then (decV l : Int) else -1
def digR (l : List UInt8) : Int × Bool := if canB l then ((decV l : Int), true) else (0, false)
/-- The number that a text is, with a sign or without. -/
def numR (s : ByteArray) : Int × Bool :=
  if s.data.toList.head? = some 45 then (if canB s.data.toList.tail = true ∧ decV s.data.toList.tail ≠ 0 then (-(decV s.data.toList.tail : Int), true) else (0, false)) else digR s.data.toList
theorem can_short {l : List UInt8} (h : ¬ (1 ≤ l.length ∧ l.length ≤ 6)) : canB l = false := by
  cases e : canB l with
  | false => rfl
  | true =>
    unfold canB at e
    simp only [Bool.and_eq_true, decide_eq_true_eq] at e
    exact absurd e.1.1 h
theorem can_zero {l : List UInt8} (h : l.head? = some 48) (h1 : 1 < l.length) : canB l = false := by
  cases e : canB l with
  | false => rfl
  | true =>
    unfold canB at e
    simp only [Bool.and_eq_true, Bool.or_eq_true, decide_eq_true_eq] at e
    rcases e.1.2 with h2 | h2
    · omega
    · exact absurd h h2
theorem can_bad {l : List UInt8} (k : Nat) (h : k < l.length) (hb : isDig l[k] = false) : canB l = false := by
  unfold canB
  rw [all_bad isDig l k h hb, Bool.and_false]
theorem can_yes {l : List UInt8} (h : 1 ≤ l.length ∧ l.length ≤ 6) (h2 : l.length = 1 ∨ l.head? ≠ some 48) (h3 : l.all isDig = true) : canB l = true := by
  unfold canB
  simp only [Bool.and_eq_true, Bool.or_eq_true, decide_eq_true_eq]
  exact ⟨⟨h, h2⟩, h3⟩
theorem decV_take {l : List UInt8} (k : Nat) (h : k < l.length) : decV (l.take (k + 1)) = 10 * decV (l.take k) + (l[k].toNat - 48) := by
  rw [List.take_succ_eq_append_getElem h, decV_snoc]
theorem isDig_yes {b : UInt8} (h1 : 48 ≤ b.toNat) (h2 : b.toNat ≤ 57) : isDig b = true := by simp [isDig, h1, h2]
theorem isDig_no {b : UInt8} (h : ¬ (48 ≤ b.toNat ∧ b.toNat ≤ 57)) : isDig b = false := by
  cases e : isDig b with
  | false => rfl
  | true => simp [isDig] at e; exact absurd e h
theorem head_at {s : ByteArray} (h : 0 < s.size) : s.data.toList.head? = some s[0] := by
  have hl : 0 < s.data.toList.length := by rw [← Lib.size_eq]; exact h
  rw [List.head?_eq_getElem?, List.getElem?_eq_getElem hl]
  rfl
theorem head_is {s : ByteArray} (h : 0 < s.size) (c : UInt8) : s.data.toList.head? = some c ↔ (s[0].toNat : Int) = (c.toNat : Int) := by
  rw [head_at h, Option.some.injEq]
  constructor
  · intro e; rw [e]
  · intro e; exact UInt8.toNat.inj (by omega)
theorem tail_ext (s : ByteArray) : (s.extract 1 s.size).data.toList = s.data.toList.tail := by
  rw [ByteArray.data_extract, Array.toList_extract, List.extract_eq_take_drop]
  rw [List.take_of_length_le (by rw [List.length_drop, ← Lib.size_eq]; exact Nat.le_refl _), List.drop_one]
theorem tail_size (s : ByteArray) : (s.extract 1 s.size).size ≤ s.size := by rw [ByteArray.size_extract]; omega
theorem wrap_digit {c : Nat} (h1 : 48 ≤ c) (h2 : c ≤ 57) : IntKind.u8.wrap ((c : Int) - 48) = (c : Int) - 48 := by simp [IntKind.wrap, IntKind.bits, IntKind.signed]; omega

/-! ### The model -/
set_option maxRecDepth 100000 in
set_option maxHeartbeats 2000000 in
theorem l1Read_any (s : ByteArray) (w : World) (hs : s.size ≤ 1048576) :
    Calls Try.prog 128 #[.string s] w fun e w' => e = .returned (.int .i64 (readN s.data.toList)) ∧ ∃ n, w' = w.drewN n := by
  have hlen : s.data.toList.length = s.size := (Lib.size_eq s).symm
  have HL := Lib.hid hlen
  by_cases h16 : 1 ≤ s.size ∧ s.size ≤ 6
  · obtain ⟨h1, h6⟩ := h16
    have HI := Lib.hid (fun W => l1In_any (s.size : Int) 1 6 W)
    rw [inB_mk (by omega)] at HI
    by_cases hz : (s[0].toNat : Int) = 48 ∧ 1 < s.size
    · obtain ⟨hz1, hz2⟩ := hz
      have HR := Lib.hid (show readN s.data.toList = -1 by unfold readN; rw [can_zero ((head_is h1 48).2 hz1) (by omega)]; rfl)
      rw [HR.out]
      have h00 : (0 : Int) < (s.size : Int) := by omega
      go_enter Try.func128, Try.ntmps128
      go_wp2_with fail
      refine (HI.out _).mono ?_
      rintro e w' ⟨rfl, rfl⟩
      go_wp2
      go_ret
      exact ⟨rfl, 0, rfl⟩
    · have HZ := Lib.hid (show s.data.toList.length = 1 ∨ s.data.toList.head? ≠ some 48 by
        by_cases h2 : 1 < s.size
        · right; intro e; exact hz ⟨(head_is h1 48).1 e, h2⟩
        · left; omega)
      have h00 : (0 : Int) < (s.size : Int) := by omega
      have HLT := Lib.hid (fun (hz0 : (s[0].toNat : Int) = 48) => show ¬ (1 : Int) < (s.size : Int) by omega)
      clear hz hlen
      by_cases hz0 : (s[0].toNat : Int) = 48
      · have hq := HLT.out hz0
        clear HLT
        go_enter Try.func128, Try.ntmps128
        go_wp2_with fail
        refine (HI.out _).mono ?_
        rintro e w' ⟨rfl, rfl⟩
        clear HI
        go_wp2
        go_loopw [3, 4] (fun v i wr => ∃ k x : Nat, k ≤ s.size ∧ i = .int .i64 k ∧ v = .int .i64 x ∧ Hid (x = decV (s.data.toList.take k) ∧ (s.data.toList.take k).all isDig = true ∧ x < 10 ^ k) ∧ ∃ m, wr = w.drewN m) (fun _ i _ => s.size - (intOf i).toNat)
        case atStart => exact ⟨0, 0, by omega, rfl, rfl, show _ ∧ _ ∧ _ by simp [decV], 0, rfl⟩
        case round =>
          obtain ⟨k, x, hk, rfl, rfl, HX, m, rfl⟩ := hrel
          by_cases hlt : k < s.size
          · have hll : k < s.data.toList.length := by rw [HL.out]; exact hlt
            have HT := Lib.hid (decV_take (l := s.data.toList) k hll)
            have HA := Lib.hid (take_all_succ isDig s.data.toList k hll)
            have HB := Lib.hid (fun h => can_bad (l := s.data.toList) k hll h)
            have hat : s.data.toList[k] = s[k] := rfl
            rw [hat] at HT HA HB
            have hx6 : x < 1000000 := by
              have h2 : 10 ^ k ≤ 10 ^ 6 := Nat.pow_le_pow_right (by omega) (by omega)
              have := HX.out.2.2
              omega
            clear hat
            obtain ⟨c, hc⟩ : ∃ c, c = s[k].toNat := ⟨_, rfl⟩
            have HC := Lib.hid hc
            by_cases hd1 : 48 ≤ c
            · by_cases hd2 : c ≤ 57
              · have HN := Lib.hid (show 10 * x + (c - 48) = decV (s.data.toList.take (k + 1)) ∧ (s.data.toList.take (k + 1)).all isDig = true ∧ 10 * x + (c - 48) < 10 ^ (k + 1) by
                  obtain ⟨e1, e2, e3⟩ := HX.out
                  refine ⟨by rw [HT.out, ← e1, hc], by rw [HA.out, e2, isDig_yes (by omega) (by omega)]; rfl, by rw [Nat.pow_succ]; omega⟩)
                have hw := wrap_digit hd1 hd2
                rw [hc] at hd1 hd2 hw
                have hi1 : ¬ ((s[k].toNat : Int) < 48) := by omega
                have hi2 : ¬ ((57 : Int) < (s[k].toNat : Int)) := by omega
                clear hc
                go_wp2
                go_roundw
                case rel => exact ⟨k + 1, 10 * x + (c - 48), by omega, by go_num, by have := HC.out; go_num, HN.out, _, rfl⟩
                case measure => simp [intOf]; omega
              · have HNO := Lib.hid (show readN s.data.toList = -1 by unfold readN; rw [HB.out (isDig_no (by omega))]; rfl)
                rw [hc] at hd1 hd2
                have hi1 : ¬ ((s[k].toNat : Int) < 48) := by omega
                have hi2 : ((57 : Int) < (s[k].toNat : Int)) := by omega
                clear hc
                go_wp2
                go_ret
                exact ⟨by rw [HNO.out]; rfl, _, rfl⟩
            · have HNO := Lib.hid (show readN s.data.toList = -1 by unfold readN; rw [HB.out (isDig_no (by omega))]; rfl)
              rw [hc] at hd1
              have hi1 : ((s[k].toNat : Int) < 48) := by omega
              clear hc
              go_wp2
              go_ret
              exact ⟨by rw [HNO.out]; rfl, _, rfl⟩
          · have HY := Lib.hid (show readN s.data.toList = (x : Int) by
              obtain ⟨e1, e2, e3⟩ := HX.out
              rw [List.take_of_length_le (by rw [HL.out]; omega)] at e1 e2
              unfold readN; rw [can_yes (by rw [HL.out]; omega) HZ.out e2, ← e1]; rfl)
            go_wp2
            go_ret
            exact ⟨by rw [HY.out]; rfl, _, rfl⟩
      · have hz9 : ((s[0].toNat : Int) == 48) = false := beq_eq_false_iff_ne.2 hz0
        go_enter Try.func128, Try.ntmps128
        go_wp2_with fail
        refine (HI.out _).mono ?_
        rintro e w' ⟨rfl, rfl⟩
        clear HI
        go_wp2
        go_loopw [3, 4] (fun v i wr => ∃ k x : Nat, k ≤ s.size ∧ i = .int .i64 k ∧ v = .int .i64 x ∧ Hid (x = decV (s.data.toList.take k) ∧ (s.data.toList.take k).all isDig = true ∧ x < 10 ^ k) ∧ ∃ m, wr = w.drewN m) (fun _ i _ => s.size - (intOf i).toNat)
        case atStart => exact ⟨0, 0, by omega, rfl, rfl, show _ ∧ _ ∧ _ by simp [decV], 0, rfl⟩
        case round =>
          obtain ⟨k, x, hk, rfl, rfl, HX, m, rfl⟩ := hrel
          by_cases hlt : k < s.size
          · have hll : k < s.data.toList.length := by rw [HL.out]; exact hlt
            have HT := Lib.hid (decV_take (l := s.data.toList) k hll)
            have HA := Lib.hid (take_all_succ isDig s.data.toList k hll)
            have HB := Lib.hid (fun h => can_bad (l := s.data.toList) k hll h)
            have hat : s.data.toList[k] = s[k] := rfl
            rw [hat] at HT HA HB
            have hx6 : x < 1000000 := by
              have h2 : 10 ^ k ≤ 10 ^ 6 := Nat.pow_le_pow_right (by omega) (by omega)
              have := HX.out.2.2
              omega
            clear hat
            obtain ⟨c, hc⟩ : ∃ c, c = s[k].toNat := ⟨_, rfl⟩
            have HC := Lib.hid hc
            by_cases hd1 : 48 ≤ c
            · by_cases hd2 : c ≤ 57
              · have HN := Lib.hid (show 10 * x + (c - 48) = decV (s.data.toList.take (k + 1)) ∧ (s.data.toList.take (k + 1)).all isDig = true ∧ 10 * x + (c - 48) < 10 ^ (k + 1) by
                  obtain ⟨e1, e2, e3⟩ := HX.out
                  refine ⟨by rw [HT.out, ← e1, hc], by rw [HA.out, e2, isDig_yes (by omega) (by omega)]; rfl, by rw [Nat.pow_succ]; omega⟩)
                have hw := wrap_digit hd1 hd2
                rw [hc] at hd1 hd2 hw
                have hi1 : ¬ ((s[k].toNat : Int) < 48) := by omega
                have hi2 : ¬ ((57 : Int) < (s[k].toNat : Int)) := by omega
                clear hc
                go_wp2
                go_roundw
                case rel => exact ⟨k + 1, 10 * x + (c - 48), by omega, by go_num, by have := HC.out; go_num, HN.out, _, rfl⟩
                case measure => simp [intOf]; omega
              · have HNO := Lib.hid (show readN s.data.toList = -1 by unfold readN; rw [HB.out (isDig_no (by omega))]; rfl)
                rw [hc] at hd1 hd2
                have hi1 : ¬ ((s[k].toNat : Int) < 48) := by omega
                have hi2 : ((57 : Int) < (s[k].toNat : Int)) := by omega
                clear hc
                go_wp2
                go_ret
                exact ⟨by rw [HNO.out]; rfl, _, rfl⟩
            · have HNO := Lib.hid (show readN s.data.toList = -1 by unfold readN; rw [HB.out (isDig_no (by omega))]; rfl)
              rw [hc] at hd1
              have hi1 : ((s[k].toNat : Int) < 48) := by omega
              clear hc
              go_wp2
              go_ret
              exact ⟨by rw [HNO.out]; rfl, _, rfl⟩
          · have HY := Lib.hid (show readN s.data.toList = (x : Int) by
              obtain ⟨e1, e2, e3⟩ := HX.out
              rw [List.take_of_length_le (by rw [HL.out]; omega)] at e1 e2
              unfold readN; rw [can_yes (by rw [HL.out]; omega) HZ.out e2, ← e1]; rfl)
            go_wp2
            go_ret
            exact ⟨by rw [HY.out]; rfl, _, rfl⟩
  · have HR := Lib.hid (show readN s.data.toList = -1 by unfold readN; rw [can_short (by omega)]; rfl)
    rw [HR.out]
    have HI := Lib.hid (fun W => l1In_any (s.size : Int) 1 6 W)
    rw [inB_not (by omega)] at HI
    clear hlen
    go_enter Try.func128, Try.ntmps128
    go_wp2_with fail
    refine (HI.out _).mono ?_
    rintro e w' ⟨rfl, rfl⟩
    go_wp2
    go_ret
    exact ⟨rfl, 0, rfl⟩

set_option maxRecDepth 100000 in
set_option maxHeartbeats 2000000 in
theorem l5Num_any (s : ByteArray) (w : World) (hs : s.size ≤ 1048576) :
    Calls Try.prog 69 #[.string s] w fun e w' => e = .returned (.tuple #[.int .i64 (numR s).1, .bool (numR s).2]) ∧ ∃ n, w' = w.drewN n := by
  by_cases h0 : 0 < s.size
  · have h0i : (0 : Int) < (s.size : Int) := by omega
    by_cases hm : (s[0].toNat : Int) = 45
    · have HHd := Lib.hid ((head_is h0 45).2 hm)
      have HR := Lib.hid (l1Read_any (s.extract 1 s.size) w (Nat.le_trans (tail_size s) hs))
      rw [tail_ext] at HR
      obtain ⟨r, hr⟩ : ∃ r, r = readN s.data.toList.tail := ⟨_, rfl⟩
      rw [← hr] at HR
      have HE := Lib.hid hr
      have h1s : (1 : Int) ≤ (s.size : Int) := by omega
      clear hr
      cases hc : canB s.data.toList.tail with
      | false =>
        have hrv : r = -1 := by rw [HE.out]; unfold readN; rw [hc]; rfl
        have HN := Lib.hid (show numR s = (0, false) by unfold numR; rw [if_pos HHd.out, hc]; simp)
        subst hrv
        clear hc
        rw [HN.out]
        go_enter Try.func69, Try.ntmps69
        go_wp2_with fail
        refine HR.out.mono ?_
        rintro e w' ⟨rfl, n, rfl⟩
        go_wp2
        go_ret2
        exact ⟨rfl, n, rfl⟩
      | true =>
        obtain ⟨x, hx⟩ : ∃ x, x = decV s.data.toList.tail := ⟨_, rfl⟩
        have hrv : r = (x : Int) := by rw [HE.out, hx]; unfold readN; rw [hc]; rfl
        have hx6 : x < 1000000 := by rw [hx]; exact canB_lt hc
        have HN := Lib.hid (show numR s = if x ≠ 0 then (-(x : Int), true) else (0, false) by unfold numR; rw [if_pos HHd.out, hc, ← hx]; simp)
        clear hc hx HE
        subst hrv
        by_cases hxz : x = 0
        · subst hxz
          rw [HN.out]
          go_enter Try.func69, Try.ntmps69
          go_wp2_with fail
          refine HR.out.mono ?_
          rintro e w' ⟨rfl, n, rfl⟩
          go_wp2
          go_ret2
          exact ⟨rfl, n, rfl⟩
        · rw [HN.out, if_pos hxz]
          have hq1 : ¬ ((x : Int) < 0) := by omega
          have hq2 : ((x : Int) == 0) = false := beq_eq_false_iff_ne.2 (by omega)
          have hwn : IntKind.i64.wrap (-(x : Int)) = -(x : Int) := by rw [IntKind.wrap_i64]; omega
          go_enter Try.func69, Try.ntmps69
          go_wp2_with fail
          refine HR.out.mono ?_
          rintro e w' ⟨rfl, n, rfl⟩
          go_wp2
          go_ret2
          exact ⟨rfl, n, rfl⟩
    · have HHd := Lib.hid (fun h => hm ((head_is h0 45).1 h))
      have hmb : ((s[0].toNat : Int) == 45) = false := beq_eq_false_iff_ne.2 hm
      have HN := Lib.hid (show numR s = digR s.data.toList by unfold numR; rw [if_neg HHd.out])
      have HR := Lib.hid (l1Read_any s w hs)
      obtain ⟨r, hr⟩ : ∃ r, r = readN s.data.toList := ⟨_, rfl⟩
      rw [← hr] at HR
      rw [HN.out]
      cases hc : canB s.data.toList with
      | false =>
        have hrv : r = -1 := by rw [hr]; unfold readN; rw [hc]; rfl
        have HG := Lib.hid (show digR s.data.toList = (0, false) by unfold digR; rw [hc]; rfl)
        clear hr
        subst hrv
        clear hc
        rw [HG.out]
        go_enter Try.func69, Try.ntmps69
        go_wp2_with fail
        refine HR.out.mono ?_
        rintro e w' ⟨rfl, n, rfl⟩
        go_wp2
        go_ret2
        exact ⟨rfl, n, rfl⟩
      | true =>
        obtain ⟨x, hx⟩ : ∃ x, x = decV s.data.toList := ⟨_, rfl⟩
        have hrv : r = (x : Int) := by rw [hr, hx]; unfold readN; rw [hc]; rfl
        have HG := Lib.hid (show digR s.data.toList = ((x : Int), true) by unfold digR; rw [hc, hx]; rfl)
        have hq1 : ¬ ((x : Int) < 0) := by omega
        clear hc hx hr
        subst hrv
        rw [HG.out]
        go_enter Try.func69, Try.ntmps69
        go_wp2_with fail
        refine HR.out.mono ?_
        rintro e w' ⟨rfl, n, rfl⟩
        go_wp2
        go_ret2
        exact ⟨rfl, n, rfl⟩
  · have hz : s.size = 0 := by omega
    have hd : s.data.toList = [] := List.eq_nil_of_length_eq_zero (by rw [← Lib.size_eq]; exact hz)
    have HN := Lib.hid (show numR s = digR s.data.toList by unfold numR; rw [hd]; rfl)
    have h0i : ¬ (0 : Int) < (s.size : Int) := by omega
    clear hd hz
    have HR := Lib.hid (l1Read_any s w hs)
    obtain ⟨r, hr⟩ : ∃ r, r = readN s.data.toList := ⟨_, rfl⟩
    rw [← hr] at HR
    rw [HN.out]
    cases hc : canB s.data.toList with
    | false =>
      have hrv : r = -1 := by rw [hr]; unfold readN; rw [hc]; rfl
      have HG := Lib.hid (show digR s.data.toList = (0, false) by unfold digR; rw [hc]; rfl)
      clear hr
      subst hrv
      clear hc
      rw [HG.out]
      go_enter Try.func69, Try.ntmps69
      go_wp2_with fail
      refine HR.out.mono ?_
      rintro e w' ⟨rfl, n, rfl⟩
      go_wp2
      go_ret2
      exact ⟨rfl, n, rfl⟩
    | true =>
      obtain ⟨x, hx⟩ : ∃ x, x = decV s.data.toList := ⟨_, rfl⟩
      have hrv : r = (x : Int) := by rw [hr, hx]; unfold readN; rw [hc]; rfl
      have HG := Lib.hid (show digR s.data.toList = ((x : Int), true) by unfold digR; rw [hc, hx]; rfl)
      have hq1 : ¬ ((x : Int) < 0) := by omega
      clear hc hx hr
      subst hrv
      rw [HG.out]
      go_enter Try.func69, Try.ntmps69
      go_wp2_with fail
      refine HR.out.mono ?_
      rintro e w' ⟨rfl, n, rfl⟩
      go_wp2
      go_ret2
      exact ⟨rfl, n, rfl⟩

theorem specNumberIn_any (s : ByteArray) (w : World) (hs : s.size ≤ 1048576) :
    Calls Try.prog 15 #[.string s] w fun e w' => e = .returned (.tuple #[.int .i64 (numR s).1, .bool (numR s).2]) ∧ ∃ n, w' = w.drewN n := by
  have HC := Lib.hid (l5Num_any s w hs)
  go_enter Try.func15, Try.ntmps15
  go_wp2_with fail
  refine HC.out.mono ?_
  rintro e w' ⟨rfl, n, rfl⟩
  go_wp2
  go_ret2
  exact ⟨rfl, n, rfl⟩

/-! ### The program -/
theorem first_ext (s : ByteArray) : (s.extract 0 1).toList = s.data.toList.take 1 := by
  rw [Lib.toList_data, ByteArray.data_extract, Array.toList_extract, List.extract_eq_take_drop, List.drop_zero]
theorem head_take {l : List UInt8} {c : UInt8} : l.head? = some c ↔ l.take 1 = [c] := by cases l <;> simp
theorem minus_list : (⟨#[45]⟩ : ByteArray).toList = [45] := by rw [Lib.toList_data]
/-- Asking for a leading "-". -/
theorem has_yes (s : ByteArray) (w : World) (h : s.data.toList.head? = some 45) :
    Calls Try.prog 157 #[.string s, .string ⟨#[45]⟩] w fun e w' => e = .returned (.bool true) ∧ w = w' := by
  have hp : 0 < s.size := by
    rcases Nat.eq_zero_or_pos s.size with h0 | h0
    · have : s.data.toList = [] := List.eq_nil_of_length_eq_zero (by rw [← Lib.size_eq]; exact h0)
      rw [this] at h; cases h
    · exact h0
  have hpi : (1 : Int) ≤ (s.size : Int) := by omega
  have he : (s.extract 0 1).toList = [45] := by rw [first_ext]; exact head_take.1 h
  have hb : ((s.extract 0 1).toList == (⟨#[45]⟩ : ByteArray).toList) = true := by rw [he, minus_list]; rfl
  have hsz : (⟨#[45]⟩ : ByteArray).size = 1 := rfl
  clear h
  go_enter Try.func157, Try.ntmps157
  go_wp2
  go_ret
  exact ⟨by first | rfl | simp [he], rfl⟩
theorem has_no (s : ByteArray) (w : World) (h : s.data.toList.head? ≠ some 45) :
    Calls Try.prog 157 #[.string s, .string ⟨#[45]⟩] w fun e w' => e = .returned (.bool false) ∧ w = w' := by
  have hsz : (⟨#[45]⟩ : ByteArray).size = 1 := rfl
  by_cases hp : 1 ≤ s.size
  · have hpi : (1 : Int) ≤ (s.size : Int) := by omega
    have he : (s.extract 0 1).toList ≠ [45] := by rw [first_ext]; exact fun e => h (head_take.2 e)
    have hb : ((s.extract 0 1).toList == (⟨#[45]⟩ : ByteArray).toList) = false := by rw [minus_list]; exact beq_eq_false_iff_ne.2 he
    clear h
    go_enter Try.func157, Try.ntmps157
    go_wp2
    go_ret
    exact ⟨by first | rfl | simp [he], rfl⟩
  · have hpi : ¬ (1 : Int) ≤ (s.size : Int) := by omega
    clear h
    go_enter Try.func157, Try.ntmps157
    go_wp2
    go_ret
    exact ⟨rfl, rfl⟩
theorem cut_yes (s : ByteArray) (w : World) (h : s.data.toList.head? = some 45) :
    Calls Try.prog 70 #[.string s, .string ⟨#[45]⟩] w fun e w' => e = .returned (.tuple #[.string (s.extract 1 s.size), .bool true]) ∧ w = w' := by
  have HC := Lib.hid (fun W => has_yes s W h)
  have hp : 0 < s.size := by
    rcases Nat.eq_zero_or_pos s.size with h0 | h0
    · have : s.data.toList = [] := List.eq_nil_of_length_eq_zero (by rw [← Lib.size_eq]; exact h0)
      rw [this] at h; cases h
    · exact h0
  have hpi : (1 : Int) ≤ (s.size : Int) := by omega
  have hsz : (⟨#[45]⟩ : ByteArray).size = 1 := rfl
  clear h
  have HI : ∀ W, Calls Try.prog 129 #[.string s, .string ⟨#[45]⟩] W fun e w' => e = .returned (.tuple #[.string (s.extract 1 s.size), .bool true]) ∧ W = w' := by
    intro W
    go_enter Try.func129, Try.ntmps129
    go_wp2_with fail
    refine (HC.out _).mono ?_
    rintro e w' ⟨rfl, rfl⟩
    go_wp2
    go_ret2
    exact ⟨rfl, rfl⟩
  have HII := Lib.hid HI
  clear HI
  go_enter Try.func70, Try.ntmps70
  go_wp2_with fail
  refine (HII.out _).mono ?_
  rintro e w' ⟨rfl, rfl⟩
  go_wp2
  go_ret2
  exact ⟨rfl, rfl⟩
theorem cut_no (s : ByteArray) (w : World) (h : s.data.toList.head? ≠ some 45) :
    Calls Try.prog 70 #[.string s, .string ⟨#[45]⟩] w fun e w' => e = .returned (.tuple #[.string s, .bool false]) ∧ w = w' := by
  have HC := Lib.hid (fun W => has_no s W h)
  clear h
  have HI : ∀ W, Calls Try.prog 129 #[.string s, .string ⟨#[45]⟩] W fun e w' => e = .returned (.tuple #[.string s, .bool false]) ∧ W = w' := by
    intro W
    go_enter Try.func129, Try.ntmps129
    go_wp2_with fail
    refine (HC.out _).mono ?_
    rintro e w' ⟨rfl, rfl⟩
    go_wp2
    go_ret2
    exact ⟨rfl, rfl⟩
  have HII := Lib.hid HI
  clear HI
  go_enter Try.func70, Try.ntmps70
  go_wp2_with fail
  refine (HII.out _).mono ?_
  rintro e w' ⟨rfl, rfl⟩
  go_wp2
  go_ret2
  exact ⟨rfl, rfl⟩

theorem decode_high (s : ByteArray) (pos : Nat) (h : pos < s.size) (hb : 128 ≤ s[pos].toNat) : 128 ≤ (Utf8.decode s pos).1 := by
  have e : (s.get! pos).toNat = s[pos].toNat := by
    show (s.get! pos).toNat = _
    simp [ByteArray.get!, getElem!_pos, h]
    rfl
  rw [Lib.decode_at, e]
  unfold Lib.decodeN
  rw [if_neg (by omega)]
  (repeat' split) <;> simp only [] <;> omega
/-- The next rune behind an ASCII prefix. -/
theorem run_next_some {P : Program} (w : World) (s : ByteArray) (pos : Nat) (ty : TypeId) (h : pos < s.size) :
    (Instr.next (.pointer (some ⟨w.heap.size, 0, none⟩)) true ty).run P (w.iter s pos) =
      .ok (.tuple #[.bool true, .int .i64 pos, .int .i32 (Utf8.decode s pos).1]) (w.iter s (pos + (Utf8.decode s pos).2)) := by
  simp only [Instr.next, getObj, setObj, Sem.run_bind, Sem.run, World.iter_heap, Result.andThen, h, if_true, World.iter_set]
  simp [goInt]

def posOf (w : World) (b : Nat) : Nat := match w.heap[b]? with | some (.stringIter _ p) => p | _ => 0
theorem posOf_iter (w : World) (s : ByteArray) (k : Nat) : posOf (w.iter s k) w.heap.size = k := by unfold posOf; rw [World.iter_heap]
theorem below_iter (w : World) (s : ByteArray) (k : Nat) : Below w.heap.size w (w.iter s k) := below1 w _

set_option maxRecDepth 100000 in
set_option maxHeartbeats 2000000 in
theorem digitsIn_any (s : ByteArray) (w : World) (hs : s.size ≤ 1048576) :
    Calls Try.prog 71 #[.string s] w fun e w' => e = .returned (.tuple #[.int .i64 (digR s.data.toList).1, .bool (digR s.data.toList).2]) ∧ Below w.heap.size w w' := by
  have hlen : s.data.toList.length = s.size := (Lib.size_eq s).symm
  have HL := Lib.hid hlen
  by_cases h0 : s.size = 0
  · have hd : s.data.toList = [] := List.eq_nil_of_length_eq_zero (by rw [hlen]; exact h0)
    have hl : s.toList = [] := by rw [Lib.toList_data]; exact hd
    have HG := Lib.hid (show digR s.data.toList = (0, false) by rw [hd]; rfl)
    rw [HG.out]
    clear hd hlen h0
    go_enter Try.func71, Try.ntmps71
    go_wp2
    go_ret2
    exact ⟨rfl, Below.refl _ _⟩
  · have hne : ¬ s.toList = [] := by rw [Lib.toList_data]; intro e; rw [e] at hlen; exact h0 hlen.symm
    have hie : s.toList.isEmpty = false := by rw [List.isEmpty_eq_false_iff]; exact hne
    have hp0 : 0 < s.size := by omega
    by_cases h6 : s.size ≤ 6
    · by_cases hz : ((s[0]'hp0).toNat : Int) = 48 ∧ 1 < s.size
      · obtain ⟨hz1, hz2⟩ := hz
        have HG := Lib.hid (show digR s.data.toList = (0, false) by unfold digR; rw [can_zero ((head_is hp0 48).2 hz1) (by omega)]; rfl)
        rw [HG.out]
        have h00 : (0 : Int) < (s.size : Int) := by omega
        have h66 : ¬ (6 : Int) < (s.size : Int) := by omega
        clear hlen
        go_enter Try.func71, Try.ntmps71
        go_wp2
        go_ret2
        exact ⟨rfl, Below.refl _ _⟩
      · have HZ := Lib.hid (show s.data.toList.length = 1 ∨ s.data.toList.head? ≠ some 48 by
          by_cases h2 : 1 < s.size
          · right; intro e; exact hz ⟨(head_is hp0 48).1 e, h2⟩
          · left; omega)
        have h00 : (0 : Int) < (s.size : Int) := by omega
        have h66 : ¬ (6 : Int) < (s.size : Int) := by omega
        have HLT := Lib.hid (fun (hz0 : ((s[0]'hp0).toNat : Int) = 48) => show ¬ (1 : Int) < (s.size : Int) by omega)
        have H0 := Lib.hid h0
        have hlt0 : 0 < s.size := by omega
        clear hz hlen h0
        by_cases hz0 : ((s[0]'hp0).toNat : Int) = 48
        · have hq := HLT.out hz0
          clear HLT
          go_enter Try.func71, Try.ntmps71
          go_wp2
          go_loopw [4] (fun v wr => ∃ k x : Nat, k ≤ s.size ∧ v = .int .i64 x ∧ Hid (x = decV (s.data.toList.take k) ∧ (s.data.toList.take k).all isDig = true ∧ x < 10 ^ k) ∧ wr = w.iter s k) (fun _ wr => s.size - posOf wr w.heap.size)
          case atStart => exact ⟨0, 0, by omega, rfl, show _ ∧ _ ∧ _ by simp [decV], rfl⟩
          case round =>
            obtain ⟨k, x, hk, rfl, HX, rfl⟩ := hrel
            by_cases hlt : k < s.size
            · have hll : k < s.data.toList.length := by rw [HL.out]; exact hlt
              have HT := Lib.hid (decV_take (l := s.data.toList) k hll)
              have HA := Lib.hid (take_all_succ isDig s.data.toList k hll)
              have HB := Lib.hid (fun h => can_bad (l := s.data.toList) k hll h)
              have hat : s.data.toList[k] = s[k] := rfl
              rw [hat] at HT HA HB
              have hx6 : x < 1000000 := by
                have h2 : 10 ^ k ≤ 10 ^ 6 := Nat.pow_le_pow_right (by omega) (by omega)
                have := HX.out.2.2
                omega
              clear hat
              have hasc := fun ty ha => run_next_ascii (P := Try.prog) w s k ty hlt ha
              have hsom := fun ty => run_next_some (P := Try.prog) w s k ty hlt
              have hhi := decode_high s k hlt
              obtain ⟨d, hd⟩ : ∃ d, d = Utf8.decode s k := ⟨_, rfl⟩
              rw [← hd] at hsom hhi
              obtain ⟨r, adv⟩ := d
              simp only at hsom hhi
              obtain ⟨c, hc⟩ : ∃ c, c = s[k].toNat := ⟨_, rfl⟩
              rw [← hc] at hasc hhi
              have HC := Lib.hid hc
              by_cases hd1 : 48 ≤ c
              · by_cases hd2 : c ≤ 57
                · have HN := Lib.hid (show 10 * x + (c - 48) = decV (s.data.toList.take (k + 1)) ∧ (s.data.toList.take (k + 1)).all isDig = true ∧ 10 * x + (c - 48) < 10 ^ (k + 1) by
                    obtain ⟨e1, e2, e3⟩ := HX.out
                    refine ⟨by rw [HT.out, ← e1, hc], by rw [HA.out, e2, isDig_yes (by omega) (by omega)]; rfl, by rw [Nat.pow_succ]; omega⟩)
                  have hnx := fun ty => hasc ty (by omega)
                  have hi1 : ¬ ((c : Int) < 48) := by omega
                  have hi2 : ¬ ((57 : Int) < (c : Int)) := by omega
                  have hw1 : IntKind.i32.wrap ((c : Int) - 48) = (c : Int) - 48 := by simp [IntKind.wrap, IntKind.bits, IntKind.signed]; omega
                  clear hasc hsom hhi hc hd
                  go_wp2
                  go_roundw
                  case rel => exact ⟨k + 1, 10 * x + (c - 48), by omega, by go_num, HN.out, rfl⟩
                  case measure => rw [posOf_iter, posOf_iter]; omega
                · have HNO := Lib.hid (show digR s.data.toList = (0, false) by unfold digR; rw [HB.out (isDig_no (by omega))]; rfl)
                  by_cases hasci : c < 128
                  · have hnx := fun ty => hasc ty hasci
                    have hi1 : ¬ ((c : Int) < 48) := by omega
                    have hi2 : ((57 : Int) < (c : Int)) := by omega
                    clear hasc hsom hhi hc hd
                    go_wp2
                    go_ret2
                    exact ⟨by rw [HNO.out]; rfl, below_iter _ _ _⟩
                  · have hr := hhi (by omega)
                    have hi1 : ¬ ((r : Int) < 48) := by omega
                    have hi2 : ((57 : Int) < (r : Int)) := by omega
                    clear hasc hhi hc hd
                    go_wp2
                    go_ret2
                    exact ⟨by rw [HNO.out]; rfl, below_iter _ _ _⟩
              · have HNO := Lib.hid (show digR s.data.toList = (0, false) by unfold digR; rw [HB.out (isDig_no (by omega))]; rfl)
                have hnx := fun ty => hasc ty (by omega)
                have hi1 : ((c : Int) < 48) := by omega
                clear hasc hsom hhi hc hd
                go_wp2
                go_ret2
                exact ⟨by rw [HNO.out]; rfl, below_iter _ _ _⟩
            · have HY := Lib.hid (show digR s.data.toList = ((x : Int), true) by
                obtain ⟨e1, e2, e3⟩ := HX.out
                rw [List.take_of_length_le (by rw [HL.out]; omega)] at e1 e2
                unfold digR; rw [can_yes (by rw [HL.out]; omega) HZ.out e2, ← e1]; rfl)
              have hnx := fun ty => run_next_end (P := Try.prog) w s k ty hlt
              go_wp2
              go_ret2
              exact ⟨by rw [HY.out]; rfl, below_iter _ _ _⟩
        · have hz9 : (((s[0]'hp0).toNat : Int) == 48) = false := beq_eq_false_iff_ne.2 hz0
          go_enter Try.func71, Try.ntmps71
          go_wp2
          go_loopw [4] (fun v wr => ∃ k x : Nat, k ≤ s.size ∧ v = .int .i64 x ∧ Hid (x = decV (s.data.toList.take k) ∧ (s.data.toList.take k).all isDig = true ∧ x < 10 ^ k) ∧ wr = w.iter s k) (fun _ wr => s.size - posOf wr w.heap.size)
          case atStart => exact ⟨0, 0, by omega, rfl, show _ ∧ _ ∧ _ by simp [decV], rfl⟩
          case round =>
            obtain ⟨k, x, hk, rfl, HX, rfl⟩ := hrel
            by_cases hlt : k < s.size
            · have hll : k < s.data.toList.length := by rw [HL.out]; exact hlt
              have HT := Lib.hid (decV_take (l := s.data.toList) k hll)
              have HA := Lib.hid (take_all_succ isDig s.data.toList k hll)
              have HB := Lib.hid (fun h => can_bad (l := s.data.toList) k hll h)
              have hat : s.data.toList[k] = s[k] := rfl
              rw [hat] at HT HA HB
              have hx6 : x < 1000000 := by
                have h2 : 10 ^ k ≤ 10 ^ 6 := Nat.pow_le_pow_right (by omega) (by omega)
                have := HX.out.2.2
                omega
              clear hat
              have hasc := fun ty ha => run_next_ascii (P := Try.prog) w s k ty hlt ha
              have hsom := fun ty => run_next_some (P := Try.prog) w s k ty hlt
              have hhi := decode_high s k hlt
              obtain ⟨d, hd⟩ : ∃ d, d = Utf8.decode s k := ⟨_, rfl⟩
              rw [← hd] at hsom hhi
              obtain ⟨r, adv⟩ := d
              simp only at hsom hhi
              obtain ⟨c, hc⟩ : ∃ c, c = s[k].toNat := ⟨_, rfl⟩
              rw [← hc] at hasc hhi
              have HC := Lib.hid hc
              by_cases hd1 : 48 ≤ c
              · by_cases hd2 : c ≤ 57
                · have HN := Lib.hid (show 10 * x + (c - 48) = decV (s.data.toList.take (k + 1)) ∧ (s.data.toList.take (k + 1)).all isDig = true ∧ 10 * x + (c - 48) < 10 ^ (k + 1) by
                    obtain ⟨e1, e2, e3⟩ := HX.out
                    refine ⟨by rw [HT.out, ← e1, hc], by rw [HA.out, e2, isDig_yes (by omega) (by omega)]; rfl, by rw [Nat.pow_succ]; omega⟩)
                  have hnx := fun ty => hasc ty (by omega)
                  have hi1 : ¬ ((c : Int) < 48) := by omega
                  have hi2 : ¬ ((57 : Int) < (c : Int)) := by omega
                  have hw1 : IntKind.i32.wrap ((c : Int) - 48) = (c : Int) - 48 := by simp [IntKind.wrap, IntKind.bits, IntKind.signed]; omega
                  clear hasc hsom hhi hc hd
                  go_wp2
                  go_roundw
                  case rel => exact ⟨k + 1, 10 * x + (c - 48), by omega, by go_num, HN.out, rfl⟩
                  case measure => rw [posOf_iter, posOf_iter]; omega
                · have HNO := Lib.hid (show digR s.data.toList = (0, false) by unfold digR; rw [HB.out (isDig_no (by omega))]; rfl)
                  by_cases hasci : c < 128
                  · have hnx := fun ty => hasc ty hasci
                    have hi1 : ¬ ((c : Int) < 48) := by omega
                    have hi2 : ((57 : Int) < (c : Int)) := by omega
                    clear hasc hsom hhi hc hd
                    go_wp2
                    go_ret2
                    exact ⟨by rw [HNO.out]; rfl, below_iter _ _ _⟩
                  · have hr := hhi (by omega)
                    have hi1 : ¬ ((r : Int) < 48) := by omega
                    have hi2 : ((57 : Int) < (r : Int)) := by omega
                    clear hasc hhi hc hd
                    go_wp2
                    go_ret2
                    exact ⟨by rw [HNO.out]; rfl, below_iter _ _ _⟩
              · have HNO := Lib.hid (show digR s.data.toList = (0, false) by unfold digR; rw [HB.out (isDig_no (by omega))]; rfl)
                have hnx := fun ty => hasc ty (by omega)
                have hi1 : ((c : Int) < 48) := by omega
                clear hasc hsom hhi hc hd
                go_wp2
                go_ret2
                exact ⟨by rw [HNO.out]; rfl, below_iter _ _ _⟩
            · have HY := Lib.hid (show digR s.data.toList = ((x : Int), true) by
                obtain ⟨e1, e2, e3⟩ := HX.out
                rw [List.take_of_length_le (by rw [HL.out]; omega)] at e1 e2
                unfold digR; rw [can_yes (by rw [HL.out]; omega) HZ.out e2, ← e1]; rfl)
              have hnx := fun ty => run_next_end (P := Try.prog) w s k ty hlt
              go_wp2
              go_ret2
              exact ⟨by rw [HY.out]; rfl, below_iter _ _ _⟩
    · have HG := Lib.hid (show digR s.data.toList = (0, false) by unfold digR; rw [can_short (by omega)]; rfl)
      rw [HG.out]
      have h66 : (6 : Int) < (s.size : Int) := by omega
      clear hlen
      go_enter Try.func71, Try.ntmps71
      go_wp2
      go_ret2
      exact ⟨rfl, Below.refl _ _⟩

set_option maxRecDepth 100000 in
set_option maxHeartbeats 2000000 in
theorem implNumberIn_any (s : ByteArray) (w : World) (hs : s.size ≤ 1048576) :
    Calls Try.prog 16 #[.string s] w fun e w' => e = .returned (.tuple #[.int .i64 (numR s).1, .bool (numR s).2]) ∧ Below w.heap.size w w' := by
  by_cases hm : s.data.toList.head? = some 45
  · have HCut := Lib.hid (cut_yes s w hm)
    have HR := Lib.hid (digitsIn_any (s.extract 1 s.size) w (Nat.le_trans (tail_size s) hs))
    rw [tail_ext] at HR
    have HN := Lib.hid (show numR s = if canB s.data.toList.tail = true ∧ decV s.data.toList.tail ≠ 0 then (-(decV s.data.toList.tail : Int), true) else (0, false) by unfold numR; rw [if_pos hm])
    clear hm
    cases hc : canB s.data.toList.tail with
    | false =>
      rw [show digR s.data.toList.tail = (0, false) by unfold digR; rw [hc]; rfl] at HR
      rw [hc, if_neg (by simp)] at HN
      clear hc
      rw [HN.out]
      go_enter Try.func16, Try.ntmps16
      go_wp2_with fail
      refine HCut.out.mono ?_
      rintro e w' ⟨rfl, rfl⟩
      go_wp2_with fail
      refine HR.out.mono ?_
      rintro e w' ⟨rfl, hb⟩
      go_wp2
      go_ret2
      exact ⟨rfl, hb⟩
    | true =>
      obtain ⟨x, hx⟩ : ∃ x, x = decV s.data.toList.tail := ⟨_, rfl⟩
      rw [show digR s.data.toList.tail = ((x : Int), true) by unfold digR; rw [hc, hx]; rfl] at HR
      have hx6 : x < 1000000 := by rw [hx]; exact canB_lt hc
      rw [hc, ← hx] at HN
      clear hc hx
      by_cases hxz : x = 0
      · subst hxz
        rw [if_neg (by simp)] at HN
        rw [HN.out]
        go_enter Try.func16, Try.ntmps16
        go_wp2_with fail
        refine HCut.out.mono ?_
        rintro e w' ⟨rfl, rfl⟩
        go_wp2_with fail
        refine HR.out.mono ?_
        rintro e w' ⟨rfl, hb⟩
        go_wp2
        go_ret2
        exact ⟨rfl, hb⟩
      · rw [if_pos ⟨rfl, hxz⟩] at HN
        rw [HN.out]
        have hq2 : ((x : Int) == 0) = false := beq_eq_false_iff_ne.2 (by omega)
        have hwn : IntKind.i64.wrap (-(x : Int)) = -(x : Int) := by rw [IntKind.wrap_i64]; omega
        go_enter Try.func16, Try.ntmps16
        go_wp2_with fail
        refine HCut.out.mono ?_
        rintro e w' ⟨rfl, rfl⟩
        go_wp2_with fail
        refine HR.out.mono ?_
        rintro e w' ⟨rfl, hb⟩
        go_wp2
        go_ret2
        exact ⟨rfl, hb⟩
  · have HCut := Lib.hid (cut_no s w hm)
    have HR := Lib.hid (digitsIn_any s w hs)
    have HN := Lib.hid (show numR s = digR s.data.toList by unfold numR; rw [if_neg hm])
    rw [HN.out]
    clear hm
    cases hc : canB s.data.toList with
    | false =>
      have HG := Lib.hid (show digR s.data.toList = (0, false) by unfold digR; rw [hc]; rfl)
      rw [HG.out] at HR ⊢
      clear hc
      go_enter Try.func16, Try.ntmps16
      go_wp2_with fail
      refine HCut.out.mono ?_
      rintro e w' ⟨rfl, rfl⟩
      go_wp2_with fail
      refine HR.out.mono ?_
      rintro e w' ⟨rfl, hb⟩
      go_wp2
      go_ret2
      exact ⟨rfl, hb⟩
    | true =>
      obtain ⟨x, hx⟩ : ∃ x, x = decV s.data.toList := ⟨_, rfl⟩
      have HG := Lib.hid (show digR s.data.toList = ((x : Int), true) by unfold digR; rw [hc, hx]; rfl)
      rw [HG.out] at HR ⊢
      clear hc hx
      go_enter Try.func16, Try.ntmps16
      go_wp2_with fail
      refine HCut.out.mono ?_
      rintro e w' ⟨rfl, rfl⟩
      go_wp2_with fail
      refine HR.out.mono ?_
      rintro e w' ⟨rfl, hb⟩
      go_wp2
      go_ret2
      exact ⟨rfl, hb⟩
end Go.Proofs.Ytgdofgcggblajaa
