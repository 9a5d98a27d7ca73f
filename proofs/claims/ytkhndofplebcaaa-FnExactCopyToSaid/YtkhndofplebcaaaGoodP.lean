/-
  Contracts for the check of a record: GoodRec of the program, l4Good of the model.
-/
import Derived.Test.YtkhndofplebcaaaSameR
import Derived.Test.YtkhndofplebcaaaKeys
namespace Go.Proofs.Ytkhndofplebcaaa
open Go.RowKit CM
set_option linter.unusedVariables false

/-- Reads and writes of a record that prepares. -/
def partsB (rs : List ByteArray) (ws : List (ByteArray × ByteArray × Bool)) : Bool := ksB rs && (wB ws && (decide (ws.length ≤ 8) && decide (0 < rs.length + ws.length)))
/-- The outcome of a transaction: a time, or none. -/
def outB (y : Bool) (tm : Int) : Bool := if y then inB tm 1 100000 else tm == 0
def restB (rs : List ByteArray) (ws : List (ByteArray × ByteArray × Bool)) : Bool := decide (rs.length + ws.length = 0)
/-- A record is valid. -/
def recB (k t tm ld : Int) (y : Bool) (rs : List ByteArray) (ws : List (ByteArray × ByteArray × Bool)) : Bool :=
  if k = 1 then inB t 1 60 && (inB tm 1 100000 && (inB ld 0 3 && (partsB rs ws && !y)))
  else if k = 2 ∨ k = 3 then ld == 0 && (restB rs ws && (inB t 1 60 && outB y tm))
  else if k = 4 then ld == 0 && (restB rs ws && (t == 0 && (inB tm 1 100000 && !y)))
  else false

theorem isTxn_any (n : Int) (w : World) :
    Calls Try.prog 132 #[.int .i64 n] w fun e w' => e = .returned (.bool (inB n 1 60)) ∧ w = w' := by
  by_cases h1 : 1 ≤ n
  · by_cases h2 : n ≤ 60
    · rw [inB_mk ⟨h1, h2⟩]
      go_enter Try.func132, Try.ntmps132
      go_wp2
      go_ret
      exact ⟨rfl, rfl⟩
    · rw [inB_not (by omega)]
      go_enter Try.func132, Try.ntmps132
      go_wp2
      go_ret
      exact ⟨rfl, rfl⟩
  · rw [inB_not (by omega)]
    go_enter Try.func132, Try.ntmps132
    go_wp2
    go_ret
    exact ⟨rfl, rfl⟩
theorem isGroup_any (n : Int) (w : World) :
    Calls Try.prog 134 #[.int .i64 n] w fun e w' => e = .returned (.bool (inB n 0 3)) ∧ w = w' := by
  by_cases h1 : 0 ≤ n
  · by_cases h2 : n < 4
    · rw [inB_mk ⟨h1, by omega⟩]
      go_enter Try.func134, Try.ntmps134
      go_wp2
      go_ret
      exact ⟨rfl, rfl⟩
    · rw [inB_not (by omega)]
      go_enter Try.func134, Try.ntmps134
      go_wp2
      go_ret
      exact ⟨rfl, rfl⟩
  · rw [inB_not (by omega)]
    go_enter Try.func134, Try.ntmps134
    go_wp2
    go_ret
    exact ⟨rfl, rfl⟩
theorem goodOutcome_any (y : Bool) (n : Int) (w : World) :
    Calls Try.prog 137 #[.bool y, .int .i64 n] w fun e w' => e = .returned (.bool (outB y n)) ∧ w = w' := by
  cases y with
  | true =>
    have HC := Lib.hid (isVerTime_any n)
    go_enter Try.func137, Try.ntmps137
    go_wp2_with fail
    refine (HC.out _).mono ?_
    rintro e w' ⟨rfl, rfl⟩
    go_wp2
    go_ret
    exact ⟨rfl, rfl⟩
  | false =>
    go_enter Try.func137, Try.ntmps137
    go_wp2
    go_ret
    exact ⟨rfl, rfl⟩

set_option maxRecDepth 100000 in
set_option maxHeartbeats 1000000 in
theorem goodParts_any (Ar Aw : Option Addr) (nr nw cr cw : Nat) (rs : List ByteArray) (ws : List (ByteArray × ByteArray × Bool)) (B : Nat) (w : World) (hnr : rs.length = nr) (hnw : ws.length = nw) (hr : StrsB w B Ar rs) (hw : WritesB w B Aw ws) (hB : B ≤ w.heap.size) (hsr : SSmall rs) (hsw : WSmall ws) :
    Calls Try.prog 135 #[.slice Ar nr cr, .slice Aw nw cw] w fun e w' => e = .returned (.bool (partsB rs ws)) ∧ Below w.heap.size w w' := by
  have HK := Lib.hid (fun W (hW : StrsB W B Ar rs) (hB : B ≤ W.heap.size) => goodKeys_any Ar nr cr rs B W hnr hW hB hsr)
  have HW := Lib.hid (fun W (hW : WritesB W B Aw ws) (hB : B ≤ W.heap.size) => goodWrites_any Aw nw cw ws B W hnw hW hB hsw)
  have H1 := Lib.hid hr
  have H2 := Lib.hid hw
  have hl1 := hsr.1
  have hl2 := hsw.1
  have HRS := Lib.hid (show partsB rs ws = (kuB rs && decide (nr ≤ 8) && (wB ws && (decide (nw ≤ 8) && decide (0 < nr + nw)))) by rw [← hnr, ← hnw]; rfl)
  rw [hnr] at hl1
  rw [hnw] at hl2
  clear hr hw hnr hnw hsr hsw
  obtain ⟨res, hres⟩ : ∃ r, r = partsB rs ws := ⟨_, rfl⟩
  rw [← hres] at HRS ⊢
  clear hres
  by_cases h1 : nr ≤ 8
  · by_cases h2 : nw ≤ 8
    · by_cases h3 : nr + nw = 0
      · have HNO := Lib.hid (ret_bool (show false = res by rw [HRS.out]; simp [h3]))
        obtain rfl : nr = 0 := by omega
        obtain rfl : nw = 0 := by omega
        clear h1 h2 h3
        go_enter Try.func135, Try.ntmps135
        go_wp2
        go_ret
        exact ⟨HNO.out, Below.refl _ _⟩
      · obtain ⟨d1, hd1⟩ : ∃ d, d = kuB rs := ⟨_, rfl⟩
        rw [← hd1] at HK HRS
        clear hd1
        obtain ⟨d2, hd2⟩ : ∃ d, d = wB ws := ⟨_, rfl⟩
        rw [← hd2] at HW HRS
        clear hd2
        have HRR := Lib.hid (show res = (d1 && d2) by rw [HRS.out, decide_eq_true h1, decide_eq_true h2, decide_eq_true (show 0 < nr + nw by omega)]; simp)
        have hz : ((nr : Int) + (nw : Int) == 0) = false := by simp; omega
        cases d1 with
        | false =>
          have HNO := Lib.hid (ret_bool (show false = res by rw [HRR.out]; rfl))
          go_enter Try.func135, Try.ntmps135
          go_wp2_with fail
          refine (HK.out _ H1.out hB).mono ?_
          rintro e w1 ⟨rfl, hb1⟩
          go_wp2
          go_ret
          exact ⟨HNO.out, hb1⟩
        | true =>
          have HNO := Lib.hid (ret_bool (show d2 = res by rw [HRR.out]; rfl))
          go_enter Try.func135, Try.ntmps135
          go_wp2_with fail
          refine (HK.out _ H1.out hB).mono ?_
          rintro e w1 ⟨rfl, hb1⟩
          have HB1 := Lib.hid hb1
          clear hb1
          go_wp2_with fail
          refine (HW.out _ (H2.out.below (HB1.out.mono hB)) (Nat.le_trans hB HB1.out.size)).mono ?_
          rintro e w2 ⟨rfl, hb2⟩
          go_wp2
          go_ret
          exact ⟨HNO.out, HB1.out.trans (hb2.mono HB1.out.size)⟩
    · have HNO := Lib.hid (ret_bool (show false = res by rw [HRS.out, decide_eq_false h2]; simp))
      go_enter Try.func135, Try.ntmps135
      go_wp2
      go_ret
      exact ⟨HNO.out, Below.refl _ _⟩
  · have HNO := Lib.hid (ret_bool (show false = res by rw [HRS.out, decide_eq_false h1]; simp))
    go_enter Try.func135, Try.ntmps135
    go_wp2
    go_ret
    exact ⟨HNO.out, Below.refl _ _⟩
end Go.Proofs.Ytkhndofplebcaaa
