/-
  Contracts for SameRec, of the program and of the model.
-/
import Derived.Test.YtkhndofplebcaaaSameW
import Derived.Test.YtkhndofplebcaaaRec
namespace Go.Proofs.Ytkhndofplebcaaa
open Go.RowKit CM
set_option linter.unusedVariables false

/-- Two records have the same fields. -/
def sameB (k k' t t' tm tm' ld ld' : Int) (y y' : Bool) (rs rs' : List ByteArray) (ws ws' : List (ByteArray × ByteArray × Bool)) : Bool :=
  k == k' && (t == t' && (tm == tm' && (ld == ld' && (y == y' && (decide (rs = rs') && decide (ws = ws'))))))

set_option maxRecDepth 100000 in
set_option maxHeartbeats 2000000 in
theorem implSameRec_any (k k' t t' tm tm' ld ld' : Int) (y y' : Bool) (Ar Ar' Aw Aw' : Option Addr) (nr nr' nw nw' cr cr' cw cw' : Nat) (rs rs' : List ByteArray) (ws ws' : List (ByteArray × ByteArray × Bool)) (B : Nat) (w : World) (hnr : rs.length = nr) (hnr' : rs'.length = nr') (hnw : ws.length = nw) (hnw' : ws'.length = nw')
    (hr : StrsB w B Ar rs) (hr' : StrsB w B Ar' rs') (hw : WritesB w B Aw ws) (hw' : WritesB w B Aw' ws') (hB : B ≤ w.heap.size) (hlr : nr ≤ 1048576) (hlr' : nr' ≤ 1048576) (hlw : nw ≤ 1048576) (hlw' : nw' ≤ 1048576) :
    Calls Try.prog 136 #[.agg #[.int .i64 k, .int .i64 t, .int .i64 tm, .int .i64 ld, .slice Ar nr cr, .slice Aw nw cw, .bool y], .agg #[.int .i64 k', .int .i64 t', .int .i64 tm', .int .i64 ld', .slice Ar' nr' cr', .slice Aw' nw' cw', .bool y']] w fun e w' => e = .returned (.bool (sameB k k' t t' tm tm' ld ld' y y' rs rs' ws ws')) ∧ Below w.heap.size w w' := by
  have HC := Lib.hid (fun W (hW : StrsB W B Ar rs) (hW' : StrsB W B Ar' rs') (hB : B ≤ W.heap.size) => equalS_any Ar Ar' nr nr' cr cr' rs rs' B W hnr hnr' hW hW' hB hlr hlr')
  have HU := Lib.hid (fun W (hW : WritesB W B Aw ws) (hW' : WritesB W B Aw' ws') (hB : B ≤ W.heap.size) => equalW_any Aw Aw' nw nw' cw cw' ws ws' B W hnw hnw' hW hW' hB hlw hlw')
  have H1 := Lib.hid hr
  have H2 := Lib.hid hr'
  have H3 := Lib.hid hw
  have H4 := Lib.hid hw'
  have hb2 := below2 w (.cells #[.int .i64 k, .int .i64 t, .int .i64 tm, .int .i64 ld, .slice Ar nr cr, .slice Aw nw cw, .bool y] 33) (.cells #[.int .i64 k', .int .i64 t', .int .i64 tm', .int .i64 ld', .slice Ar' nr' cr', .slice Aw' nw' cw', .bool y'] 33)
  have HB := Lib.hid hb2
  obtain ⟨res, hres⟩ : ∃ r, r = sameB k k' t t' tm tm' ld ld' y y' rs rs' ws ws' := ⟨_, rfl⟩
  have HR := Lib.hid hres
  rw [← hres]
  clear hr hr' hw hw' hnr hnr' hnw hnw' hres hb2
  cases h1 : (k == k') with
  | false =>
    have HNO := Lib.hid (ret_bool (show false = res by rw [HR.out]; simp [sameB, h1]))
    go_enter Try.func136, Try.ntmps136
    go_wp2
    go_ret
    exact ⟨HNO.out, below2 _ _ _⟩
  | true =>
    obtain rfl := eq_of_beq h1
    clear h1
    cases h2 : (t == t') with
    | false =>
      have HNO := Lib.hid (ret_bool (show false = res by rw [HR.out]; simp [sameB, h2]))
      go_enter Try.func136, Try.ntmps136
      go_wp2
      go_ret
      exact ⟨HNO.out, below2 _ _ _⟩
    | true =>
      obtain rfl := eq_of_beq h2
      clear h2
      cases h3 : (tm == tm') with
      | false =>
        have HNO := Lib.hid (ret_bool (show false = res by rw [HR.out]; simp [sameB, h3]))
        go_enter Try.func136, Try.ntmps136
        go_wp2
        go_ret
        exact ⟨HNO.out, below2 _ _ _⟩
      | true =>
        obtain rfl := eq_of_beq h3
        clear h3
        cases h4 : (ld == ld') with
        | false =>
          have HNO := Lib.hid (ret_bool (show false = res by rw [HR.out]; simp [sameB, h4]))
          go_enter Try.func136, Try.ntmps136
          go_wp2
          go_ret
          exact ⟨HNO.out, below2 _ _ _⟩
        | true =>
          obtain rfl := eq_of_beq h4
          clear h4
          cases h5 : (y == y') with
          | false =>
            have HNO := Lib.hid (ret_bool (show false = res by rw [HR.out]; simp [sameB, h5]))
            go_enter Try.func136, Try.ntmps136
            go_wp2
            go_ret
            exact ⟨HNO.out, below2 _ _ _⟩
          | true =>
            obtain rfl := eq_of_beq h5
            clear h5
            obtain ⟨d1, hd1⟩ : ∃ d, d = decide (rs = rs') := ⟨_, rfl⟩
            have HD1 := Lib.hid hd1
            rw [← hd1] at HC
            obtain ⟨d2, hd2⟩ : ∃ d, d = decide (ws = ws') := ⟨_, rfl⟩
            have HD2 := Lib.hid hd2
            rw [← hd2] at HU
            clear hd1 hd2
            have HRR := Lib.hid (show res = (d1 && d2) by rw [HR.out, HD1.out, HD2.out]; simp [sameB])
            cases d1 with
            | false =>
              have HNO := Lib.hid (ret_bool (show false = res by rw [HRR.out]; rfl))
              go_enter Try.func136, Try.ntmps136
              go_wp2_with fail
              refine (HC.out _ (H1.out.below (HB.out.mono hB)) (H2.out.below (HB.out.mono hB)) (Nat.le_trans hB HB.out.size)).mono ?_
              rintro e w1 ⟨rfl, q1, rfl⟩
              go_wp2
              go_ret
              exact ⟨HNO.out, below_drewN HB.out _⟩
            | true =>
              have HNO := Lib.hid (ret_bool (show d2 = res by rw [HRR.out]; rfl))
              go_enter Try.func136, Try.ntmps136
              go_wp2_with fail
              refine (HC.out _ (H1.out.below (HB.out.mono hB)) (H2.out.below (HB.out.mono hB)) (Nat.le_trans hB HB.out.size)).mono ?_
              rintro e w1 ⟨rfl, q1, rfl⟩
              go_wp2_with fail
              have hbq := below_drewN HB.out q1
              refine (HU.out _ (H3.out.below (hbq.mono hB)) (H4.out.below (hbq.mono hB)) (Nat.le_trans hB hbq.size)).mono ?_
              rintro e w2 ⟨rfl, q2, rfl⟩
              clear hbq
              go_wp2
              go_ret
              exact ⟨HNO.out, below_drewN HB.out _⟩

end Go.Proofs.Ytkhndofplebcaaa
