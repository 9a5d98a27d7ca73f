/-
  Contracts for l9SameRec and l9Begins of the model.
-/
import Derived.Test.YtkhndofplebcaaaGrBeg
import Derived.Test.YtkhndofplebcaaaSameW
import Derived.Deep.QuietTactic
import Derived.BigQuiet
import Derived.Deep.Cut
namespace Go.Proofs.Ytkhndofplebcaaa.Gr
open Go.RowKit CM
set_option linter.unusedVariables false
set_option linter.unusedSimpArgs false

set_option maxRecDepth 100000 in
set_option maxHeartbeats 8000000 in
theorem l9SameRec_any (k k' t t' tm tm' ld ld' : Int) (y y' : Bool) (Ar Ar' Aw Aw' : Option Addr) (nr nr' nw nw' cr cr' cw cw' : Nat) (rs rs' : List ByteArray) (ws ws' : List (ByteArray × ByteArray × Bool)) (B : Nat) (w : World) (hnr : rs.length = nr) (hnr' : rs'.length = nr') (hnw : ws.length = nw) (hnw' : ws'.length = nw')
    (hr : StrsB w B Ar rs) (hr' : StrsB w B Ar' rs') (hw : WritesB w B Aw ws) (hw' : WritesB w B Aw' ws') (hB : B ≤ w.heap.size) (hlr : nr ≤ 1048576) (hlr' : nr' ≤ 1048576) (hlw : nw ≤ 1048576) (hlw' : nw' ≤ 1048576) :
    Calls Try.prog 156 #[.agg #[.int .i64 k, .int .i64 t, .int .i64 tm, .int .i64 ld, .slice Ar nr cr, .slice Aw nw cw, .bool y], .agg #[.int .i64 k', .int .i64 t', .int .i64 tm', .int .i64 ld', .slice Ar' nr' cr', .slice Aw' nw' cw', .bool y']] w fun e w' => e = .returned (.bool (sameB k k' t t' tm tm' ld ld' y y' rs rs' ws ws')) ∧ Below w.heap.size w w' := by
  have H1 := Lib.hid hr
  have H2 := Lib.hid hr'
  have H3 := Lib.hid hw
  have H4 := Lib.hid hw'
  have hb2 := below2 w (.cells #[.int .i64 k, .int .i64 t, .int .i64 tm, .int .i64 ld, .slice Ar nr cr, .slice Aw nw cw, .bool y] 33) (.cells #[.int .i64 k', .int .i64 t', .int .i64 tm', .int .i64 ld', .slice Ar' nr' cr', .slice Aw' nw' cw', .bool y'] 33)
  have HB := Lib.hid hb2
  have HL1 := Lib.hid hnr
  have HL2 := Lib.hid hnr'
  have HL3 := Lib.hid hnw
  have HL4 := Lib.hid hnw'
  obtain ⟨res, hres⟩ : ∃ r, r = sameB k k' t t' tm tm' ld ld' y y' rs rs' ws ws' := ⟨_, rfl⟩
  have HR := Lib.hid hres
  rw [← hres]
  clear hr hr' hw hw' hnr hnr' hnw hnw' hres hb2
  cases h1 : (k == k') with
  | false =>
    have HNO := Lib.hid (ret_bool (show false = res by rw [HR.out]; simp [sameB, h1]))
    have h1n : (k != k') = true := by simp only [bne, h1, Bool.not_false]
    go_enter Try.func156, Try.ntmps156
    go_wp2
    go_ret
    exact ⟨HNO.out, below2 _ _ _⟩
  | true =>
    obtain rfl := eq_of_beq h1
    clear h1
    cases h2 : (t == t') with
    | false =>
      have HNO := Lib.hid (ret_bool (show false = res by rw [HR.out]; simp [sameB, h2]))
      have h2n : (t != t') = true := by simp only [bne, h2, Bool.not_false]
      go_enter Try.func156, Try.ntmps156
      go_wp2
      go_ret
      exact ⟨HNO.out, below2 _ _ _⟩
    | true =>
      obtain rfl := eq_of_beq h2
      clear h2
      cases h3 : (tm == tm') with
      | false =>
        have HNO := Lib.hid (ret_bool (show false = res by rw [HR.out]; simp [sameB, h3]))
        have h3n : (tm != tm') = true := by simp only [bne, h3, Bool.not_false]
        go_enter Try.func156, Try.ntmps156
        go_wp2
        go_ret
        exact ⟨HNO.out, below2 _ _ _⟩
      | true =>
        obtain rfl := eq_of_beq h3
        clear h3
        cases h4 : (ld == ld') with
        | false =>
          have HNO := Lib.hid (ret_bool (show false = res by rw [HR.out]; simp [sameB, h4]))
          have h4n : (ld != ld') = true := by simp only [bne, h4, Bool.not_false]
          go_enter Try.func156, Try.ntmps156
          go_wp2
          go_ret
          exact ⟨HNO.out, below2 _ _ _⟩
        | true =>
          obtain rfl := eq_of_beq h4
          clear h4
          cases h5 : (y == y') with
          | false =>
            have HNO := Lib.hid (ret_bool (show false = res by rw [HR.out]; simp [sameB, h5]))
            have h5n : (y != y') = true := by simp only [bne, h5, Bool.not_false]
            go_enter Try.func156, Try.ntmps156
            go_wp2
            go_ret
            exact ⟨HNO.out, below2 _ _ _⟩
          | true =>
            obtain rfl := eq_of_beq h5
            clear h5
            have HRR := Lib.hid (show res = (decide (rs = rs') && decide (ws = ws')) by rw [HR.out]; simp [sameB])
            by_cases hnn : nr = nr'
            · by_cases hnm : nw = nw'
              · subst hnn hnm
                have ka := alloc2_a w (.cells #[.int .i64 k, .int .i64 t, .int .i64 tm, .int .i64 ld, .slice Ar nr cr, .slice Aw nw cw, .bool y] 33) (.cells #[.int .i64 k, .int .i64 t, .int .i64 tm, .int .i64 ld, .slice Ar' nr cr', .slice Aw' nw cw', .bool y] 33)
                have kb := alloc2_b w (.cells #[.int .i64 k, .int .i64 t, .int .i64 tm, .int .i64 ld, .slice Ar nr cr, .slice Aw nw cw, .bool y] 33) (.cells #[.int .i64 k, .int .i64 t, .int .i64 tm, .int .i64 ld, .slice Ar' nr cr', .slice Aw' nw cw', .bool y] 33)
                have G1 := Lib.hid (H1.out.below (HB.out.mono hB))
                have G2 := Lib.hid (H2.out.below (HB.out.mono hB))
                have G3 := Lib.hid (H3.out.below (HB.out.mono hB))
                have G4 := Lib.hid (H4.out.below (HB.out.mono hB))
                clear H1 H2 H3 H4
                go_enter Try.func156, Try.ntmps156
                go_upto_region 3 with fail
                obtain ⟨V, hV⟩ : ∃ V, V = (w.alloc (.cells #[.int .i64 k, .int .i64 t, .int .i64 tm, .int .i64 ld, .slice Ar nr cr, .slice Aw nw cw, .bool y] 33)).alloc (.cells #[.int .i64 k, .int .i64 t, .int .i64 tm, .int .i64 ld, .slice Ar' nr cr', .slice Aw' nw cw', .bool y] 33) := ⟨_, rfl⟩
                rw [← hV] at ka kb G1 G2 G3 G4 HB ⊢
                have a4 := cell_blk (i := 4) ka rfl
                have a5 := cell_blk (i := 5) ka rfl
                have b4 := cell_blk (i := 4) kb rfl
                have b5 := cell_blk (i := 5) kb rfl
                clear hV ka kb
                go_wp2
                go_loopw [5] (fun i wr => ∃ k : Nat, k ≤ nr ∧ i = .int .i64 k ∧ Hid (rs.take k = rs'.take k) ∧ ∃ q, wr = V.drewN q) (fun i _ => nr - (intOf i).toNat)
                case atStart => exact ⟨0, by omega, rfl, rfl, 0, rfl⟩
                case round =>
                  obtain ⟨j, hj, rfl, HT, q, rfl⟩ := hrel
                  by_cases hlt : j < nr
                  · obtain ⟨b, off, rfl, hbB, hc⟩ := G1.out.get (by have := HL1.out; omega)
                    obtain ⟨b', off', rfl, hbB', hc'⟩ := G2.out.get (by have := HL2.out; omega)
                    have hj1 : j < rs.length := by have := HL1.out; omega
                    have hj2 : j < rs'.length := by have := HL2.out; omega
                    have c0 := hc j hj1
                    have d0 := hc' j hj2
                    obtain ⟨x, hx⟩ : ∃ x, x = rs[j]'hj1 := ⟨_, rfl⟩
                    obtain ⟨z, hy⟩ : ∃ z, z = rs'[j]'hj2 := ⟨_, rfl⟩
                    rw [← hx] at c0
                    rw [← hy] at d0
                    have HX := Lib.hid hx
                    have HY := Lib.hid hy
                    have hk0 : (0 : Int) ≤ (j : Int) := by omega
                    have hkn : (j : Int) < (nr : Int) := by omega
                    clear hc hc' hx hy
                    cases hv : (x.toList == z.toList) with
                    | false =>
                      have hv2 : (x.toList != z.toList) = true := by simp [bne, hv]
                      have HNO := Lib.hid (ret_bool (show false = res by rw [HRR.out, decide_eq_false (ne_at (k := j) hj1 hj2 (by rw [← HX.out, ← HY.out]; exact fun e => by rw [e] at hv; simp at hv))]; rfl))
                      go_wp2_with fail
                      go_quiet (fail)
                      go_wp2
                      go_ret
                      exact ⟨HNO.out, below_drewN (below_drewN HB.out _) _⟩
                    | true =>
                      have hv2 : (x.toList != z.toList) = false := by simp [bne, hv]
                      have HT' := Lib.hid (take_eq_succ HT.out hj1 hj2 (by rw [← HX.out, ← HY.out]; exact list_inj (eq_of_beq hv)))
                      go_wp2_with fail
                      go_quiet (fail)
                      go_wp2
                      go_roundw
                      case rel => exact ⟨j + 1, by omega, by go_num, HT'.out, _, rfl⟩
                      case measure => simp [intOf]; omega
                  · have hrs := take_eq_all HT.out (by have := HL1.out; omega) (by have := HL2.out; omega)
                    have HRW := Lib.hid (show res = decide (ws = ws') by rw [HRR.out, decide_eq_true hrs]; rfl)
                    clear hrs
                    go_wp2
                    go_loopw [6] (fun i wr => ∃ k : Nat, k ≤ nw ∧ i = .int .i64 k ∧ Hid (ws.take k = ws'.take k) ∧ ∃ q, wr = V.drewN q) (fun i _ => nw - (intOf i).toNat)
                    case atStart => exact ⟨0, by omega, rfl, rfl, _, rfl⟩
                    case round =>
                      obtain ⟨j2, hj', rfl, HT2, q2, rfl⟩ := hrel
                      by_cases hlt2 : j2 < nw
                      · obtain ⟨b, off, rfl, hbB, hc⟩ := G3.out.get (by have := HL3.out; omega)
                        obtain ⟨b', off', rfl, hbB', hc'⟩ := G4.out.get (by have := HL4.out; omega)
                        have hj1 : j2 < ws.length := by have := HL3.out; omega
                        have hj2 : j2 < ws'.length := by have := HL4.out; omega
                        obtain ⟨c0, c1, c2⟩ := hc j2 hj1
                        obtain ⟨d0, d1, d2⟩ := hc' j2 hj2
                        obtain ⟨x, hx⟩ : ∃ x, x = ws[j2]'hj1 := ⟨_, rfl⟩
                        obtain ⟨z, hy⟩ : ∃ z, z = ws'[j2]'hj2 := ⟨_, rfl⟩
                        rw [← hx] at c0 c1 c2
                        rw [← hy] at d0 d1 d2
                        obtain ⟨t1, s1, g1⟩ := x
                        obtain ⟨t2, s2, g2⟩ := z
                        simp only at c0 c1 c2 d0 d1 d2
                        have HX := Lib.hid hx
                        have HY := Lib.hid hy
                        have hk0 : (0 : Int) ≤ (j2 : Int) := by omega
                        have hkn : (j2 : Int) < (nw : Int) := by omega
                        have heq := fun W => eq_wr W t1 t2 s1 s2 g1 g2
                        clear hc hc' hx hy
                        cases hv : (t1.toList == t2.toList && (s1.toList == s2.toList && g1 == g2)) with
                        | false =>
                          rw [hv] at heq
                          have HNO := Lib.hid (ret_bool (show false = res by rw [HRW.out, decide_eq_false (ne_at (k := j2) hj1 hj2 (by rw [← HX.out, ← HY.out]; exact wr_other hv))]))
                          clear hv
                          go_wp2_with fail
                          go_quiet (fail)
                          go_wp2
                          go_ret
                          exact ⟨HNO.out, below_drewN (below_drewN HB.out _) _⟩
                        | true =>
                          rw [hv] at heq
                          have HT' := Lib.hid (take_eq_succ HT2.out hj1 hj2 (by rw [← HX.out, ← HY.out]; exact wr_same hv))
                          clear hv
                          go_wp2_with fail
                          go_quiet (fail)
                          go_wp2
                          go_roundw
                          case rel => exact ⟨j2 + 1, by omega, by go_num, HT'.out, _, rfl⟩
                          case measure => simp [intOf]; omega
                      · have HYES := Lib.hid (ret_bool (show true = res by rw [HRW.out, decide_eq_true (take_eq_all HT2.out (by have := HL3.out; omega) (by have := HL4.out; omega))]))
                        go_wp2
                        go_ret
                        exact ⟨HYES.out, below_drewN HB.out _⟩
              · have HNO := Lib.hid (ret_bool (show false = res by rw [HRR.out, decide_eq_false (show ¬ ws = ws' from fun e => hnm (by rw [← HL3.out, ← HL4.out, e])), Bool.and_false]))
                subst hnn
                have hne : ((nw : Int) != (nw' : Int)) = true := by simp; omega
                have hne2 : ((nw : Int) == (nw' : Int)) = false := by simp; omega
                go_enter Try.func156, Try.ntmps156
                go_wp2
                go_ret
                exact ⟨HNO.out, below2 _ _ _⟩
            · have HNO := Lib.hid (ret_bool (show false = res by rw [HRR.out, decide_eq_false (show ¬ rs = rs' from fun e => hnn (by rw [← HL1.out, ← HL2.out, e])), Bool.false_and]))
              have hne : ((nr : Int) != (nr' : Int)) = true := by simp; omega
              have hne2 : ((nr : Int) == (nr' : Int)) = false := by simp; omega
              go_enter Try.func156, Try.ntmps156
              go_wp2
              go_ret
              exact ⟨HNO.out, below2 _ _ _⟩

set_option maxRecDepth 100000 in
set_option maxHeartbeats 8000000 in
theorem l9Begins_any (A1 : Option Addr) (n1 c1 : Nat) (es1 : List EH) (A2 : Option Addr) (n2 c2 m : Nat) (es2 : List EH) (B : Nat) (w : World) (hn1 : es1.length = n1) (h1 : RowsB KE w B A1 es1) (hm1 : LgSmall (es1.map EH.d)) (hn2 : es2.length = n2) (h2 : RowsB KE w B A2 es2) (hm2 : LgSmall (es2.map EH.d)) (hB : B ≤ w.heap.size) (r : Bool) (hr : r = decide (m ≤ shN (es1.map EH.d) (es2.map EH.d))) :
    Calls Try.prog 124 #[.slice A1 n1 c1, .slice A2 n2 c2, .int .i64 (m : Int)] w fun e w' => e = .returned (.bool r) ∧ Below w.heap.size w w' := by
  obtain ⟨hl1, hms1⟩ := hm1
  obtain ⟨hl2, hms2⟩ := hm2
  have hsl := shN_le (es1.map EH.d) (es2.map EH.d)
  rw [List.length_map] at hl1 hl2
  rw [List.length_map, List.length_map, hn1, hn2] at hsl
  rw [hn1] at hl1
  rw [hn2] at hl2
  obtain ⟨tot, htot⟩ : ∃ tot, tot = shN (es1.map EH.d) (es2.map EH.d) := ⟨_, rfl⟩
  rw [← htot] at hr hsl
  by_cases hx1 : n1 < m
  · have hf : r = false := by rw [hr]; exact decide_eq_false (by omega)
    subst hf
    have e1 : (n1 : Int) < (m : Int) := by omega
    have e2 : decide (n1 < m) = true := by simp; omega
    clear hr hn1 h1 hn2 h2 hms1 hms2 htot
    go_enter Try.func124, Try.ntmps124
    go_wp2
    go_ret
    exact ⟨rfl, Below.refl _ _⟩
  by_cases hx2 : n2 < m
  · have hf : r = false := by rw [hr]; exact decide_eq_false (by omega)
    subst hf
    have e1 : ¬ (n1 : Int) < (m : Int) := by omega
    have e2 : decide (n1 < m) = false := by simp; omega
    have e3 : (n2 : Int) < (m : Int) := by omega
    have e4 : decide (n2 < m) = true := by simp; omega
    clear hr hn1 h1 hn2 h2 hms1 hms2 htot
    go_enter Try.func124, Try.ntmps124
    go_wp2
    go_ret
    exact ⟨rfl, Below.refl _ _⟩
  have e1 : ¬ (n1 : Int) < (m : Int) := by omega
  have e2 : decide (n1 < m) = false := by simp; omega
  have e3 : ¬ (n2 : Int) < (m : Int) := by omega
  have e4 : decide (n2 < m) = false := by simp; omega
  have HN1 := Lib.hid hn1
  have HN2 := Lib.hid hn2
  have HM1 := Lib.hid hms1
  have HM2 := Lib.hid hms2
  have HS := Lib.hid h1
  have HS' := Lib.hid h2
  have HRR := Lib.hid hr
  have HR0 := Lib.hid (show tot = 0 + shN ((es1.map EH.d).drop 0) ((es2.map EH.d).drop 0) by rw [htot]; simp)
  clear hn1 h1 hms1 hn2 h2 hms2 htot hr hsl
  go_enter Try.func124, Try.ntmps124
  go_wp2
  go_loopw [7] (fun i wr => ∃ k : Nat, k ≤ m ∧ i = .int .i64 k ∧ Hid (tot = k + shN ((es1.map EH.d).drop k) ((es2.map EH.d).drop k)) ∧ Below w.heap.size w wr) (fun i _ => m - (intOf i).toNat)
  case atStart => exact ⟨0, by omega, rfl, HR0, Below.refl _ _⟩
  case round =>
    clear HR0
    obtain ⟨k, hk, rfl, HR, hb⟩ := hrel
    by_cases hlt : k < m
    · obtain ⟨b, off, rfl, hbB, hc⟩ := en_get HS.out (by have := HN1.out; omega)
      obtain ⟨b', off', rfl, hbB', hc'⟩ := en_get HS'.out (by have := HN2.out; omega)
      have hkh1 : k < es1.length := by have := HN1.out; omega
      have hkh2 : k < es2.length := by have := HN2.out; omega
      obtain ⟨hc0, hc1, hc2, hc3, hc4, hc5, hc6, hc7⟩ := hc k hkh1
      obtain ⟨hd0, hd1, hd2, hd3, hd4, hd5, hd6, hd7⟩ := hc' k hkh2
      have c0 := (hb.cell (p := ⟨b, off + k * 8, none⟩) (Nat.lt_of_lt_of_le hbB hB)).trans hc0
      have c1 := (hb.cell (p := ⟨b, off + k * 8 + 1, none⟩) (Nat.lt_of_lt_of_le hbB hB)).trans hc1
      have c2 := (hb.cell (p := ⟨b, off + k * 8 + 2, none⟩) (Nat.lt_of_lt_of_le hbB hB)).trans hc2
      have c3 := (hb.cell (p := ⟨b, off + k * 8 + 3, none⟩) (Nat.lt_of_lt_of_le hbB hB)).trans hc3
      have c4 := (hb.cell (p := ⟨b, off + k * 8 + 4, none⟩) (Nat.lt_of_lt_of_le hbB hB)).trans hc4
      have c5 := (hb.cell (p := ⟨b, off + k * 8 + 5, none⟩) (Nat.lt_of_lt_of_le hbB hB)).trans hc5
      have c6 := (hb.cell (p := ⟨b, off + k * 8 + 6, none⟩) (Nat.lt_of_lt_of_le hbB hB)).trans hc6
      have c7 := (hb.cell (p := ⟨b, off + k * 8 + 7, none⟩) (Nat.lt_of_lt_of_le hbB hB)).trans hc7
      have d0 := (hb.cell (p := ⟨b', off' + k * 8, none⟩) (Nat.lt_of_lt_of_le hbB' hB)).trans hd0
      have d1 := (hb.cell (p := ⟨b', off' + k * 8 + 1, none⟩) (Nat.lt_of_lt_of_le hbB' hB)).trans hd1
      have d2 := (hb.cell (p := ⟨b', off' + k * 8 + 2, none⟩) (Nat.lt_of_lt_of_le hbB' hB)).trans hd2
      have d3 := (hb.cell (p := ⟨b', off' + k * 8 + 3, none⟩) (Nat.lt_of_lt_of_le hbB' hB)).trans hd3
      have d4 := (hb.cell (p := ⟨b', off' + k * 8 + 4, none⟩) (Nat.lt_of_lt_of_le hbB' hB)).trans hd4
      have d5 := (hb.cell (p := ⟨b', off' + k * 8 + 5, none⟩) (Nat.lt_of_lt_of_le hbB' hB)).trans hd5
      have d6 := (hb.cell (p := ⟨b', off' + k * 8 + 6, none⟩) (Nat.lt_of_lt_of_le hbB' hB)).trans hd6
      have d7 := (hb.cell (p := ⟨b', off' + k * 8 + 7, none⟩) (Nat.lt_of_lt_of_le hbB' hB)).trans hd7
      have HRS := Lib.hid (HR.out.trans (by rw [shN_step (show k < (es1.map EH.d).length by simpa using hkh1) (show k < (es2.map EH.d).length by simpa using hkh2), d_at hkh1, d_at hkh2]))
      have hv := KE.rd_below (HS.out.at k hkh1) (hb.mono hB)
      have hv' := KE.rd_below (HS'.out.at k hkh2) (hb.mono hB)
      have hsm := HM1.out (EH.d (es1[k]'hkh1)) (List.mem_map.2 ⟨_, List.getElem_mem hkh1, rfl⟩)
      have hsm2 := HM2.out (EH.d (es2[k]'hkh2)) (List.mem_map.2 ⟨_, List.getElem_mem hkh2, rfl⟩)
      obtain ⟨x, hx⟩ : ∃ x, x = es1[k]'hkh1 := ⟨_, rfl⟩
      obtain ⟨y, hy⟩ : ∃ y, y = es2[k]'hkh2 := ⟨_, rfl⟩
      rw [← hx] at c0 c1 c2 c3 c4 c5 c6 c7 hv hsm HRS
      rw [← hy] at d0 d1 d2 d3 d4 d5 d6 d7 hv' hsm2 HRS
      obtain ⟨⟨tm, kk, tt, xx, ll, yy, rs, ws⟩, Ar, cr, Aw, cw, elo, em, ehi⟩ := x
      obtain ⟨⟨tm2, kk2, tt2, xx2, ll2, yy2, rs2, ws2⟩, Ar2, cr2, Aw2, cw2, elo2, em2, ehi2⟩ := y
      simp only at c0 c1 c2 c3 c4 c5 c6 c7 d0 d1 d2 d3 d4 d5 d6 d7 hv hv' hsm hsm2 HRS
      have hk0 : (0 : Int) ≤ (k : Int) := by omega
      have hkn : (k : Int) < (n1 : Int) := by omega
      have hkn2 : (k : Int) < (n2 : Int) := by omega
      have hkm : (k : Int) < (m : Int) := by omega
      have hb1 : b < wr.heap.size := Nat.lt_of_lt_of_le hbB (Nat.le_trans hB hb.size)
      have hb2 : b' < wr.heap.size := Nat.lt_of_lt_of_le hbB' (Nat.le_trans hB hb.size)
      have HB := Lib.hid hb
      have HBr := Nat.le_trans hB hb.size
      obtain ⟨g, hg⟩ : ∃ g, g = sameB kk kk2 tt tt2 xx xx2 ll ll2 yy yy2 rs rs2 ws ws2 := ⟨_, rfl⟩
      obtain ⟨g9, hg8⟩ : ∃ g9, g9 = sameE ⟨tm, kk, tt, xx, ll, yy, rs, ws⟩ ⟨tm2, kk2, tt2, xx2, ll2, yy2, rs2, ws2⟩ := ⟨_, rfl⟩
      rw [← hg8] at HRS
      have hg9 : g9 = (tm == tm2 && g) := by rw [hg8, hg]; rfl
      clear hg8
      have HCall := Lib.hid (l9SameRec_any kk kk2 tt tt2 xx xx2 ll ll2 yy yy2 Ar Ar2 Aw Aw2 rs.length rs2.length ws.length ws2.length cr cr2 cw cw2 rs rs2 ws ws2 B wr.drew rfl rfl rfl rfl hv.1 hv'.1 hv.2 hv'.2 HBr hsm.1.1 hsm2.1.1 hsm.2.1 hsm2.2.1)
      rw [← hg] at HCall
      obtain ⟨nr, hvnr⟩ : ∃ nr, nr = rs.length := ⟨_, rfl⟩
      rw [← hvnr] at c5 HCall
      obtain ⟨nw, hvnw⟩ : ∃ nw, nw = ws.length := ⟨_, rfl⟩
      rw [← hvnw] at c6 HCall
      obtain ⟨nr2, hvnr2⟩ : ∃ nr2, nr2 = rs2.length := ⟨_, rfl⟩
      rw [← hvnr2] at d5 HCall
      obtain ⟨nw2, hvnw2⟩ : ∃ nw2, nw2 = ws2.length := ⟨_, rfl⟩
      rw [← hvnw2] at d6 HCall
      clear hc hc' hc0 hd0 hc1 hd1 hc2 hd2 hc3 hd3 hc4 hd4 hc5 hd5 hc6 hd6 hc7 hd7 hx hy hb hv hv' hsm hsm2 HBr hvnr hvnw hvnr2 hvnw2 hg HR
      cases ht : (tm == tm2) with
      | false =>
        have ht2 : (tm != tm2) = true := by simp only [bne, ht, Bool.not_false]
        have htk : tot = k := by have h9 := HRS.out; rw [hg9, ht] at h9; simpa using h9
        have HNO := Lib.hid (ret_bool (show false = r by rw [HRR.out, htk]; exact (decide_eq_false (by omega)).symm))
        clear htk hg9
        go_wp2_with fail
        go_quiet (fail)
        go_wp2
        go_ret
        exact ⟨HNO.out, below_drewN HB.out _⟩
      | true =>
        obtain rfl := eq_of_beq ht
        rw [ht, Bool.true_and] at hg9
        subst hg9
        clear ht
        go_wp2_with fail
        go_region_held3 (fun w' => w'.cell? ⟨b, off + k * 8, none⟩ = some (.int .i64 tm) ∧ w'.cell? ⟨b, off + k * 8 + 1, none⟩ = some (.int .i64 kk) ∧ w'.cell? ⟨b, off + k * 8 + 2, none⟩ = some (.int .i64 tt) ∧ w'.cell? ⟨b, off + k * 8 + 3, none⟩ = some (.int .i64 xx) ∧ w'.cell? ⟨b, off + k * 8 + 4, none⟩ = some (.int .i64 ll) ∧ w'.cell? ⟨b, off + k * 8 + 5, none⟩ = some (.slice Ar nr cr) ∧ w'.cell? ⟨b, off + k * 8 + 6, none⟩ = some (.slice Aw nw cw) ∧ w'.cell? ⟨b, off + k * 8 + 7, none⟩ = some (.bool yy) ∧ w'.cell? ⟨b', off' + k * 8, none⟩ = some (.int .i64 tm) ∧ w'.cell? ⟨b', off' + k * 8 + 1, none⟩ = some (.int .i64 kk2) ∧ w'.cell? ⟨b', off' + k * 8 + 2, none⟩ = some (.int .i64 tt2) ∧ w'.cell? ⟨b', off' + k * 8 + 3, none⟩ = some (.int .i64 xx2) ∧ w'.cell? ⟨b', off' + k * 8 + 4, none⟩ = some (.int .i64 ll2) ∧ w'.cell? ⟨b', off' + k * 8 + 5, none⟩ = some (.slice Ar2 nr2 cr2) ∧ w'.cell? ⟨b', off' + k * 8 + 6, none⟩ = some (.slice Aw2 nw2 cw2) ∧ w'.cell? ⟨b', off' + k * 8 + 7, none⟩ = some (.bool yy2))
          (first | exact ⟨c0, c1, c2, c3, c4, c5, c6, c7, d0, d1, d2, d3, d4, d5, d6, d7⟩ | (go_split_ands; exact ⟨kept2 hb4 c0 hb1, kept2 hb4 c1 hb1, kept2 hb4 c2 hb1, kept2 hb4 c3 hb1, kept2 hb4 c4 hb1, kept2 hb4 c5 hb1, kept2 hb4 c6 hb1, kept2 hb4 c7 hb1, kept2 hb4 d0 hb2, kept2 hb4 d1 hb2, kept2 hb4 d2 hb2, kept2 hb4 d3 hb2, kept2 hb4 d4 hb2, kept2 hb4 d5 hb2, kept2 hb4 d6 hb2, kept2 hb4 d7 hb2⟩))
          ((go_at_call 156; (with_reducible refine HCall.out.mono ?_); rintro e w4 ⟨rfl, hb4⟩))
        have HBB := Lib.hid (Below.trans (b := wr.drew) HB.out.drew (hb4.mono HB.out.size))
        clear hb4 c0 c1 c2 c3 c4 c5 c6 c7 d0 d1 d2 d3 d4 d5 d6 d7
        cases g9 with
        | true =>
          go_wp2
          go_roundw
          case rel => exact ⟨k + 1, by omega, by go_num, Lib.hid (by have h9 := HRS.out; simp at h9; omega), HBB.out⟩
          case measure => simp [intOf]; omega
        | false =>
          have htk : tot = k := by have h9 := HRS.out; simpa using h9
          have HNO := Lib.hid (ret_bool (show false = r by rw [HRR.out, htk]; exact (decide_eq_false (by omega)).symm))
          clear htk
          go_wp2
          go_ret
          exact ⟨HNO.out, HBB.out⟩
    · have HYES := Lib.hid (ret_bool (show true = r by rw [HRR.out, HR.out]; exact (decide_eq_true (by omega)).symm))
      have HBB := Lib.hid hb
      have hkm : k = m := by omega
      subst hkm
      clear HR hb
      go_wp2
      go_ret
      exact ⟨HYES.out, HBB.out⟩
end Go.Proofs.Ytkhndofplebcaaa.Gr
