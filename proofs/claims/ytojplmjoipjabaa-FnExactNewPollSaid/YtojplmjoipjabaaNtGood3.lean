/-
  Contracts for the model's checks of a net: l7Good, GoodNet.
-/
import Derived.Test.YtojplmjoipjabaaNtGood2
namespace Go.Proofs.Ytojplmjoipjabaa.Nt
open Go.RowKit
set_option linter.unusedVariables false
set_option linter.unusedSimpArgs false

theorem inB_len (n : Nat) : inB (n : Int) 1 5 = (decide (1 ≤ n) && decide (n ≤ 5)) := by
  unfold inB
  congr 1 <;> rw [decide_eq_decide] <;> omega
theorem netB_parts (now far : Int) (is : List Int) (ls : List (Int × Int × Int × ByteArray)) (n n' : Nat) (hn : is.length = n) (hn' : ls.length = n') : netB now is far ls = (inB now 0 100000 && (inB (n : Int) 1 5 && ((is.all fun h => inB h 0 2) && (inB far 0 20 && (decide (n' ≤ 60) && undB n 0 ls))))) := by
  unfold netB homesB
  rw [hn, hn', inB_len]
  simp only [Bool.and_assoc]
theorem gl_split {n : Nat} {f t d b : Int} {s : ByteArray} (hb : 0 ≤ b) : (glB n (f, t, d, s) && decide (b ≤ d)) = (nodeB n f && (nodeB n t && (decide (f ≠ t) && (inB d b 100200 && inB (s.size : Int) 1 40)))) := by
  unfold glB inB
  simp only
  cases nodeB n f <;> cases nodeB n t <;> simp only [Bool.false_and, Bool.true_and]
  rw [Bool.eq_iff_iff]
  simp only [Bool.and_eq_true, decide_eq_true_eq]
  omega

set_option maxRecDepth 100000 in
set_option maxHeartbeats 8000000 in
theorem l7Good_any (now far : Int) (A A' : Option Addr) (n c n' c' : Nat) (is : List Int) (ls : List (Int × Int × Int × ByteArray)) (B : Nat) (w : World) (hn : is.length = n) (hn' : ls.length = n') (h : IntsB w B A is) (h' : LetsB w B A' ls) (hB : B ≤ w.heap.size) (hm : LSmall ls) (hl : n ≤ 1048576) :
    Calls Try.prog 72 #[.agg #[.int .i64 now, .slice A n c, .int .i64 far, .slice A' n' c']] w fun e w' => e = .returned (.bool (netB now is far ls)) ∧ Below w.heap.size w w' := by
  have hb0 := below1 w (.cells #[.int .i64 now, .slice A n c, .int .i64 far, .slice A' n' c'] 35)
  have hbk := heap_alloc_new w (.cells #[.int .i64 now, .slice A n c, .int .i64 far, .slice A' n' c'] 35)
  have HT := Lib.hid (fun W => l1In_any now 0 100000 W)
  have HL := Lib.hid (fun W => l1In_any (n : Int) 1 5 W)
  have HA := Lib.hid (fun W (hW : Below w.heap.size w W) => l1All_any A n c is B W hn (h.below (hW.mono hB)) hl)
  have HF := Lib.hid (fun W => l1In_any far 0 20 W)
  obtain ⟨r, hr⟩ : ∃ r, r = netB now is far ls := ⟨_, rfl⟩
  rw [← hr]
  rw [netB_parts now far is ls n n' hn hn'] at hr
  have hm1 : n' ≤ 2000000 := by rw [← hn']; exact hm.1
  have hm2 : (n' : Int) ≤ 2000000 := by omega
  cases q0 : inB now 0 100000 with
  | false =>
    rw [q0] at HT hr
    have HR := Lib.hid (ret_bool (show false = r by rw [hr]; rfl))
    clear q0 hr h h' hm hbk
    go_enter Try.func72, Try.ntmps72
    go_wp2_with fail
    refine (HT.out _).mono ?_
    rintro e w1 ⟨rfl, rfl⟩
    go_wp2
    go_ret
    exact ⟨HR.out, hb0⟩
  | true =>
    rw [q0] at HT hr
    rw [Bool.true_and] at hr
    clear q0
    cases q1 : inB (n : Int) 1 5 with
    | false =>
      rw [q1] at HL hr
      have HR := Lib.hid (ret_bool (show false = r by rw [hr]; rfl))
      clear q1 hr h h' hm hbk
      go_enter Try.func72, Try.ntmps72
      go_wp2_with fail
      refine (HT.out _).mono ?_
      rintro e w1 ⟨rfl, rfl⟩
      go_wp2_with fail
      refine (HL.out _).mono ?_
      rintro e w1 ⟨rfl, rfl⟩
      go_wp2
      go_ret
      exact ⟨HR.out, hb0⟩
    | true =>
      rw [q1] at HL hr
      rw [Bool.true_and] at hr
      clear q1
      cases q2 : (is.all fun h => inB h 0 2) with
      | false =>
        rw [q2] at HA hr
        have HR := Lib.hid (ret_bool (show false = r by rw [hr]; rfl))
        clear q2 hr h h' hm hbk
        go_enter Try.func72, Try.ntmps72
        go_wp2_with fail
        refine (HT.out _).mono ?_
        rintro e w1 ⟨rfl, rfl⟩
        go_wp2_with fail
        refine (HL.out _).mono ?_
        rintro e w1 ⟨rfl, rfl⟩
        go_wp2_with fail
        refine (HA.out _ hb0).mono ?_
        rintro e w1 ⟨rfl, rfl⟩
        go_wp2
        go_ret
        exact ⟨HR.out, hb0⟩
      | true =>
        rw [q2] at HA hr
        rw [Bool.true_and] at hr
        clear q2
        cases q3 : inB far 0 20 with
        | false =>
          rw [q3] at HF hr
          have HR := Lib.hid (ret_bool (show false = r by rw [hr]; rfl))
          clear q3 hr h h' hm hbk
          go_enter Try.func72, Try.ntmps72
          go_wp2_with fail
          refine (HT.out _).mono ?_
          rintro e w1 ⟨rfl, rfl⟩
          go_wp2_with fail
          refine (HL.out _).mono ?_
          rintro e w1 ⟨rfl, rfl⟩
          go_wp2_with fail
          refine (HA.out _ hb0).mono ?_
          rintro e w1 ⟨rfl, rfl⟩
          go_wp2_with fail
          refine (HF.out _).mono ?_
          rintro e w1 ⟨rfl, rfl⟩
          go_wp2
          go_ret
          exact ⟨HR.out, hb0⟩
        | true =>
          rw [q3] at HF hr
          rw [Bool.true_and] at hr
          clear q3
          by_cases h60 : n' ≤ 60
          · rw [decide_eq_true h60, Bool.true_and] at hr
            have h60i : decide ((60 : Int) < (n' : Int)) = false := by simp; omega
            have hge := Nat.le_of_eq hn'
            have hle := Nat.le_of_eq hn'.symm
            have HS := Lib.hid h'
            have HM := Lib.hid hm.2
            have HR := Lib.hid (show r = undB n 0 (ls.drop 0) from hr)
            have HB0 := Lib.hid hb0
            have HBK := Lib.hid hbk
            clear h h' hm hr hbk hn' hn
            go_enter Try.func72, Try.ntmps72
            go_wp2_with fail
            refine (HT.out _).mono ?_
            rintro e w1 ⟨rfl, rfl⟩
            go_wp2_with fail
            refine (HL.out _).mono ?_
            rintro e w1 ⟨rfl, rfl⟩
            go_wp2_with fail
            refine (HA.out _ hb0).mono ?_
            rintro e w1 ⟨rfl, rfl⟩
            go_wp2_with fail
            refine (HF.out _).mono ?_
            rintro e w1 ⟨rfl, rfl⟩
            go_wp2
            clear hb0
            go_loopw [3, 4, 5] (fun b i x wr => ∃ (k : Nat) (bt : Int), k ≤ n' ∧ i = .int .i64 k ∧ b = .int .i64 bt ∧ 0 ≤ bt ∧ Hid (r = undB n bt (ls.drop k)) ∧ Hid (Below w.heap.size w wr) ∧ Hid (wr.heap[w.heap.size]? = some (.cells #[.int .i64 now, .slice A n c, .int .i64 far, .slice A' n' c'] 35 (0, 0)))) (fun _ i _ _ => n' - (intOf i).toNat)
            case atStart => exact ⟨0, 0, by omega, rfl, rfl, by omega, HR, HB0.out, HBK.out⟩
            case round =>
              clear HR HB0 HBK HT HL HA HF
              obtain ⟨k, bt, hk, rfl, rfl, hbt, HR, HB, HK⟩ := hrel
              by_cases hlt : k < n'
              · obtain ⟨b, off, rfl, hbB, hc⟩ := HS.out.get (by omega)
                obtain ⟨hc0, hc1, hc2, hc3⟩ := hc k (by omega)
                have c0 := (HB.out.cell (p := ⟨b, off + k * 4, none⟩) (Nat.lt_of_lt_of_le hbB hB)).trans hc0
                have c1 := (HB.out.cell (p := ⟨b, off + k * 4 + 1, none⟩) (Nat.lt_of_lt_of_le hbB hB)).trans hc1
                have c2 := (HB.out.cell (p := ⟨b, off + k * 4 + 2, none⟩) (Nat.lt_of_lt_of_le hbB hB)).trans hc2
                have c3 := (HB.out.cell (p := ⟨b, off + k * 4 + 3, none⟩) (Nat.lt_of_lt_of_le hbB hB)).trans hc3
                have HRS := Lib.hid (HR.out.trans (undB_step (show k < ls.length by omega)))
                have hsm := HM.out _ (List.getElem_mem (show k < ls.length by omega))
                obtain ⟨y, hy⟩ : ∃ y, y = ls[k]'(by omega) := ⟨_, rfl⟩
                rw [← hy] at c0 c1 c2 c3 HRS hsm
                obtain ⟨f, t, d, s⟩ := y
                simp only at c0 c1 c2 c3 HRS hsm
                rw [← Bool.and_assoc, gl_split hbt] at HRS
                obtain ⟨rest, hrest⟩ : ∃ u, u = undB n d (ls.drop (k + 1)) := ⟨_, rfl⟩
                rw [← hrest] at HRS
                have HREST := Lib.hid hrest
                have hk0 : (0 : Int) ≤ (k : Int) := by omega
                have hkn : (k : Int) < (n' : Int) := by omega
                have hsi : (s.size : Int) ≤ 1048576 := by omega
                have C1 := Lib.hid (fun W => l7Node_any now far A (some ⟨b, off, none⟩) n c n' c' f W hl)
                have C2 := Lib.hid (fun W => l7Node_any now far A (some ⟨b, off, none⟩) n c n' c' t W hl)
                have C3 := Lib.hid (fun W => l1In_any d bt 100200 W)
                have C4 := Lib.hid (fun W => l1In_any (s.size : Int) 1 40 W)
                have k00 := cell_of_row _ _ 0 _ 35 (0, 0) HK.out
                have k01 := cell_of_row _ _ 1 _ 35 (0, 0) HK.out
                have k02 := cell_of_row _ _ 2 _ 35 (0, 0) HK.out
                have k03 := cell_of_row _ _ 3 _ 35 (0, 0) HK.out
                have hlw := lt_blk HK.out
                have hbx := heap_alloc_new wr (.cells #[.int .i64 f, .int .i64 t, .int .i64 d, .string s] 66)
                have hb1 := below1 wr (.cells #[.int .i64 f, .int .i64 t, .int .i64 d, .string s] 66)
                have HX0 := Lib.hid hbx
                have HB0 := Lib.hid (HB.out.trans (hb1.mono HB.out.size))
                have HK0 := Lib.hid ((hb1.block w.heap.size hlw).trans HK.out)
                clear hc hc0 hc1 hc2 hc3 hy hsm hbx hb1 HR hrest HB HK
                cases p1 : nodeB n f with
                | false =>
                  rw [p1] at C1
                  have HNO := Lib.hid (ret_bool (show false = r by rw [HRS.out]; rw [p1]; rfl))
                  clear p1 HRS
                  go_wp2_with fail
                  refine (C1.out _).mono ?_
                  rintro e w1 ⟨rfl, hb1⟩
                  have HK1 := Lib.hid ((hb1.block w.heap.size (lt_blk HK0.out)).trans HK0.out)
                  have HX1 := Lib.hid ((hb1.block wr.heap.size (lt_blk HX0.out)).trans HX0.out)
                  have HB1 := Lib.hid (HB0.out.trans (hb1.mono HB0.out.size))
                  clear hb1
                  clear k00 k01 k02 k03 c0 c1 c2 c3
                  have k10 := cell_of_row _ _ 0 _ 35 (0, 0) HK1.out
                  have k11 := cell_of_row _ _ 1 _ 35 (0, 0) HK1.out
                  have k12 := cell_of_row _ _ 2 _ 35 (0, 0) HK1.out
                  have k13 := cell_of_row _ _ 3 _ 35 (0, 0) HK1.out
                  have x10 := cell_of_row _ _ 0 _ 66 (0, 0) HX1.out
                  have x11 := cell_of_row _ _ 1 _ 66 (0, 0) HX1.out
                  have x12 := cell_of_row _ _ 2 _ 66 (0, 0) HX1.out
                  have x13 := cell_of_row _ _ 3 _ 66 (0, 0) HX1.out
                  go_wp2
                  go_ret
                  exact ⟨HNO.out, HB1.out⟩
                | true =>
                  rw [p1] at C1 HRS
                  clear p1
                  cases p2 : nodeB n t with
                  | false =>
                    rw [p2] at C2
                    have HNO := Lib.hid (ret_bool (show false = r by rw [HRS.out]; rw [p2]; rfl))
                    clear p2 HRS
                    go_wp2_with fail
                    refine (C1.out _).mono ?_
                    rintro e w1 ⟨rfl, hb1⟩
                    have HK1 := Lib.hid ((hb1.block w.heap.size (lt_blk HK0.out)).trans HK0.out)
                    have HX1 := Lib.hid ((hb1.block wr.heap.size (lt_blk HX0.out)).trans HX0.out)
                    have HB1 := Lib.hid (HB0.out.trans (hb1.mono HB0.out.size))
                    clear hb1
                    clear k00 k01 k02 k03 c0 c1 c2 c3
                    have k10 := cell_of_row _ _ 0 _ 35 (0, 0) HK1.out
                    have k11 := cell_of_row _ _ 1 _ 35 (0, 0) HK1.out
                    have k12 := cell_of_row _ _ 2 _ 35 (0, 0) HK1.out
                    have k13 := cell_of_row _ _ 3 _ 35 (0, 0) HK1.out
                    have x10 := cell_of_row _ _ 0 _ 66 (0, 0) HX1.out
                    have x11 := cell_of_row _ _ 1 _ 66 (0, 0) HX1.out
                    have x12 := cell_of_row _ _ 2 _ 66 (0, 0) HX1.out
                    have x13 := cell_of_row _ _ 3 _ 66 (0, 0) HX1.out
                    go_wp2_with fail
                    refine (C2.out _).mono ?_
                    rintro e w2 ⟨rfl, hb2⟩
                    have HK2 := Lib.hid ((hb2.block w.heap.size (lt_blk HK1.out)).trans HK1.out)
                    have HX2 := Lib.hid ((hb2.block wr.heap.size (lt_blk HX1.out)).trans HX1.out)
                    have HB2 := Lib.hid (HB1.out.trans (hb2.mono HB1.out.size))
                    clear hb2
                    clear k10 k11 k12 k13 x10 x11 x12 x13
                    have k20 := cell_of_row _ _ 0 _ 35 (0, 0) HK2.out
                    have k21 := cell_of_row _ _ 1 _ 35 (0, 0) HK2.out
                    have k22 := cell_of_row _ _ 2 _ 35 (0, 0) HK2.out
                    have k23 := cell_of_row _ _ 3 _ 35 (0, 0) HK2.out
                    have x20 := cell_of_row _ _ 0 _ 66 (0, 0) HX2.out
                    have x21 := cell_of_row _ _ 1 _ 66 (0, 0) HX2.out
                    have x22 := cell_of_row _ _ 2 _ 66 (0, 0) HX2.out
                    have x23 := cell_of_row _ _ 3 _ 66 (0, 0) HX2.out
                    go_wp2
                    go_ret
                    exact ⟨HNO.out, HB2.out⟩
                  | true =>
                    rw [p2] at C2 HRS
                    clear p2
                    by_cases p3 : f = t
                    · have p3b : (f == t) = true := by simpa using p3
                      have HNO := Lib.hid (ret_bool (show false = r by rw [HRS.out]; rw [decide_eq_false (by simpa using p3)]; rfl))
                      clear p3 HRS
                      go_wp2_with fail
                      refine (C1.out _).mono ?_
                      rintro e w1 ⟨rfl, hb1⟩
                      have HK1 := Lib.hid ((hb1.block w.heap.size (lt_blk HK0.out)).trans HK0.out)
                      have HX1 := Lib.hid ((hb1.block wr.heap.size (lt_blk HX0.out)).trans HX0.out)
                      have HB1 := Lib.hid (HB0.out.trans (hb1.mono HB0.out.size))
                      clear hb1
                      clear k00 k01 k02 k03 c0 c1 c2 c3
                      have k10 := cell_of_row _ _ 0 _ 35 (0, 0) HK1.out
                      have k11 := cell_of_row _ _ 1 _ 35 (0, 0) HK1.out
                      have k12 := cell_of_row _ _ 2 _ 35 (0, 0) HK1.out
                      have k13 := cell_of_row _ _ 3 _ 35 (0, 0) HK1.out
                      have x10 := cell_of_row _ _ 0 _ 66 (0, 0) HX1.out
                      have x11 := cell_of_row _ _ 1 _ 66 (0, 0) HX1.out
                      have x12 := cell_of_row _ _ 2 _ 66 (0, 0) HX1.out
                      have x13 := cell_of_row _ _ 3 _ 66 (0, 0) HX1.out
                      go_wp2_with fail
                      refine (C2.out _).mono ?_
                      rintro e w2 ⟨rfl, hb2⟩
                      have HK2 := Lib.hid ((hb2.block w.heap.size (lt_blk HK1.out)).trans HK1.out)
                      have HX2 := Lib.hid ((hb2.block wr.heap.size (lt_blk HX1.out)).trans HX1.out)
                      have HB2 := Lib.hid (HB1.out.trans (hb2.mono HB1.out.size))
                      clear hb2
                      clear k10 k11 k12 k13 x10 x11 x12 x13
                      have k20 := cell_of_row _ _ 0 _ 35 (0, 0) HK2.out
                      have k21 := cell_of_row _ _ 1 _ 35 (0, 0) HK2.out
                      have k22 := cell_of_row _ _ 2 _ 35 (0, 0) HK2.out
                      have k23 := cell_of_row _ _ 3 _ 35 (0, 0) HK2.out
                      have x20 := cell_of_row _ _ 0 _ 66 (0, 0) HX2.out
                      have x21 := cell_of_row _ _ 1 _ 66 (0, 0) HX2.out
                      have x22 := cell_of_row _ _ 2 _ 66 (0, 0) HX2.out
                      have x23 := cell_of_row _ _ 3 _ 66 (0, 0) HX2.out
                      go_wp2
                      go_ret
                      exact ⟨HNO.out, HB2.out⟩
                    have p3b : (f == t) = false := by simpa using p3
                    rw [decide_eq_true p3] at HRS
                    cases p4 : inB d bt 100200 with
                    | false =>
                      rw [p4] at C3
                      have HNO := Lib.hid (ret_bool (show false = r by rw [HRS.out]; rw [p4]; rfl))
                      clear p3 p4 HRS
                      go_wp2_with fail
                      refine (C1.out _).mono ?_
                      rintro e w1 ⟨rfl, hb1⟩
                      have HK1 := Lib.hid ((hb1.block w.heap.size (lt_blk HK0.out)).trans HK0.out)
                      have HX1 := Lib.hid ((hb1.block wr.heap.size (lt_blk HX0.out)).trans HX0.out)
                      have HB1 := Lib.hid (HB0.out.trans (hb1.mono HB0.out.size))
                      clear hb1
                      clear k00 k01 k02 k03 c0 c1 c2 c3
                      have k10 := cell_of_row _ _ 0 _ 35 (0, 0) HK1.out
                      have k11 := cell_of_row _ _ 1 _ 35 (0, 0) HK1.out
                      have k12 := cell_of_row _ _ 2 _ 35 (0, 0) HK1.out
                      have k13 := cell_of_row _ _ 3 _ 35 (0, 0) HK1.out
                      have x10 := cell_of_row _ _ 0 _ 66 (0, 0) HX1.out
                      have x11 := cell_of_row _ _ 1 _ 66 (0, 0) HX1.out
                      have x12 := cell_of_row _ _ 2 _ 66 (0, 0) HX1.out
                      have x13 := cell_of_row _ _ 3 _ 66 (0, 0) HX1.out
                      go_wp2_with fail
                      refine (C2.out _).mono ?_
                      rintro e w2 ⟨rfl, hb2⟩
                      have HK2 := Lib.hid ((hb2.block w.heap.size (lt_blk HK1.out)).trans HK1.out)
                      have HX2 := Lib.hid ((hb2.block wr.heap.size (lt_blk HX1.out)).trans HX1.out)
                      have HB2 := Lib.hid (HB1.out.trans (hb2.mono HB1.out.size))
                      clear hb2
                      clear k10 k11 k12 k13 x10 x11 x12 x13
                      have k20 := cell_of_row _ _ 0 _ 35 (0, 0) HK2.out
                      have k21 := cell_of_row _ _ 1 _ 35 (0, 0) HK2.out
                      have k22 := cell_of_row _ _ 2 _ 35 (0, 0) HK2.out
                      have k23 := cell_of_row _ _ 3 _ 35 (0, 0) HK2.out
                      have x20 := cell_of_row _ _ 0 _ 66 (0, 0) HX2.out
                      have x21 := cell_of_row _ _ 1 _ 66 (0, 0) HX2.out
                      have x22 := cell_of_row _ _ 2 _ 66 (0, 0) HX2.out
                      have x23 := cell_of_row _ _ 3 _ 66 (0, 0) HX2.out
                      go_wp2_with fail
                      refine (C3.out _).mono ?_
                      rintro e w1 ⟨rfl, rfl⟩
                      go_wp2
                      go_ret
                      exact ⟨HNO.out, HB2.out⟩
                    | true =>
                      rw [p4] at C3 HRS
                      cases p5 : inB (s.size : Int) 1 40 with
                      | false =>
                        rw [p5] at C4
                        have HNO := Lib.hid (ret_bool (show false = r by rw [HRS.out]; rw [p5]; rfl))
                        clear p3 p4 p5 HRS
                        go_wp2_with fail
                        refine (C1.out _).mono ?_
                        rintro e w1 ⟨rfl, hb1⟩
                        have HK1 := Lib.hid ((hb1.block w.heap.size (lt_blk HK0.out)).trans HK0.out)
                        have HX1 := Lib.hid ((hb1.block wr.heap.size (lt_blk HX0.out)).trans HX0.out)
                        have HB1 := Lib.hid (HB0.out.trans (hb1.mono HB0.out.size))
                        clear hb1
                        clear k00 k01 k02 k03 c0 c1 c2 c3
                        have k10 := cell_of_row _ _ 0 _ 35 (0, 0) HK1.out
                        have k11 := cell_of_row _ _ 1 _ 35 (0, 0) HK1.out
                        have k12 := cell_of_row _ _ 2 _ 35 (0, 0) HK1.out
                        have k13 := cell_of_row _ _ 3 _ 35 (0, 0) HK1.out
                        have x10 := cell_of_row _ _ 0 _ 66 (0, 0) HX1.out
                        have x11 := cell_of_row _ _ 1 _ 66 (0, 0) HX1.out
                        have x12 := cell_of_row _ _ 2 _ 66 (0, 0) HX1.out
                        have x13 := cell_of_row _ _ 3 _ 66 (0, 0) HX1.out
                        go_wp2_with fail
                        refine (C2.out _).mono ?_
                        rintro e w2 ⟨rfl, hb2⟩
                        have HK2 := Lib.hid ((hb2.block w.heap.size (lt_blk HK1.out)).trans HK1.out)
                        have HX2 := Lib.hid ((hb2.block wr.heap.size (lt_blk HX1.out)).trans HX1.out)
                        have HB2 := Lib.hid (HB1.out.trans (hb2.mono HB1.out.size))
                        clear hb2
                        clear k10 k11 k12 k13 x10 x11 x12 x13
                        have k20 := cell_of_row _ _ 0 _ 35 (0, 0) HK2.out
                        have k21 := cell_of_row _ _ 1 _ 35 (0, 0) HK2.out
                        have k22 := cell_of_row _ _ 2 _ 35 (0, 0) HK2.out
                        have k23 := cell_of_row _ _ 3 _ 35 (0, 0) HK2.out
                        have x20 := cell_of_row _ _ 0 _ 66 (0, 0) HX2.out
                        have x21 := cell_of_row _ _ 1 _ 66 (0, 0) HX2.out
                        have x22 := cell_of_row _ _ 2 _ 66 (0, 0) HX2.out
                        have x23 := cell_of_row _ _ 3 _ 66 (0, 0) HX2.out
                        go_wp2_with fail
                        refine (C3.out _).mono ?_
                        rintro e w1 ⟨rfl, rfl⟩
                        go_wp2_with fail
                        refine (C4.out _).mono ?_
                        rintro e w1 ⟨rfl, rfl⟩
                        go_wp2
                        go_ret
                        exact ⟨HNO.out, HB2.out⟩
                      | true =>
                        rw [p5] at C4 HRS
                        have hd0 := (inB_true p4).1
                        have hd1 : 0 ≤ d := by omega
                        have HR2 := Lib.hid (show r = undB n d (ls.drop (k + 1)) by rw [HRS.out, HREST.out]; rfl)
                        clear p3 p4 p5 HRS hd0
                        go_wp2_with fail
                        refine (C1.out _).mono ?_
                        rintro e w1 ⟨rfl, hb1⟩
                        have HK1 := Lib.hid ((hb1.block w.heap.size (lt_blk HK0.out)).trans HK0.out)
                        have HX1 := Lib.hid ((hb1.block wr.heap.size (lt_blk HX0.out)).trans HX0.out)
                        have HB1 := Lib.hid (HB0.out.trans (hb1.mono HB0.out.size))
                        clear hb1
                        clear k00 k01 k02 k03 c0 c1 c2 c3
                        have k10 := cell_of_row _ _ 0 _ 35 (0, 0) HK1.out
                        have k11 := cell_of_row _ _ 1 _ 35 (0, 0) HK1.out
                        have k12 := cell_of_row _ _ 2 _ 35 (0, 0) HK1.out
                        have k13 := cell_of_row _ _ 3 _ 35 (0, 0) HK1.out
                        have x10 := cell_of_row _ _ 0 _ 66 (0, 0) HX1.out
                        have x11 := cell_of_row _ _ 1 _ 66 (0, 0) HX1.out
                        have x12 := cell_of_row _ _ 2 _ 66 (0, 0) HX1.out
                        have x13 := cell_of_row _ _ 3 _ 66 (0, 0) HX1.out
                        go_wp2_with fail
                        refine (C2.out _).mono ?_
                        rintro e w2 ⟨rfl, hb2⟩
                        have HK2 := Lib.hid ((hb2.block w.heap.size (lt_blk HK1.out)).trans HK1.out)
                        have HX2 := Lib.hid ((hb2.block wr.heap.size (lt_blk HX1.out)).trans HX1.out)
                        have HB2 := Lib.hid (HB1.out.trans (hb2.mono HB1.out.size))
                        clear hb2
                        clear k10 k11 k12 k13 x10 x11 x12 x13
                        have k20 := cell_of_row _ _ 0 _ 35 (0, 0) HK2.out
                        have k21 := cell_of_row _ _ 1 _ 35 (0, 0) HK2.out
                        have k22 := cell_of_row _ _ 2 _ 35 (0, 0) HK2.out
                        have k23 := cell_of_row _ _ 3 _ 35 (0, 0) HK2.out
                        have x20 := cell_of_row _ _ 0 _ 66 (0, 0) HX2.out
                        have x21 := cell_of_row _ _ 1 _ 66 (0, 0) HX2.out
                        have x22 := cell_of_row _ _ 2 _ 66 (0, 0) HX2.out
                        have x23 := cell_of_row _ _ 3 _ 66 (0, 0) HX2.out
                        go_wp2_with fail
                        refine (C3.out _).mono ?_
                        rintro e w1 ⟨rfl, rfl⟩
                        go_wp2_with fail
                        refine (C4.out _).mono ?_
                        rintro e w1 ⟨rfl, rfl⟩
                        go_wp2
                        go_roundw
                        case rel => exact ⟨k + 1, d, by omega, by go_num, rfl, hd1, HR2, HB2.out, HK2.out⟩
                        case measure => simp [intOf]; omega
              · have HYES := Lib.hid (ret_bool (show true = r by rw [HR.out, undB_end (by omega)]))
                have k00 := cell_of_row _ _ 3 _ 35 (0, 0) HK.out
                go_wp2
                go_ret
                exact ⟨HYES.out, HB.out⟩
          · rw [decide_eq_false h60, Bool.false_and] at hr
            have h60i : decide ((60 : Int) < (n' : Int)) = true := by simp; omega
            have HR := Lib.hid (ret_bool hr.symm)
            clear hr h h' hm hbk hn hn'
            go_enter Try.func72, Try.ntmps72
            go_wp2_with fail
            refine (HT.out _).mono ?_
            rintro e w1 ⟨rfl, rfl⟩
            go_wp2_with fail
            refine (HL.out _).mono ?_
            rintro e w1 ⟨rfl, rfl⟩
            go_wp2_with fail
            refine (HA.out _ hb0).mono ?_
            rintro e w1 ⟨rfl, rfl⟩
            go_wp2_with fail
            refine (HF.out _).mono ?_
            rintro e w1 ⟨rfl, rfl⟩
            go_wp2
            go_ret
            exact ⟨HR.out, hb0⟩

set_option maxHeartbeats 400000 in
theorem specGoodNet_any (now far : Int) (A A' : Option Addr) (n c n' c' : Nat) (is : List Int) (ls : List (Int × Int × Int × ByteArray)) (B : Nat) (w : World) (hn : is.length = n) (hn' : ls.length = n') (h : IntsB w B A is) (h' : LetsB w B A' ls) (hB : B ≤ w.heap.size) (hm : LSmall ls) (hl : n ≤ 1048576) :
    Calls Try.prog 44 #[.agg #[.int .i64 now, .slice A n c, .int .i64 far, .slice A' n' c']] w fun e w' => e = .returned (.bool (netB now is far ls)) ∧ Below w.heap.size w w' := by
  have hb0 := below1 w (.cells #[.int .i64 now, .slice A n c, .int .i64 far, .slice A' n' c'] 35)
  have HG := Lib.hid (fun W (hW : Below w.heap.size w W) => l7Good_any now far A A' n c n' c' is ls B W hn hn' (h.below (hW.mono hB)) (h'.below (hW.mono hB)) (Nat.le_trans hB hW.size) hm hl)
  clear h h' hm hn hn'
  go_enter Try.func44, Try.ntmps44
  go_wp2_with fail
  refine (HG.out _ hb0).mono ?_
  rintro e w1 ⟨rfl, hb1⟩
  have HB := Lib.hid (hb0.trans (hb1.mono hb0.size))
  clear hb1
  go_wp2
  go_ret
  exact ⟨rfl, HB.out⟩
end Go.Proofs.Ytojplmjoipjabaa.Nt
