/-
  The contract for a record as bytes, by the program: appendFlag, RecBytes.
-/
import Derived.Test.YtkhndofplebcaaaRecB
import Derived.Test.YtkhndofplebcaaaC1
namespace Go.Proofs.Ytkhndofplebcaaa
open Go.RowKit CM
set_option linter.unusedVariables false

set_option maxRecDepth 100000 in
set_option maxHeartbeats 1000000 in
theorem appendFlag_any (v : Value) (xs : List UInt8) (b : Bool) (base : Nat) (w : World) (hown : w.ownsRow base 5 1 v xs.length (C1.B8 xs)) (hbase : base ≤ w.heap.size) (hlen : xs.length ≤ 1000000) :
    Calls Try.prog 89 #[v, .bool b] w fun e w' => ∃ v', e = .returned v' ∧ w'.ownsRow base 5 1 v' (xs ++ [flagB b]).length (C1.B8 (xs ++ [flagB b])) ∧ Below base w w' ∧ C1.Oth w w' := by
  obtain ⟨i0, hi, hz0, hz1, hz2⟩ := info_parts C1.info5
  cases b with
  | true =>
    go_enter Try.func89, Try.ntmps89
    go_wp2_with (at_builtin; refine wpList_append_own _ rfl (.tmp 6) (.tmp 7) 115 rfl base 5 i0 (.int .u8 0) 1 1 Try.underlying115 hi hz0 hz1 hz2 rfl (by decide) _ _ _ rfl (hown.alloc _) ⟨w.heap.size, 0, none⟩ 1 1 [.int .u8 1] rfl rfl (C1.one_at _ _ _) (C1.one_int _ _) (by unfold maxLen; omega) (by omega) (by simp; omega) ?_; intro v1 w1 hown1 hg1 _)
    go_ret
    exact ⟨_, rfl, C1.own_snoc (b := 1) rfl hown1, C1.below_app (Below.refl _ _) hbase hown hg1, (C1.Oth.refl w).app hown hg1⟩
  | false =>
    go_enter Try.func89, Try.ntmps89
    go_wp2_with (at_builtin; refine wpList_append_own _ rfl (.tmp 9) (.tmp 10) 115 rfl base 5 i0 (.int .u8 0) 1 1 Try.underlying115 hi hz0 hz1 hz2 rfl (by decide) _ _ _ rfl (hown.alloc _) ⟨w.heap.size, 0, none⟩ 1 1 [.int .u8 0] rfl rfl (C1.one_at _ _ _) (C1.one_int _ _) (by unfold maxLen; omega) (by omega) (by simp; omega) ?_; intro v1 w1 hown1 hg1 _)
    go_ret
    exact ⟨_, rfl, C1.own_snoc (b := 0) rfl hown1, C1.below_app (Below.refl _ _) hbase hown hg1, (C1.Oth.refl w).app hown hg1⟩

theorem idx4_0 (a b c d : Int) (W : World) : (Instr.index 117 (.agg #[.int .i64 a, .int .i64 b, .int .i64 c, .int .i64 d]) (.int .i64 0)).run Try.prog W = .ok (.int .i64 a) W := by kernel_rfl
theorem idx4_1 (a b c d : Int) (W : World) : (Instr.index 117 (.agg #[.int .i64 a, .int .i64 b, .int .i64 c, .int .i64 d]) (.int .i64 1)).run Try.prog W = .ok (.int .i64 b) W := by kernel_rfl
theorem idx4_2 (a b c d : Int) (W : World) : (Instr.index 117 (.agg #[.int .i64 a, .int .i64 b, .int .i64 c, .int .i64 d]) (.int .i64 2)).run Try.prog W = .ok (.int .i64 c) W := by kernel_rfl
theorem idx4_3 (a b c d : Int) (W : World) : (Instr.index 117 (.agg #[.int .i64 a, .int .i64 b, .int .i64 c, .int .i64 d]) (.int .i64 3)).run Try.prog W = .ok (.int .i64 d) W := by kernel_rfl

/-- A row of bytes of the call's own. -/
def RowBy (w0 : World) (v : Value) (l : List UInt8) (w : World) : Prop := w.ownsRow w0.heap.size 5 1 v l.length (C1.B8 l) ∧ Below w0.heap.size w0 w
theorem row_keep {w w' : World} {base n sz : Nat} {t : TypeId} {v : Value} {xs : List Value} (h : w.ownsRow base t sz v n xs) (hb : Below w.heap.size w w') : w'.ownsRow base t sz v n xs := by
  refine ⟨h.1, ?_⟩
  rcases h.2 with h0 | ⟨g, cap, cur, e1, e2, hh, e3⟩
  · exact .inl h0
  · exact .inr ⟨g, cap, cur, e1, e2, (hb.block g (lt_blk hh)).trans hh, e3⟩

set_option maxRecDepth 100000 in
set_option maxHeartbeats 4000000 in
theorem implRecBytes_yes (k t tm ld : Nat) (y : Bool) (Ar Aw : Option Addr) (nr nw cr cw : Nat) (rs : List ByteArray) (ws : List (ByteArray × ByteArray × Bool)) (B : Nat) (w : World) (hnr : rs.length = nr) (hnw : ws.length = nw) (hr : StrsB w B Ar rs) (hw : WritesB w B Aw ws) (hB : B ≤ w.heap.size) (hsr : SSmall rs) (hsw : WSmall ws) (hv : recB k t tm ld y rs ws = true) :
    Calls Try.prog 43 #[.agg #[.int .i64 (k : Int), .int .i64 (t : Int), .int .i64 (tm : Int), .int .i64 (ld : Int), .slice Ar nr cr, .slice Aw nw cw, .bool y]] w fun e w' => e = .returned (.tuple #[.string ⟨(C1.sealed (recBy k t tm ld y rs ws)).toArray⟩, .bool true]) ∧ Below w.heap.size w w' := by
  have hb1 := below1 w (.cells #[.int .i64 (k : Int), .int .i64 (t : Int), .int .i64 (tm : Int), .int .i64 (ld : Int), .slice Ar nr cr, .slice Aw nw cw, .bool y] 33)
  have kn := heap_alloc_new w (.cells #[.int .i64 (k : Int), .int .i64 (t : Int), .int .i64 (tm : Int), .int .i64 (ld : Int), .slice Ar nr cr, .slice Aw nw cw, .bool y] 33)
  have HG := Lib.hid (implGoodRec_any k t tm ld y Ar Aw nr nw cr cw rs ws B _ hnr hnw (hr.below (hb1.mono hB)) (hw.below (hb1.mono hB)) (Nat.le_trans hB hb1.size) hsr hsw)
  rw [hv] at HG
  obtain ⟨⟨kn1, tn, tmn, ldn, e1, e2, e3, e4, q0, q1, q2, q3, q4⟩, l1, l2, hg, hws⟩ := rec_ok hv
  have hk1 : k ≤ 100000 := by omega
  have hk2 : t ≤ 100000 := by omega
  have hk3 : tm ≤ 100000 := by omega
  have hk4 : ld ≤ 100000 := by omega
  have hn8 : nw ≤ 8 := by omega
  clear e1 e2 e3 e4 q0 q1 q2 q3 q4
  have HB := Lib.hid hb1
  have KN := Lib.hid kn
  have HNW := Lib.hid hnw
  have HSZ := Lib.hid hws
  have HTX := Lib.hid (fun W (hW : Below w.heap.size w W) => C1.implTexts_good Ar nr cr rs W hnr ((hr.below (hW.mono hB)).at (Nat.le_trans hB hW.size)) hg)
  have HWS := Lib.hid (fun W (hW : Below w.heap.size w W) => hw.below (hW.mono hB))
  obtain ⟨A6, hA6⟩ : ∃ A, A = C1.tsum rs rs.length := ⟨_, rfl⟩
  have z6 : A6.length ≤ 570 := by rw [hA6]; have := C1.tsum_len rs rs.length (Nat.le_refl _) (fun j hj _ => hg.2 j hj); omega
  rw [← hA6] at HTX
  have n1 := C1.M.numB_len k
  have n2 := C1.M.numB_len t
  have n3 := C1.M.numB_len tm
  have n4 := C1.M.numB_len ld
  have n5 := C1.M.numB_len nw
  obtain ⟨P1, hP1⟩ : ∃ P, P = C1.M.numB k := ⟨_, rfl⟩
  obtain ⟨P2, hP2⟩ : ∃ P, P = P1 ++ C1.M.numB t := ⟨_, rfl⟩
  obtain ⟨P3, hP3⟩ : ∃ P, P = P2 ++ C1.M.numB tm := ⟨_, rfl⟩
  obtain ⟨P4, hP4⟩ : ∃ P, P = P3 ++ C1.M.numB ld := ⟨_, rfl⟩
  obtain ⟨P5, hP5⟩ : ∃ P, P = P4 ++ [flagB y] := ⟨_, rfl⟩
  obtain ⟨P6, hP6⟩ : ∃ P, P = P5 ++ A6 := ⟨_, rfl⟩
  obtain ⟨P7, hP7⟩ : ∃ P, P = P6 ++ C1.M.numB nw := ⟨_, rfl⟩
  have p1 : P1.length ≤ 10 := by rw [hP1]; omega
  have p2 : P2.length ≤ 20 := by rw [hP2, List.length_append]; omega
  have p3 : P3.length ≤ 30 := by rw [hP3, List.length_append]; omega
  have p4 : P4.length ≤ 40 := by rw [hP4, List.length_append]; omega
  have p5 : P5.length ≤ 41 := by rw [hP5, List.length_append, List.length_singleton]; omega
  have p6 : P6.length ≤ 611 := by rw [hP6, List.length_append]; omega
  have p7 : P7.length ≤ 621 := by rw [hP7, List.length_append]; omega
  have hhead : P7 = headBy k t tm ld y rs ws.length := by rw [hP7, hP6, hP5, hP4, hP3, hP2, hP1, hA6, ← hnw]; rfl
  have HH := Lib.hid hhead
  have HA1 := Lib.hid (fun b v W h1 h2 => C1.appendNum_oth v [] k b W h1 h2 (by omega) (by simp))
  rw [List.nil_append, ← hP1] at HA1
  have HA2 := Lib.hid (fun b v W h1 h2 => C1.appendNum_oth v P1 t b W h1 h2 (by omega) (by omega))
  rw [← hP2] at HA2
  have HA3 := Lib.hid (fun b v W h1 h2 => C1.appendNum_oth v P2 tm b W h1 h2 (by omega) (by omega))
  rw [← hP3] at HA3
  have HA4 := Lib.hid (fun b v W h1 h2 => C1.appendNum_oth v P3 ld b W h1 h2 (by omega) (by omega))
  rw [← hP4] at HA4
  have HA5 := Lib.hid (fun b v W h1 h2 => appendFlag_any v P4 y b W h1 h2 (by omega))
  rw [← hP5] at HA5
  have HA7 := Lib.hid (fun b v W h1 h2 => C1.appendNum_oth v P6 nw b W h1 h2 (by omega) (by omega))
  rw [← hP7] at HA7
  have HP6 := Lib.hid hP6
  obtain ⟨i0, hi, hz0, hz1, hz2⟩ := info_parts C1.info5
  have hlt0 := lt_blk kn
  clear hP1 hP2 hP3 hP4 hP5 hP6 hP7 hA6 hhead n1 n2 n3 n4 n5 hr hw hnr hnw hb1 kn hg hws hv hsr hsw
  go_enter Try.func43, Try.ntmps43
  go_wp2_with fail
  refine HG.out.mono ?_
  rintro e w1 ⟨rfl, hb2⟩
  have HB1 := Lib.hid (HB.out.trans (hb2.mono HB.out.size))
  obtain ⟨c0, c1, c2, c3, c4, c5, c6⟩ := cells7 ((hb2.block w.heap.size hlt0).trans KN.out)
  have KB := Lib.hid ((hb2.block w.heap.size hlt0).trans KN.out)
  have hw1 : w.heap.size < w1.heap.size := lt_blk KB.out
  clear hb2
  obtain ⟨b6, hb6⟩ : ∃ b, b = w1.heap.size := ⟨_, rfl⟩
  have hb6le : w1.heap.size ≤ w1.heap.size := Nat.le_refl _
  go_wp2
  go_loopw [4, 23] (fun v i wr => (i = .int .i64 0 ∧ RowBy w1 v [] wr) ∨ (i = .int .i64 1 ∧ RowBy w1 v P1 wr) ∨ (i = .int .i64 2 ∧ RowBy w1 v P2 wr) ∨ (i = .int .i64 3 ∧ RowBy w1 v P3 wr) ∨ (i = .int .i64 4 ∧ RowBy w1 v P4 wr)) (fun _ i _ => 4 - (intOf i).toNat)
  case atStart => exact .inl ⟨rfl, World.ownsRow_nil _ _ _ _, Below.refl _ _⟩
  case round =>
    rename World => wr
    rcases hrel with ⟨rfl, hown, hbel⟩ | ⟨rfl, hown, hbel⟩ | ⟨rfl, hown, hbel⟩ | ⟨rfl, hown, hbel⟩ | ⟨rfl, hown, hbel⟩
    · have hix := fun W => idx4_0 (k : Int) t tm ld W
      have HC := Lib.hid (HA1.out w1.heap.size _ _ hown hbel.size)
      have HBL := Lib.hid hbel
      clear hown hbel
      go_wp2_with fail
      refine HC.out.mono ?_
      rintro e w2 ⟨v2, rfl, hown2, hb2, _⟩
      have HN := Lib.hid (show RowBy w1 v2 P1 w2 from ⟨hown2, HBL.out.trans hb2⟩)
      clear hown2 hb2
      go_wp2
      go_roundw
      case rel => exact .inr (.inl ⟨rfl, HN.out⟩)
      case measure => simp [intOf]
    · have hix := fun W => idx4_1 (k : Int) t tm ld W
      have HC := Lib.hid (HA2.out w1.heap.size _ _ hown hbel.size)
      have HBL := Lib.hid hbel
      clear hown hbel
      go_wp2_with fail
      refine HC.out.mono ?_
      rintro e w2 ⟨v2, rfl, hown2, hb2, _⟩
      have HN := Lib.hid (show RowBy w1 v2 P2 w2 from ⟨hown2, HBL.out.trans hb2⟩)
      clear hown2 hb2
      go_wp2
      go_roundw
      case rel => exact .inr (.inr (.inl ⟨rfl, HN.out⟩))
      case measure => simp [intOf]
    · have hix := fun W => idx4_2 (k : Int) t tm ld W
      have HC := Lib.hid (HA3.out w1.heap.size _ _ hown hbel.size)
      have HBL := Lib.hid hbel
      clear hown hbel
      go_wp2_with fail
      refine HC.out.mono ?_
      rintro e w2 ⟨v2, rfl, hown2, hb2, _⟩
      have HN := Lib.hid (show RowBy w1 v2 P3 w2 from ⟨hown2, HBL.out.trans hb2⟩)
      clear hown2 hb2
      go_wp2
      go_roundw
      case rel => exact .inr (.inr (.inr (.inl ⟨rfl, HN.out⟩)))
      case measure => simp [intOf]
    · have hix := fun W => idx4_3 (k : Int) t tm ld W
      have HC := Lib.hid (HA4.out w1.heap.size _ _ hown hbel.size)
      have HBL := Lib.hid hbel
      clear hown hbel
      go_wp2_with fail
      refine HC.out.mono ?_
      rintro e w2 ⟨v2, rfl, hown2, hb2, _⟩
      have HN := Lib.hid (show RowBy w1 v2 P4 w2 from ⟨hown2, HBL.out.trans hb2⟩)
      clear hown2 hb2
      go_wp2
      go_roundw
      case rel => exact .inr (.inr (.inr (.inr ⟨rfl, HN.out⟩)))
      case measure => simp [intOf]
    · have HC := Lib.hid (HA5.out w1.heap.size _ _ hown hbel.size)
      obtain ⟨d0, d1, d2, d3, d4, d5, d6⟩ := cells7 ((hbel.block w.heap.size hw1).trans KB.out)
      have HBL := Lib.hid hbel
      clear hown hbel
      go_wp2_with fail
      refine HC.out.mono ?_
      rintro e w2 ⟨v2, rfl, hown2, hb2, _⟩
      have HB2 := Lib.hid (HBL.out.trans hb2)
      have HO2 := Lib.hid hown2
      clear hown2 hb2 d0 d1 d2 d3 d4 d5 d6
      obtain ⟨d0, d1, d2, d3, d4, d5, d6⟩ := cells7 ((HB2.out.block w.heap.size hw1).trans KB.out)
      go_wp2_with fail
      refine (HTX.out _ (HB1.out.trans (HB2.out.mono HB1.out.size))).mono ?_
      rintro e w3 ⟨rfl, hb3⟩
      have HB3 := Lib.hid (HB2.out.trans (hb3.mono HB2.out.size))
      have HO3 := Lib.hid (row_keep HO2.out hb3)
      clear hb3 d0 d1 d2 d3 d4 d5 d6
      have hs3 := HB3.out.size
      go_wp2_with (at_builtin; refine Lib.wpList_append_own_string _ rfl (.tmp 40) (.tmp 41) 115 9 rfl w1.heap.size 5 i0 Try.underlying115 Try.underlying9 hi hz0 hz1 hz2 _ _ _ rfl HO3.out ⟨A6.toArray⟩ rfl (by unfold maxLen; rw [size_of_list]; omega) (by rw [size_of_list]; omega) (by omega) ?_; intro v4 w4 hown4 hg4 _; have HB4 := Lib.hid (HB3.out.grown hg4 hs3 (fun k hk => (HO3.out.lt k hk).1)); have hkb4 := (HB4.out.block w.heap.size hw1).trans KB.out; have HO4 := Lib.hid (show w4.ownsRow w1.heap.size 5 1 v4 P6.length (C1.B8 P6) by rw [HP6.out, C1.B8_app, List.length_append]; rw [C1.strCells_B8, size_of_list] at hown4; exact hown4); have g5 := cell_blk (i := 5) hkb4 rfl; have HC7 := Lib.hid (HA7.out w1.heap.size _ _ HO4.out HB4.out.size); clear hown4 hg4)
      go_wp2_with fail
      refine HC7.out.mono ?_
      rintro e w5 ⟨v5, rfl, hown5, hb5, hot5⟩
      have HB5 := Lib.hid (HB4.out.trans hb5)
      obtain ⟨d0, d1, d2, d3, d4, d5, d6⟩ := cells7 ((HB5.out.block w.heap.size hw1).trans KB.out)
      have HR0 := Lib.hid (show RowBy w1 v5 (P7 ++ wsBy ws 0) w5 from by rw [wsBy_zero, List.append_nil]; exact ⟨hown5, HB5.out⟩)
      clear hown5 hb5 hot5 g5
      go_wp2
      go_loopw [4, 51] (fun v i wr => ∃ j : Nat, j ≤ nw ∧ i = .int .i64 j ∧ RowBy w1 v (P7 ++ wsBy ws j) wr) (fun _ i _ => nw - (intOf i).toNat)
      case atStart => exact ⟨0, by omega, rfl, HR0.out⟩
      case round =>
        clear HR0
        rename World => wx
        obtain ⟨j, hj, rfl, hown, hbel⟩ := hrel
        have hwb := HB1.out.trans (hbel.mono HB1.out.size)
        by_cases hlt2 : j < nw
        · obtain ⟨b, off, rfl, hbB, hc⟩ := (HWS.out _ (Below.refl _ _)).get (by rw [HNW.out]; omega)
          obtain ⟨hc0, hc1, hc2⟩ := hc j (by rw [HNW.out]; exact hlt2)
          have c0 := (hwb.cell (p := ⟨b, off + j * 3, none⟩) (Nat.lt_of_lt_of_le hbB hB)).trans hc0
          have c1 := (hwb.cell (p := ⟨b, off + j * 3 + 1, none⟩) (Nat.lt_of_lt_of_le hbB hB)).trans hc1
          have c2 := (hwb.cell (p := ⟨b, off + j * 3 + 2, none⟩) (Nat.lt_of_lt_of_le hbB hB)).trans hc2
          have hst := wsBy_step ws j (by rw [HNW.out]; exact hlt2)
          have hsz := HSZ.out _ (List.getElem_mem (show j < ws.length by rw [HNW.out]; exact hlt2))
          have hpl := wsBy_len ws j (by rw [HNW.out]; omega) HSZ.out
          obtain ⟨z, hz⟩ : ∃ z, z = ws[j]'(by rw [HNW.out]; exact hlt2) := ⟨_, rfl⟩
          rw [← hz] at c0 c1 c2 hst hsz
          obtain ⟨s, sv, sg⟩ := z
          simp only at c0 c1 c2 hsz
          obtain ⟨Q, hQ⟩ : ∃ Q, Q = P7 ++ wsBy ws j := ⟨_, rfl⟩
          rw [← hQ] at hown
          have tq : Q.length ≤ 1749 := by rw [hQ, List.length_append]; omega
          have tb : ∀ x : ByteArray, x.size ≤ 60 → (C1.textB x.data.toList).length ≤ 70 := fun x hx => by
            unfold C1.textB
            have := C1.M.numB_len x.data.toList.length
            have e : x.data.toList.length = x.size := by simp
            rw [List.length_append]; omega
          have tb1 := tb s hsz.1
          have HN := Lib.hid (show Q ++ C1.textB s.data.toList ++ [flagB sg] ++ C1.textB sv.data.toList = P7 ++ wsBy ws (j + 1) by rw [hQ, hst]; unfold wrBy; simp only [List.append_assoc])
          have hkx := heap_alloc_new wx (.cells #[.string s, .string sv, .bool sg] 121)
          have hbx := below1 wx (.cells #[.string s, .string sv, .bool sg] 121)
          have HX1 := Lib.hid (C1.appendText_oth _ Q s w1.heap.size _ (hown.alloc (.cells #[.string s, .string sv, .bool sg] 121)) (Nat.le_trans hbel.size hbx.size) (by omega) (by omega))
          have HX2 := Lib.hid (fun v W h1 h2 => appendFlag_any v (Q ++ C1.textB s.data.toList) sg w1.heap.size W h1 h2 (by rw [List.length_append]; omega))
          have HX3 := Lib.hid (fun v W h1 h2 => C1.appendText_oth v (Q ++ C1.textB s.data.toList ++ [flagB sg]) sv w1.heap.size W h1 h2 (by omega) (by rw [List.length_append, List.length_append, List.length_singleton]; omega))
          have HKX := Lib.hid hkx
          have HBX := Lib.hid (hbel.trans (hbx.mono hbel.size))
          clear hc hc0 hc1 hc2 hz hst hsz hpl hQ tq tb tb1 hkx hbx hown hbel hwb
          go_wp2_with fail
          refine HX1.out.mono ?_
          rintro e w6 ⟨v6, rfl, hown6, hb6, hot6⟩
          have HB6 := Lib.hid (HBX.out.trans hb6)
          have k6 := hot6 _ _ _ _ (by decide) HKX.out
          have HK6 := Lib.hid k6
          have f0 := cell_blk (i := 0) k6 rfl
          have f1 := cell_blk (i := 1) k6 rfl
          have f2 := cell_blk (i := 2) k6 rfl
          have HC6 := Lib.hid (HX2.out _ _ hown6 HB6.out.size)
          clear hown6 hb6 hot6 k6
          go_wp2_with fail
          refine HC6.out.mono ?_
          rintro e w7 ⟨v7, rfl, hown7, hb7, hot7⟩
          have HB7 := Lib.hid (HB6.out.trans hb7)
          have k7 := hot7 _ _ _ _ (by decide) HK6.out
          have g0 := cell_blk (i := 0) k7 rfl
          have g1 := cell_blk (i := 1) k7 rfl
          have g2 := cell_blk (i := 2) k7 rfl
          have HC8 := Lib.hid (HX3.out _ _ hown7 HB7.out.size)
          clear hown7 hb7 hot7 k7 f0 f1 f2
          go_wp2_with fail
          refine HC8.out.mono ?_
          rintro e w8 ⟨v8, rfl, hown8, hb8, _⟩
          have HR8 := Lib.hid (show RowBy w1 v8 (P7 ++ wsBy ws (j + 1)) w8 from ⟨by rw [← HN.out]; exact hown8, HB7.out.trans hb8⟩)
          clear hown8 hb8
          go_wp2
          go_roundw
          case rel => exact ⟨j + 1, by omega, by go_num, HR8.out⟩
          case measure => simp [intOf]; omega
        · have hjn : j = nw := by omega
          subst hjn
          have hbl := wsBy_len ws j (by rw [HNW.out]; omega) HSZ.out
          obtain ⟨Q, hQ⟩ : ∃ Q, Q = P7 ++ wsBy ws j := ⟨_, rfl⟩
          rw [← hQ] at hown
          have hcv := C1.conv_back hown
          have HS := Lib.hid (C1.implSeal_yes ⟨Q.toArray⟩ wx (by rw [size_of_list, hQ, List.length_append]; omega))
          have hQr : Q = recBy k t tm ld y rs ws := by rw [hQ, HH.out]; unfold recBy; rw [HNW.out]
          have HF := Lib.hid (show ∀ W, Below wx.heap.size wx W → Ending.returned (.tuple #[.string ⟨(C1.sealed (⟨Q.toArray⟩ : ByteArray).data.toList).toArray⟩, .bool true]) = .returned (.tuple #[.string ⟨(C1.sealed (recBy k t tm ld y rs ws)).toArray⟩, .bool true]) ∧ Below w.heap.size w W from fun W h => ⟨by rw [← hQr], hwb.trans (h.mono hwb.size)⟩)
          clear hbel hbl hQ hQr hwb hown
          go_wp2_with fail
          refine HS.out.mono ?_
          rintro e w9 ⟨rfl, hb9⟩
          have HF2 := Lib.hid (HF.out _ hb9)
          clear hb9
          go_wp2
          go_ret2
          exact HF2.out

set_option maxRecDepth 100000 in
set_option maxHeartbeats 2000000 in
theorem implRecBytes_any (k t tm ld : Int) (y : Bool) (Ar Aw : Option Addr) (nr nw cr cw : Nat) (rs : List ByteArray) (ws : List (ByteArray × ByteArray × Bool)) (B : Nat) (w : World) (hnr : rs.length = nr) (hnw : ws.length = nw) (hr : StrsB w B Ar rs) (hw : WritesB w B Aw ws) (hB : B ≤ w.heap.size) (hsr : SSmall rs) (hsw : WSmall ws) :
    Calls Try.prog 43 #[.agg #[.int .i64 k, .int .i64 t, .int .i64 tm, .int .i64 ld, .slice Ar nr cr, .slice Aw nw cw, .bool y]] w fun e w' => e = RecBytesEnd k t tm ld y rs ws ∧ Below w.heap.size w w' := by
  cases hv : recB k t tm ld y rs ws with
  | false =>
    have hb1 := below1 w (.cells #[.int .i64 k, .int .i64 t, .int .i64 tm, .int .i64 ld, .slice Ar nr cr, .slice Aw nw cw, .bool y] 33)
    have HG := Lib.hid (implGoodRec_any k t tm ld y Ar Aw nr nw cr cw rs ws B _ hnr hnw (hr.below (hb1.mono hB)) (hw.below (hb1.mono hB)) (Nat.le_trans hB hb1.size) hsr hsw)
    have HB := Lib.hid hb1
    have HE := Lib.hid (recBytes_no hv)
    rw [hv] at HG
    clear hv hr hw hnr hnw hb1 hsr hsw
    go_enter Try.func43, Try.ntmps43
    go_wp2_with fail
    refine HG.out.mono ?_
    rintro e w1 ⟨rfl, hb2⟩
    have HF := Lib.hid (HB.out.trans (hb2.mono HB.out.size))
    clear hb2
    go_wp2
    go_ret2
    exact ⟨HE.out.symm, HF.out⟩
  | true =>
    obtain ⟨⟨kn', tn, tmn, ldn, rfl, rfl, rfl, rfl, _⟩, _⟩ := rec_ok hv
    rw [recBytes_yes hv]
    exact implRecBytes_yes kn' tn tmn ldn y Ar Aw nr nw cr cw rs ws B w hnr hnw hr hw hB hsr hsw hv
end Go.Proofs.Ytkhndofplebcaaa
