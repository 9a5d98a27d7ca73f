/-
  Contracts for a record as bytes, by the model: l4Flag, l4Bytes, RecBytes.
-/
import Derived.Test.YtkhndofplebcaaaRecM
import Derived.Test.YtkhndofplebcaaaBel
import Derived.Test.YtkhndofplebcaaaLawGR
namespace Go.Proofs.Ytkhndofplebcaaa
open Go.RowKit CM
set_option linter.unusedVariables false

theorem l4Flag_any (b : Bool) (w : World) :
    Calls Try.prog 128 #[.bool b] w fun e w' => e = .returned (.string ⟨[flagB b].toArray⟩) ∧ w = w' := by
  cases b
  all_goals
    go_enter Try.func128, Try.ntmps128
    go_wp2
    go_ret
    exact ⟨rfl, rfl⟩
theorem add_lists (a b c : List UInt8) (h : a.length + b.length ≤ 1000000) (hc : c = a ++ b) : ∀ W, (Op.stringOp .add ⟨a.toArray⟩ ⟨b.toArray⟩).run Try.prog W = .ok (.string ⟨c.toArray⟩) W := by
  intro W
  subst hc
  exact run_string_add_lists W a b (by omega) (by omega)
/-- What RecBytes answers. -/
def recBytes (k t tm ld : Int) (y : Bool) (rs : List ByteArray) (ws : List (ByteArray × ByteArray × Bool)) : ByteArray × Bool :=
  if recB k t tm ld y rs ws = true then (⟨(C1.sealed (recBy k.toNat t.toNat tm.toNat ld.toNat y rs ws)).toArray⟩, true) else (⟨#[]⟩, false)
def RecBytesEnd (k t tm ld : Int) (y : Bool) (rs : List ByteArray) (ws : List (ByteArray × ByteArray × Bool)) : Ending := .returned (.tuple #[.string (recBytes k t tm ld y rs ws).1, .bool (recBytes k t tm ld y rs ws).2])
theorem recBytes_no {k t tm ld : Int} {y : Bool} {rs : List ByteArray} {ws : List (ByteArray × ByteArray × Bool)} (h : recB k t tm ld y rs ws = false) : RecBytesEnd k t tm ld y rs ws = .returned (.tuple #[.string ⟨#[]⟩, .bool false]) := by
  unfold RecBytesEnd recBytes
  rw [h]; rfl
theorem recBytes_yes {k t tm ld : Nat} {y : Bool} {rs : List ByteArray} {ws : List (ByteArray × ByteArray × Bool)} (h : recB k t tm ld y rs ws = true) : RecBytesEnd k t tm ld y rs ws = .returned (.tuple #[.string ⟨(C1.sealed (recBy k t tm ld y rs ws)).toArray⟩, .bool true]) := by
  unfold RecBytesEnd recBytes
  rw [h]; rfl
theorem StrsB.at {w : World} {B : Nat} {A : Option Addr} {xs : List ByteArray} (h : StrsB w B A xs) (hB : B ≤ w.heap.size) : C1.StrsAt w A xs := by
  rcases Nat.eq_zero_or_pos xs.length with h0 | h0
  · exact .inl (List.eq_nil_of_length_eq_zero h0)
  · obtain ⟨b, off, hA, hb, hc⟩ := h.get h0
    exact .inr ⟨b, off, hA, by omega, hc⟩

set_option maxRecDepth 100000 in
set_option maxHeartbeats 4000000 in
theorem l4Bytes_any (k t tm ld : Nat) (y : Bool) (Ar Aw : Option Addr) (nr nw cr cw : Nat) (rs : List ByteArray) (ws : List (ByteArray × ByteArray × Bool)) (B : Nat) (w : World) (hnr : rs.length = nr) (hnw : ws.length = nw) (hr : StrsB w B Ar rs) (hw : WritesB w B Aw ws) (hB : B ≤ w.heap.size) (hok : RecOk k t tm ld rs ws) :
    Calls Try.prog 85 #[.agg #[.int .i64 (k : Int), .int .i64 (t : Int), .int .i64 (tm : Int), .int .i64 (ld : Int), .slice Ar nr cr, .slice Aw nw cw, .bool y]] w fun e w' => e = .returned (.string ⟨(C1.sealed (recBy k t tm ld y rs ws)).toArray⟩) ∧ Below w.heap.size w w' := by
  obtain ⟨⟨kn, tn, tmn, ldn, e1, e2, e3, e4, q0, q1, q2, q3, q4⟩, l1, l2, hg, hws⟩ := hok
  have hk1 : k ≤ 100000 := by omega
  have hk2 : t ≤ 100000 := by omega
  have hk3 : tm ≤ 100000 := by omega
  have hk4 : ld ≤ 100000 := by omega
  have hn8 : nw ≤ 8 := by omega
  clear e1 e2 e3 e4 q0 q1 q2 q3 q4
  obtain ⟨W0, hW0⟩ : ∃ W0, W0 = w.alloc (.cells #[.int .i64 (k : Int), .int .i64 (t : Int), .int .i64 (tm : Int), .int .i64 (ld : Int), .slice Ar nr cr, .slice Aw nw cw, .bool y] 33) := ⟨_, rfl⟩
  have hb0 : Below w.heap.size w W0 := by rw [hW0]; exact below1 _ _
  have kn : W0.heap[w.heap.size]? = some (.cells #[.int .i64 (k : Int), .int .i64 (t : Int), .int .i64 (tm : Int), .int .i64 (ld : Int), .slice Ar nr cr, .slice Aw nw cw, .bool y] 33) := by rw [hW0]; exact heap_alloc_new _ _
  have hlt : w.heap.size < W0.heap.size := lt_blk kn
  obtain ⟨A1, hA1⟩ : ∃ A, A = C1.M.numB k := ⟨_, rfl⟩
  obtain ⟨A2, hA2⟩ : ∃ A, A = C1.M.numB t := ⟨_, rfl⟩
  obtain ⟨A3, hA3⟩ : ∃ A, A = C1.M.numB tm := ⟨_, rfl⟩
  obtain ⟨A4, hA4⟩ : ∃ A, A = C1.M.numB ld := ⟨_, rfl⟩
  obtain ⟨A5, hA5⟩ : ∃ A, A = [flagB y] := ⟨_, rfl⟩
  obtain ⟨A6, hA6⟩ : ∃ A, A = C1.tsum rs rs.length := ⟨_, rfl⟩
  obtain ⟨A7, hA7⟩ : ∃ A, A = C1.M.numB nw := ⟨_, rfl⟩
  have z1 : A1.length ≤ 10 := by rw [hA1]; exact (C1.M.numB_len _).1
  have z2 : A2.length ≤ 10 := by rw [hA2]; exact (C1.M.numB_len _).1
  have z3 : A3.length ≤ 10 := by rw [hA3]; exact (C1.M.numB_len _).1
  have z4 : A4.length ≤ 10 := by rw [hA4]; exact (C1.M.numB_len _).1
  have z5 : A5.length = 1 := by rw [hA5]; rfl
  have z6 : A6.length ≤ 570 := by rw [hA6]; have := C1.tsum_len rs rs.length (Nat.le_refl _) (fun j hj _ => hg.2 j hj); omega
  have z7 : A7.length ≤ 10 := by rw [hA7]; exact (C1.M.numB_len _).1
  obtain ⟨P2, hP2⟩ : ∃ P, P = A1 ++ A2 := ⟨_, rfl⟩
  obtain ⟨P3, hP3⟩ : ∃ P, P = P2 ++ A3 := ⟨_, rfl⟩
  obtain ⟨P4, hP4⟩ : ∃ P, P = P3 ++ A4 := ⟨_, rfl⟩
  obtain ⟨P5, hP5⟩ : ∃ P, P = P4 ++ A5 := ⟨_, rfl⟩
  obtain ⟨P6, hP6⟩ : ∃ P, P = P5 ++ A6 := ⟨_, rfl⟩
  obtain ⟨P7, hP7⟩ : ∃ P, P = P6 ++ A7 := ⟨_, rfl⟩
  have p2 : P2.length ≤ 20 := by rw [hP2, List.length_append]; omega
  have p3 : P3.length ≤ 30 := by rw [hP3, List.length_append]; omega
  have p4 : P4.length ≤ 40 := by rw [hP4, List.length_append]; omega
  have p5 : P5.length ≤ 41 := by rw [hP5, List.length_append]; omega
  have p6 : P6.length ≤ 611 := by rw [hP6, List.length_append]; omega
  have p7 : P7.length ≤ 621 := by rw [hP7, List.length_append]; omega
  have s2 := add_lists A1 A2 P2 (by omega) hP2
  have s3 := add_lists P2 A3 P3 (by omega) hP3
  have s4 := add_lists P3 A4 P4 (by omega) hP4
  have s5 := add_lists P4 A5 P5 (by omega) hP5
  have s6 := add_lists P5 A6 P6 (by omega) hP6
  have s7 := add_lists P6 A7 P7 (by omega) hP7
  have hhead : P7 = headBy k t tm ld y rs ws.length := by rw [hP7, hP6, hP5, hP4, hP3, hP2, hA1, hA2, hA3, hA4, hA5, hA6, hA7, ← hnw]; rfl
  have HN1 := Lib.hid (fun W => C1.l1NumB_any k W (by omega))
  have HN2 := Lib.hid (fun W => C1.l1NumB_any t W (by omega))
  have HN3 := Lib.hid (fun W => C1.l1NumB_any tm W (by omega))
  have HN4 := Lib.hid (fun W => C1.l1NumB_any ld W (by omega))
  have HN5 := Lib.hid (fun W => l4Flag_any y W)
  have HN6 := Lib.hid (fun (p : BelT W0) => C1.l1TextsB_any Ar nr cr rs p.w hnr ((hr.below ((hb0.trans (p.below.mono hb0.size)).mono hB)).at (Nat.le_trans hB (Nat.le_trans hb0.size p.sz))) hg)
  have HN7 := Lib.hid (fun W => C1.l1NumB_any nw W (by omega))
  rw [← hA1] at HN1
  rw [← hA2] at HN2
  rw [← hA3] at HN3
  rw [← hA4] at HN4
  rw [← hA5] at HN5
  rw [← hA6] at HN6
  rw [← hA7] at HN7
  obtain ⟨c0, c1, c2, c3, c4, c5, c6⟩ := cells7 kn
  have y0 := bel_cell c0 hlt
  have y1 := bel_cell c1 hlt
  have y2 := bel_cell c2 hlt
  have y3 := bel_cell c3 hlt
  have y4 := bel_cell c4 hlt
  have y5 := bel_cell c5 hlt
  have y6 := bel_cell c6 hlt
  have HW0 := Lib.hid hW0
  have HB0 := Lib.hid hb0
  have KN := Lib.hid kn
  have HWS := Lib.hid (fun W (hW : Below w.heap.size w W) => hw.below (hW.mono hB))
  have HNW := Lib.hid hnw
  have HSZ := Lib.hid hws
  have HH := Lib.hid hhead
  clear hA1 hA2 hA3 hA4 hA5 hA6 hA7 hP2 hP3 hP4 hP5 hP6 hP7 hhead z1 z2 z3 z4 z5 z6 z7 p2 p3 p4 p5 p6 hr hw hnr hnw hW0 hb0 kn hg hws
  go_enter Try.func85, Try.ntmps85
  go_wp2_with fail
  rw [← HW0.out]
  refine bel_region (by kernel_rfl) (by kernel_rfl) ?_
  repeat (go_big_quiet_step (first
    | (go_at_call 84; first | (with_reducible exact bel_call (HN1.out _)) | (with_reducible exact bel_call (HN2.out _)) | (with_reducible exact bel_call (HN3.out _)) | (with_reducible exact bel_call (HN4.out _)) | (with_reducible exact bel_call (HN7.out _)))
    | (go_at_call 128; exact bel_same (HN5.out _))
    | (go_at_call 129; exact bel_call (HN6.out _))))
  refine wpQuiet_nil ?_
  intro p
  obtain ⟨W1, hW1⟩ : ∃ W1, W1 = p.w := ⟨_, rfl⟩
  have x5 := y5 p
  have HB1 := Lib.hid (HB0.out.trans (p.below.mono HB0.out.size))
  rw [← hW1] at x5 HB1 ⊢
  have hw1 : w.heap.size < W1.heap.size := by rw [hW1]; exact Nat.lt_of_lt_of_le hlt p.sz
  clear hW1 y0 y1 y2 y3 y4 y5 y6 c0 c1 c2 c3 c4 c5 c6 s2 s3 s4 s5 s6 s7 HN1 HN2 HN3 HN4 HN5 HN6 HN7
  go_wp2
  go_loopw [3, 37] (fun v i wr => ∃ j : Nat, j ≤ nw ∧ i = .int .i64 j ∧ v = .string ⟨(P7 ++ wsBy ws j).toArray⟩ ∧ Below w.heap.size w wr) (fun _ i _ => nw - (intOf i).toNat)
  case atStart => exact ⟨0, by omega, rfl, by rw [wsBy_zero, List.append_nil], HB1.out⟩
  case round =>
    rename World => wx
    obtain ⟨j, hj, rfl, rfl, hb⟩ := hrel
    by_cases hlt2 : j < nw
    · obtain ⟨b, off, rfl, hbB, hc⟩ := (HWS.out _ (Below.refl _ _)).get (by rw [HNW.out]; omega)
      obtain ⟨hc0, hc1, hc2⟩ := hc j (by rw [HNW.out]; exact hlt2)
      have c0 := (hb.cell (p := ⟨b, off + j * 3, none⟩) (Nat.lt_of_lt_of_le hbB hB)).trans hc0
      have c1 := (hb.cell (p := ⟨b, off + j * 3 + 1, none⟩) (Nat.lt_of_lt_of_le hbB hB)).trans hc1
      have c2 := (hb.cell (p := ⟨b, off + j * 3 + 2, none⟩) (Nat.lt_of_lt_of_le hbB hB)).trans hc2
      have hst := wsBy_step ws j (by rw [HNW.out]; exact hlt2)
      have hsz := HSZ.out _ (List.getElem_mem (show j < ws.length by rw [HNW.out]; exact hlt2))
      have hpl := wsBy_len ws j (by rw [HNW.out]; omega) HSZ.out
      obtain ⟨z, hz⟩ : ∃ z, z = ws[j]'(by rw [HNW.out]; exact hlt2) := ⟨_, rfl⟩
      rw [← hz] at c0 c1 c2 hst hsz
      obtain ⟨s, sv, sg⟩ := z
      simp only at c0 c1 c2 hsz
      obtain ⟨T1, hT1⟩ : ∃ T, T = C1.textB s.data.toList := ⟨_, rfl⟩
      obtain ⟨T2, hT2⟩ : ∃ T, T = [flagB sg] := ⟨_, rfl⟩
      obtain ⟨T3, hT3⟩ : ∃ T, T = C1.textB sv.data.toList := ⟨_, rfl⟩
      obtain ⟨Q, hQ⟩ : ∃ Q, Q = P7 ++ wsBy ws j := ⟨_, rfl⟩
      rw [← hQ]
      have t1 : T1.length ≤ 70 := by rw [hT1]; unfold C1.textB; have := C1.M.numB_len s.data.toList.length; have e : s.data.toList.length = s.size := by simp
                                     rw [List.length_append]; omega
      have t3 : T3.length ≤ 70 := by rw [hT3]; unfold C1.textB; have := C1.M.numB_len sv.data.toList.length; have e : sv.data.toList.length = sv.size := by simp
                                     rw [List.length_append]; omega
      have t2 : T2.length = 1 := by rw [hT2]; rfl
      have tq : Q.length ≤ 1749 := by rw [hQ, List.length_append]; omega
      obtain ⟨D1, hD1⟩ : ∃ D, D = T1 ++ T2 := ⟨_, rfl⟩
      obtain ⟨D2, hD2⟩ : ∃ D, D = D1 ++ T3 := ⟨_, rfl⟩
      obtain ⟨D3, hD3⟩ : ∃ D, D = Q ++ D2 := ⟨_, rfl⟩
      have d1 : D1.length ≤ 71 := by rw [hD1, List.length_append]; omega
      have d2 : D2.length ≤ 141 := by rw [hD2, List.length_append]; omega
      have s1 := add_lists T1 T2 D1 (by omega) hD1
      have s2 := add_lists D1 T3 D2 (by omega) hD2
      have s3 := add_lists Q D2 D3 (by omega) hD3
      have HN := Lib.hid (show D3 = P7 ++ wsBy ws (j + 1) by rw [hD3, hQ, hD2, hD1, hst, hT1, hT2, hT3, List.append_assoc, List.append_assoc]; rfl)
      have HC1 := Lib.hid (fun W => C1.l1TextB_any s W (by omega))
      have HC2 := Lib.hid (fun W => l4Flag_any sg W)
      have HC3 := Lib.hid (fun W => C1.l1TextB_any sv W (by omega))
      rw [← hT1] at HC1
      rw [← hT2] at HC2
      rw [← hT3] at HC3
      obtain ⟨W2, hW2⟩ : ∃ W2, W2 = wx.alloc (.cells #[.string s, .string sv, .bool sg] 121) := ⟨_, rfl⟩
      have kb : W2.heap[wx.heap.size]? = some (.cells #[.string s, .string sv, .bool sg] 121) := by rw [hW2]; exact heap_alloc_new _ _
      have hbx : Below wx.heap.size wx W2 := by rw [hW2]; exact below1 _ _
      have hlx := lt_blk kb
      have v0 := bel_cell (cell_blk (i := 0) kb rfl) hlx
      have v1 := bel_cell (cell_blk (i := 1) kb rfl) hlx
      have v2 := bel_cell (cell_blk (i := 2) kb rfl) hlx
      have HB2 := Lib.hid (hb.trans (hbx.mono hb.size))
      have HW2 := Lib.hid hW2
      clear hc hc0 hc1 hc2 hz hst hsz hpl hT1 hT2 hT3 hQ hD1 hD2 hD3 t1 t2 t3 tq d1 d2 hW2 kb hbx hb
      go_wp2_with fail
      rw [← HW2.out]
      refine bel_region (by kernel_rfl) (by kernel_rfl) ?_
      repeat (go_big_quiet_step (first
        | (go_at_call 130; first | (with_reducible exact bel_call (HC1.out _)) | (with_reducible exact bel_call (HC3.out _)))
        | (go_at_call 128; exact bel_same (HC2.out _))))
      refine wpQuiet_nil ?_
      intro p2
      have HB3 := Lib.hid (HB2.out.trans (p2.below.mono HB2.out.size))
      go_wp2
      go_roundw
      case rel => exact ⟨j + 1, by omega, by go_num, by rw [HN.out], HB3.out⟩
      case measure => simp [intOf]; omega
    · have hjn : j = nw := by omega
      subst hjn
      have hbl := wsBy_len ws j (by rw [HNW.out]; omega) HSZ.out
      obtain ⟨Q, hQ⟩ : ∃ Q, Q = P7 ++ wsBy ws j := ⟨_, rfl⟩
      rw [← hQ]
      have HS := Lib.hid (C1.l1Seal_any ⟨Q.toArray⟩ wx (by rw [size_of_list, hQ, List.length_append]; omega))
      have hQr : Q = recBy k t tm ld y rs ws := by rw [hQ, HH.out]; unfold recBy; rw [HNW.out]
      have HF := Lib.hid (show ∀ W, Below wx.heap.size wx W → Ending.returned (.string ⟨(Q ++ C1.three (C1.M.sumL Q)).toArray⟩) = .returned (.string ⟨(C1.sealed (recBy k t tm ld y rs ws)).toArray⟩) ∧ Below w.heap.size w W from fun W h => ⟨by rw [← hQr]; rfl, hb.trans (h.mono hb.size)⟩)
      clear hb hbl hQ hQr
      go_wp2_with fail
      refine HS.out.mono ?_
      rintro e w3 ⟨rfl, hb3⟩
      have HF2 := Lib.hid (HF.out _ hb3)
      clear hb3
      go_wp2
      go_ret
      exact HF2.out

end Go.Proofs.Ytkhndofplebcaaa
