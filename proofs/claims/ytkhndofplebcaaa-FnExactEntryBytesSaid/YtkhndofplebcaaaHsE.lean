/-
  Contracts for EntryBytes of program and model: the model's l11Bytes; the program's goodEntry.
-/
import Derived.Test.YtkhndofplebcaaaHsM
import Derived.Test.YtkhndofplebcaaaHsN
import Derived.Test.YtkhndofplebcaaaRecBI
import Derived.Test.YtkhndofplebcaaaGrGd
namespace Go.Proofs.Ytkhndofplebcaaa.Hs
open Go.RowKit CM Gr
set_option linter.unusedVariables false
set_option linter.unusedSimpArgs false

/-- What EntryBytes hands back. -/
def EBEnd (d : ED) : Ending := .returned (.tuple #[.string (entBytes d).1, .bool (entBytes d).2])
theorem ebEnd_no {d : ED} (h : entB d = false) : EBEnd d = .returned (.tuple #[.string ⟨#[]⟩, .bool false]) := by
  unfold EBEnd entBytes
  rw [h]; rfl
theorem ebEnd_yes {d : ED} (h : entB d = true) : EBEnd d = .returned (.tuple #[.string ⟨(entL d).toArray⟩, .bool true]) := by
  unfold EBEnd entBytes
  rw [h]; rfl
theorem sealed_len {k t x l : Nat} {y : Bool} {rs : List ByteArray} {ws : List (ByteArray × ByteArray × Bool)} (hok : RecOk k t x l rs ws) : (C1.sealed (recBy k t x l y rs ws)).length ≤ 1752 := by
  obtain ⟨_, l1, l2, hg, hws⟩ := hok
  have e1 := headBy_len k t x l y rs ws.length hg (by omega)
  have e2 := wsBy_len ws ws.length (Nat.le_refl _) hws
  unfold C1.sealed recBy
  rw [List.length_append, List.length_append, three_len]
  omega
theorem cells8 {w : World} {k : Nat} {a b c d e f g h : Value} {t : TypeId} (hk : w.heap[k]? = some (.cells #[a, b, c, d, e, f, g, h] t (0, 0))) : w.cell? ⟨k, 0, none⟩ = some a ∧ w.cell? ⟨k, 1, none⟩ = some b ∧ w.cell? ⟨k, 2, none⟩ = some c ∧ w.cell? ⟨k, 3, none⟩ = some d ∧ w.cell? ⟨k, 4, none⟩ = some e ∧ w.cell? ⟨k, 5, none⟩ = some f ∧ w.cell? ⟨k, 6, none⟩ = some g ∧ w.cell? ⟨k, 7, none⟩ = some h :=
  ⟨cell_blk (i := 0) hk rfl, cell_blk (i := 1) hk rfl, cell_blk (i := 2) hk rfl, cell_blk (i := 3) hk rfl, cell_blk (i := 4) hk rfl, cell_blk (i := 5) hk rfl, cell_blk (i := 6) hk rfl, cell_blk (i := 7) hk rfl⟩

set_option maxRecDepth 100000 in
set_option maxHeartbeats 2000000 in
theorem l11Bytes_any (tm kk tt xx ll : Nat) (yy : Bool) (Ar Aw : Option Addr) (nr nw cr cw : Nat) (rs : List ByteArray) (ws : List (ByteArray × ByteArray × Bool)) (B : Nat) (w : World) (hnr : rs.length = nr) (hnw : ws.length = nw) (hr : StrsB w B Ar rs) (hw : WritesB w B Aw ws) (hB : B ≤ w.heap.size) (htm : tm ≤ 200) (hok : RecOk kk tt xx ll rs ws) :
    Calls Try.prog 40 #[.agg #[.int .i64 (tm : Int), .int .i64 (kk : Int), .int .i64 (tt : Int), .int .i64 (xx : Int), .int .i64 (ll : Int), .slice Ar nr cr, .slice Aw nw cw, .bool yy]] w fun e w' => e = .returned (.string ⟨(C1.M.numB tm ++ C1.sealed (recBy kk tt xx ll yy rs ws)).toArray⟩) ∧ Below w.heap.size w w' := by
  obtain ⟨W0, hW0⟩ : ∃ W0, W0 = w.alloc (.cells #[.int .i64 (tm : Int), .int .i64 (kk : Int), .int .i64 (tt : Int), .int .i64 (xx : Int), .int .i64 (ll : Int), .slice Ar nr cr, .slice Aw nw cw, .bool yy] 35) := ⟨_, rfl⟩
  have hb0 : Below w.heap.size w W0 := by rw [hW0]; exact below1 _ _
  have kn : W0.heap[w.heap.size]? = some (.cells #[.int .i64 (tm : Int), .int .i64 (kk : Int), .int .i64 (tt : Int), .int .i64 (xx : Int), .int .i64 (ll : Int), .slice Ar nr cr, .slice Aw nw cw, .bool yy] 35) := by rw [hW0]; exact heap_alloc_new _ _
  have hlt : w.heap.size < W0.heap.size := lt_blk kn
  have z1 := (C1.M.numB_len tm).1
  have z2 := sealed_len (y := yy) hok
  obtain ⟨A1, hA1⟩ : ∃ A, A = C1.M.numB tm := ⟨_, rfl⟩
  obtain ⟨A2, hA2⟩ : ∃ A, A = C1.sealed (recBy kk tt xx ll yy rs ws) := ⟨_, rfl⟩
  have HN1 := Lib.hid (fun W => C1.l1NumB_any tm W (by omega))
  have HN2 := Lib.hid (fun (p : BelT W0) => l4Bytes_any kk tt xx ll yy Ar Aw nr nw cr cw rs ws B p.w hnr hnw (hr.below ((hb0.trans (p.below.mono hb0.size)).mono hB)) (hw.below ((hb0.trans (p.below.mono hb0.size)).mono hB)) (Nat.le_trans hB (Nat.le_trans hb0.size p.sz)) hok)
  rw [← hA1] at HN1 z1 ⊢
  rw [← hA2] at HN2 z2 ⊢
  obtain ⟨P, hP⟩ : ∃ P, P = A1 ++ A2 := ⟨_, rfl⟩
  have s1 := add_lists A1 A2 P (by omega) hP
  rw [← hP]
  obtain ⟨c0, c1, c2, c3, c4, c5, c6, c7⟩ := cells8 kn
  have y0 := bel_cell c0 hlt
  have y1 := bel_cell c1 hlt
  have y2 := bel_cell c2 hlt
  have y3 := bel_cell c3 hlt
  have y4 := bel_cell c4 hlt
  have y5 := bel_cell c5 hlt
  have y6 := bel_cell c6 hlt
  have y7 := bel_cell c7 hlt
  have HW0 := Lib.hid hW0
  have HB0 := Lib.hid hb0
  clear hA1 hA2 hP z1 z2 hr hw hnr hnw hW0 hb0 kn hok c0 c1 c2 c3 c4 c5 c6 c7
  go_enter Try.func40, Try.ntmps40
  go_wp2_with fail
  rw [← HW0.out]
  refine bel_region (by kernel_rfl) (by kernel_rfl) ?_
  repeat (go_big_quiet_step (first
    | (go_at_call 84; exact bel_call (HN1.out _))
    | (go_at_call 85; exact bel_call (HN2.out _))))
  refine wpQuiet_nil ?_
  intro p
  have HB1 := Lib.hid (HB0.out.trans (p.below.mono HB0.out.size))
  go_wp2
  go_ret
  exact ⟨rfl, HB1.out⟩

set_option maxRecDepth 100000 in
set_option maxHeartbeats 2000000 in
theorem specEntryBytes_any (tm kk tt xx ll : Int) (yy : Bool) (Ar Aw : Option Addr) (nr nw cr cw : Nat) (rs : List ByteArray) (ws : List (ByteArray × ByteArray × Bool)) (B : Nat) (w : World) (hnr : rs.length = nr) (hnw : ws.length = nw) (hr : StrsB w B Ar rs) (hw : WritesB w B Aw ws) (hB : B ≤ w.heap.size) (hsr : SSmall rs) (hsw : WSmall ws) :
    Calls Try.prog 10 #[.agg #[.int .i64 tm, .int .i64 kk, .int .i64 tt, .int .i64 xx, .int .i64 ll, .slice Ar nr cr, .slice Aw nw cw, .bool yy]] w fun e w' => e = EBEnd ⟨tm, kk, tt, xx, ll, yy, rs, ws⟩ ∧ Below w.heap.size w w' := by
  have hb1 := below1 w (.cells #[.int .i64 tm, .int .i64 kk, .int .i64 tt, .int .i64 xx, .int .i64 ll, .slice Ar nr cr, .slice Aw nw cw, .bool yy] 35)
  have kn := heap_alloc_new w (.cells #[.int .i64 tm, .int .i64 kk, .int .i64 tt, .int .i64 xx, .int .i64 ll, .slice Ar nr cr, .slice Aw nw cw, .bool yy] 35)
  have HG := Lib.hid (l4Good_any kk tt xx ll yy Ar Aw nr nw cr cw rs ws B _ hnr hnw (hr.below (hb1.mono hB)) (hw.below (hb1.mono hB)) (Nat.le_trans hB hb1.size) hsr hsw)
  have HB := Lib.hid hb1
  have KN := Lib.hid kn
  cases hin : inB tm 1 200 with
  | false =>
    have HE := Lib.hid (ebEnd_no (d := ⟨tm, kk, tt, xx, ll, yy, rs, ws⟩) (by unfold entB; simp only; rw [hin]; rfl))
    have HI := Lib.hid (fun W => C1.l1In_no tm 1 200 W (by simp only [inB, Bool.and_eq_false_iff, decide_eq_false_iff_not] at hin; omega))
    clear hin hr hw hnr hnw hb1 kn hsr hsw HG
    go_enter Try.func10, Try.ntmps10
    go_wp2_with fail
    refine (HI.out _).mono ?_
    rintro e w1 ⟨rfl, rfl⟩
    go_wp2
    go_ret2
    exact ⟨HE.out.symm, HB.out⟩
  | true =>
    have HI := Lib.hid (fun W => C1.l1In_yes tm 1 200 W (by simp only [inB, Bool.and_eq_true, decide_eq_true_eq] at hin; omega) (by simp only [inB, Bool.and_eq_true, decide_eq_true_eq] at hin; omega))
    obtain ⟨c0, c1, c2, c3, c4, c5, c6, c7⟩ := cells8 kn
    cases hv : recB kk tt xx ll yy rs ws with
    | false =>
      have HE := Lib.hid (ebEnd_no (d := ⟨tm, kk, tt, xx, ll, yy, rs, ws⟩) (by unfold entB erB; simp only; rw [hin, hv]; rfl))
      rw [hv] at HG
      clear hin hv hr hw hnr hnw hb1 kn hsr hsw
      go_enter Try.func10, Try.ntmps10
      go_wp2_with fail
      refine (HI.out _).mono ?_
      rintro e w1 ⟨rfl, rfl⟩
      go_wp2_with fail
      refine HG.out.mono ?_
      rintro e w1 ⟨rfl, hb2⟩
      have HF := Lib.hid (HB.out.trans (hb2.mono HB.out.size))
      clear hb2
      go_wp2
      go_ret2
      exact ⟨HE.out.symm, HF.out⟩
    | true =>
      have HE := Lib.hid (ebEnd_yes (d := ⟨tm, kk, tt, xx, ll, yy, rs, ws⟩) (by unfold entB erB; simp only; rw [hin, hv]; rfl))
      rw [hv] at HG
      have hok := rec_ok hv
      obtain ⟨⟨kn', tn, xn, ln, rfl, rfl, rfl, rfl, _⟩, _⟩ := hok
      simp only [inB, Bool.and_eq_true, decide_eq_true_eq] at hin
      obtain ⟨tn0, rfl⟩ : ∃ tn0 : Nat, tm = (tn0 : Int) := ⟨tm.toNat, by omega⟩
      have HC := Lib.hid (fun W (hW : Below w.heap.size w W) => l11Bytes_any tn0 kn' tn xn ln yy Ar Aw nr nw cr cw rs ws B W hnr hnw (hr.below (hW.mono hB)) (hw.below (hW.mono hB)) (Nat.le_trans hB hW.size) (by omega) (rec_ok hv))
      clear hin hv hr hw hnr hnw hb1 hsr hsw
      go_enter Try.func10, Try.ntmps10
      go_wp2_with fail
      refine (HI.out _).mono ?_
      rintro e w1 ⟨rfl, rfl⟩
      go_wp2_with fail
      refine HG.out.mono ?_
      rintro e w1 ⟨rfl, hb2⟩
      have HF := Lib.hid (HB.out.trans (hb2.mono HB.out.size))
      have k2 := (hb2.block w.heap.size (lt_blk KN.out)).trans KN.out
      obtain ⟨c0, c1, c2, c3, c4, c5, c6, c7⟩ := cells8 k2
      have hl2 := lt_blk k2
      clear hb2 kn k2
      go_wp2_with fail
      refine (HC.out _ HF.out).mono ?_
      rintro e w2 ⟨rfl, hb3⟩
      have HF2 := Lib.hid (HF.out.trans (hb3.mono HF.out.size))
      clear hb3 c0 c1 c2 c3 c4 c5 c6 c7
      go_wp2
      go_ret2
      exact ⟨HE.out.symm, HF2.out⟩

set_option maxRecDepth 100000 in
set_option maxHeartbeats 2000000 in
theorem goodEntry_any (tm kk tt xx ll : Int) (yy : Bool) (Ar Aw : Option Addr) (nr nw cr cw : Nat) (rs : List ByteArray) (ws : List (ByteArray × ByteArray × Bool)) (B : Nat) (w : World) (hnr : rs.length = nr) (hnw : ws.length = nw) (hr : StrsB w B Ar rs) (hw : WritesB w B Aw ws) (hB : B ≤ w.heap.size) (hsr : SSmall rs) (hsw : WSmall ws) :
    Calls Try.prog 41 #[.agg #[.int .i64 tm, .int .i64 kk, .int .i64 tt, .int .i64 xx, .int .i64 ll, .slice Ar nr cr, .slice Aw nw cw, .bool yy]] w fun e w' => e = .returned (.bool (entB ⟨tm, kk, tt, xx, ll, yy, rs, ws⟩)) ∧ Below w.heap.size w w' := by
  have hb1 := below2 w (.cells #[.int .i64 tm, .int .i64 kk, .int .i64 tt, .int .i64 xx, .int .i64 ll, .slice Ar nr cr, .slice Aw nw cw, .bool yy] 35) (.cells #[.int .i64 tm, .int .i64 kk, .int .i64 tt, .int .i64 xx, .int .i64 ll, .slice Ar nr cr, .slice Aw nw cw, .bool yy] 35)
  have kn := alloc2_b w (.cells #[.int .i64 tm, .int .i64 kk, .int .i64 tt, .int .i64 xx, .int .i64 ll, .slice Ar nr cr, .slice Aw nw cw, .bool yy] 35) (.cells #[.int .i64 tm, .int .i64 kk, .int .i64 tt, .int .i64 xx, .int .i64 ll, .slice Ar nr cr, .slice Aw nw cw, .bool yy] 35)
  have hrow : RowsB KE ((w.alloc (.cells #[.int .i64 tm, .int .i64 kk, .int .i64 tt, .int .i64 xx, .int .i64 ll, .slice Ar nr cr, .slice Aw nw cw, .bool yy] 35)).alloc (.cells #[.int .i64 tm, .int .i64 kk, .int .i64 tt, .int .i64 xx, .int .i64 ll, .slice Ar nr cr, .slice Aw nw cw, .bool yy] 35)) ((w.alloc (.cells #[.int .i64 tm, .int .i64 kk, .int .i64 tt, .int .i64 xx, .int .i64 ll, .slice Ar nr cr, .slice Aw nw cw, .bool yy] 35)).alloc (.cells #[.int .i64 tm, .int .i64 kk, .int .i64 tt, .int .i64 xx, .int .i64 ll, .slice Ar nr cr, .slice Aw nw cw, .bool yy] 35)).heap.size (some ⟨w.heap.size + 1, 0, none⟩) [⟨⟨tm, kk, tt, xx, ll, yy, rs, ws⟩, Ar, cr, Aw, cw, 0, 0, 0⟩] := by
    refine ⟨.inr ⟨w.heap.size + 1, 0, rfl, lt_blk kn, fun k hk i hi => ?_⟩, fun x hx => ?_⟩
    · have hk0 : k = 0 := by simp at hk; omega
      subst hk0
      rw [cell_of_row _ _ _ _ _ _ kn, ← hnr, ← hnw, Nat.zero_mul, Nat.zero_add]
      exact List.getElem?_toArray
    · rw [List.mem_singleton.1 hx]
      exact ⟨(hr.below (hb1.mono hB)).mono (Nat.le_trans hB hb1.size), (hw.below (hb1.mono hB)).mono (Nat.le_trans hB hb1.size)⟩
  have HG := Lib.hid (goodLog_any (some ⟨w.heap.size + 1, 0, none⟩) 1 1 200 [⟨⟨tm, kk, tt, xx, ll, yy, rs, ws⟩, Ar, cr, Aw, cw, 0, 0, 0⟩] _ _ rfl hrow (Nat.le_refl _) ⟨by simp, fun d hd => by simp at hd; subst hd; exact ⟨hsr, hsw⟩⟩)
  have e0 : logB 200 ([(⟨⟨tm, kk, tt, xx, ll, yy, rs, ws⟩, Ar, cr, Aw, cw, 0, 0, 0⟩ : EH)].map EH.d) = entB ⟨tm, kk, tt, xx, ll, yy, rs, ws⟩ := logB_one _
  rw [e0] at HG
  obtain ⟨r, hr0⟩ : ∃ r, r = entB ⟨tm, kk, tt, xx, ll, yy, rs, ws⟩ := ⟨_, rfl⟩
  rw [← hr0] at HG ⊢
  have HB := Lib.hid hb1
  clear hb1 kn hrow e0 hr0 hr hw hnr hnw hsr hsw
  go_enter Try.func41, Try.ntmps41
  go_wp2_with fail
  refine HG.out.mono ?_
  rintro e w1 ⟨rfl, hb2⟩
  have HF := Lib.hid (HB.out.trans (hb2.mono HB.out.size))
  clear hb2
  go_wp2
  go_ret
  exact ⟨rfl, HF.out⟩

set_option maxRecDepth 100000 in
set_option maxHeartbeats 2000000 in
theorem implEntryBytes_any (tm kk tt xx ll : Int) (yy : Bool) (Ar Aw : Option Addr) (nr nw cr cw : Nat) (rs : List ByteArray) (ws : List (ByteArray × ByteArray × Bool)) (B : Nat) (w : World) (hnr : rs.length = nr) (hnw : ws.length = nw) (hr : StrsB w B Ar rs) (hw : WritesB w B Aw ws) (hB : B ≤ w.heap.size) (hsr : SSmall rs) (hsw : WSmall ws) :
    Calls Try.prog 12 #[.agg #[.int .i64 tm, .int .i64 kk, .int .i64 tt, .int .i64 xx, .int .i64 ll, .slice Ar nr cr, .slice Aw nw cw, .bool yy]] w fun e w' => e = EBEnd ⟨tm, kk, tt, xx, ll, yy, rs, ws⟩ ∧ Below w.heap.size w w' := by
  have hb1 := below1 w (.cells #[.int .i64 tm, .int .i64 kk, .int .i64 tt, .int .i64 xx, .int .i64 ll, .slice Ar nr cr, .slice Aw nw cw, .bool yy] 35)
  have kn := heap_alloc_new w (.cells #[.int .i64 tm, .int .i64 kk, .int .i64 tt, .int .i64 xx, .int .i64 ll, .slice Ar nr cr, .slice Aw nw cw, .bool yy] 35)
  have HG := Lib.hid (goodEntry_any tm kk tt xx ll yy Ar Aw nr nw cr cw rs ws B _ hnr hnw (hr.below (hb1.mono hB)) (hw.below (hb1.mono hB)) (Nat.le_trans hB hb1.size) hsr hsw)
  have HB := Lib.hid hb1
  have KN := Lib.hid kn
  cases hv : entB ⟨tm, kk, tt, xx, ll, yy, rs, ws⟩ with
  | false =>
    have HE := Lib.hid (ebEnd_no hv)
    rw [hv] at HG
    clear hv hr hw hnr hnw hb1 kn hsr hsw
    go_enter Try.func12, Try.ntmps12
    go_wp2_with fail
    refine HG.out.mono ?_
    rintro e w1 ⟨rfl, hb2⟩
    have HF := Lib.hid (HB.out.trans (hb2.mono HB.out.size))
    clear hb2
    go_wp2
    go_ret2
    exact ⟨HE.out.symm, HF.out⟩
  | true =>
    have HE := Lib.hid (ebEnd_yes hv)
    rw [hv] at HG
    unfold entB erB at hv
    simp only [Bool.and_eq_true] at hv
    obtain ⟨hin, hv⟩ := hv
    have hok := rec_ok hv
    obtain ⟨⟨kn', tn, xn, ln, rfl, rfl, rfl, rfl, _⟩, _⟩ := hok
    simp only [inB, Bool.and_eq_true, decide_eq_true_eq] at hin
    obtain ⟨tn0, rfl⟩ : ∃ tn0 : Nat, tm = (tn0 : Int) := ⟨tm.toNat, by omega⟩
    have HN := Lib.hid (fun W => C1.implNumBytes_yes tn0 W (by omega))
    have HC := Lib.hid (fun W (hW : Below w.heap.size w W) => implRecBytes_any kn' tn xn ln yy Ar Aw nr nw cr cw rs ws B W hnr hnw (hr.below (hW.mono hB)) (hw.below (hW.mono hB)) (Nat.le_trans hB hW.size) hsr hsw)
    rw [recBytes_yes hv] at HC
    have z1 := (C1.M.numB_len tn0).1
    have z2 := sealed_len (y := yy) (rec_ok hv)
    have HE2 : Hid (EBEnd ⟨(tn0 : Int), (kn' : Int), (tn : Int), (xn : Int), (ln : Int), yy, rs, ws⟩ = .returned (.tuple #[.string ⟨(C1.M.numB tn0 ++ C1.sealed (recBy kn' tn xn ln yy rs ws)).toArray⟩, .bool true])) := HE
    obtain ⟨A1, hA1⟩ : ∃ A, A = C1.M.numB tn0 := ⟨_, rfl⟩
    obtain ⟨A2, hA2⟩ : ∃ A, A = C1.sealed (recBy kn' tn xn ln yy rs ws) := ⟨_, rfl⟩
    rw [← hA1] at HN z1 HE2
    rw [← hA2] at HC z2 HE2
    obtain ⟨P, hP⟩ : ∃ P, P = A1 ++ A2 := ⟨_, rfl⟩
    have s1 := add_lists A1 A2 P (by omega) hP
    rw [← hP] at HE2
    clear hin hv hr hw hnr hnw hb1 hsr hsw kn HE hA1 hA2 hP z1 z2
    go_enter Try.func12, Try.ntmps12
    go_wp2_with fail
    refine HG.out.mono ?_
    rintro e w1 ⟨rfl, hb2⟩
    have HF := Lib.hid (HB.out.trans (hb2.mono HB.out.size))
    have k2 := (hb2.block w.heap.size (lt_blk KN.out)).trans KN.out
    have KN2 := Lib.hid k2
    have c0 := cell_blk (i := 0) k2 rfl
    have hl2 := lt_blk k2
    clear hb2 k2
    go_wp2_with fail
    refine (HN.out _).mono ?_
    rintro e w2 ⟨rfl, hb3⟩
    have HF2 := Lib.hid (HF.out.trans (hb3.mono HF.out.size))
    have k3 := (hb3.block w.heap.size (lt_blk KN2.out)).trans KN2.out
    obtain ⟨c0, c1, c2, c3, c4, c5, c6, c7⟩ := cells8 k3
    have hl3 := lt_blk k3
    clear hb3 k3
    go_wp2_with fail
    refine (HC.out _ HF2.out).mono ?_
    rintro e w3 ⟨rfl, hb4⟩
    have HF3 := Lib.hid (HF2.out.trans (hb4.mono HF2.out.size))
    clear hb4 c0 c1 c2 c3 c4 c5 c6 c7
    go_wp2
    go_ret2
    exact ⟨HE2.out.symm, HF3.out⟩
end Go.Proofs.Ytkhndofplebcaaa.Hs
