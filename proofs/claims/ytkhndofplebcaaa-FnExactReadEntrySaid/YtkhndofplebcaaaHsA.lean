/-
  Several texts in one: HsM, HsN, HsE, HsR, HsRi.
-/
import Derived.Test.YtkhndofplebcaaaGrGd
import Derived.Test.YtkhndofplebcaaaReadI
import Derived.Test.YtkhndofplebcaaaC1
import Derived.Test.YtkhndofplebcaaaRecBI
import Derived.Test.YtkhndofplebcaaaReadM

/-
  Plain mathematics of entries as bytes, over nothing of the program.
-/
namespace Go.Proofs.Ytkhndofplebcaaa.Hs
open Go.RowKit CM Gr
set_option linter.unusedVariables false

/-- An entry that may be written. -/
def entB (d : ED) : Bool := inB d.tm 1 200 && erB d
theorem logB_one (d : ED) : logB 200 [d] = entB d := by simp [logB, lgB, entB]
/-- The bytes of its record. -/
def recL (d : ED) : List UInt8 := C1.sealed (recBy d.k.toNat d.t.toNat d.x.toNat d.l.toNat d.y d.rs d.ws)
def entL (d : ED) : List UInt8 := C1.M.numB d.tm.toNat ++ recL d
def entBytes (d : ED) : ByteArray × Bool := if entB d = true then (⟨(entL d).toArray⟩, true) else (⟨#[]⟩, false)
def zeD : ED := ⟨0, 0, 0, 0, 0, false, [], []⟩
/-- What stands in bytes, read as a record. -/
def encOf (b : ByteArray) (n : Int) : ED := ⟨n, (r1 (bodyOf b)).1, (r2 (bodyOf b)).1, (r3 (bodyOf b)).1, (r4 (bodyOf b)).1, (((r5 (bodyOf b)).1 : Int) == 1), (r6 (bodyOf b)).1, (r8 (bodyOf b)).1⟩
def encB (b : ByteArray) : Bool := erB (encOf b 0) && decide (b = ⟨(recL (encOf b 0)).toArray⟩)
theorem enc_is {k t tm ld : Int} {y : Bool} {rs : List ByteArray} {ws : List (ByteArray × ByteArray × Bool)} {b : ByteArray} (h : Enc k t tm ld y rs ws b) (n : Int) : encOf b n = ⟨n, k, t, tm, ld, y, rs, ws⟩ := by
  obtain ⟨a1, a2, a3, a4, a5, a6, a7⟩ := enc_reads h
  unfold encOf
  rw [← a1, ← a2, ← a3, ← a4, ← a5, ← a6, ← a7]
theorem enc_yes {k t tm ld : Int} {y : Bool} {rs : List ByteArray} {ws : List (ByteArray × ByteArray × Bool)} {b : ByteArray} (h : Enc k t tm ld y rs ws b) : encB b = true := by
  unfold encB
  rw [enc_is h 0]
  have h1 : erB ⟨0, k, t, tm, ld, y, rs, ws⟩ = true := h.1
  have h2 : b = ⟨(recL ⟨0, k, t, tm, ld, y, rs, ws⟩).toArray⟩ := h.2
  rw [h1, ← h2]
  simp
theorem enc_no {b : ByteArray} (h : NoEnc b) : encB b = false := by
  cases e : encB b with
  | false => rfl
  | true =>
    unfold encB at e
    simp only [Bool.and_eq_true, decide_eq_true_eq] at e
    exact absurd ⟨e.1, e.2⟩ (h _ _ _ _ _ _ _)
theorem enc_er {b : ByteArray} (h : encB b = true) (n : Int) : erB (encOf b n) = true := by
  unfold encB at h
  rw [Bool.and_eq_true] at h
  exact h.1
/-- The number ahead, and the bytes behind it. -/
def numOf (b : ByteArray) : Nat × Nat × Bool := C1.M.readNum b.data.toList 0
def restOf (b : ByteArray) : ByteArray := b.extract (numOf b).2.1 b.size
def entOk (b : ByteArray) : Bool := decide (b.size ≤ 6000) && ((numOf b).2.2 && (encB (restOf b) && inB ((numOf b).1 : Int) 1 200))
/-- What ReadEntry answers. -/
def entAt (b : ByteArray) : ED × Bool := if entOk b = true then (encOf (restOf b) ((numOf b).1 : Int), true) else (zeD, false)
theorem entAt_ok (b : ByteArray) : (entAt b).2 = entOk b := by
  unfold entAt
  cases h : entOk b <;> simp
theorem entAt_good {b : ByteArray} (h : entOk b = true) : entB (entAt b).1 = true := by
  unfold entAt
  rw [if_pos h]
  unfold entOk at h
  simp only [Bool.and_eq_true] at h
  unfold entB
  rw [enc_er h.2.2.1]
  show (inB ((numOf b).1 : Int) 1 200 && true) = true
  rw [h.2.2.2]; rfl
theorem recL_len {d : ED} (h : erB d = true) : (recL d).length ≤ 1752 := by
  have hok := rec_ok (show recB d.k d.t d.x d.l d.y d.rs d.ws = true from h)
  obtain ⟨_, l1, l2, hg, hws⟩ := hok
  have e1 := headBy_len d.k.toNat d.t.toNat d.x.toNat d.l.toNat d.y d.rs d.ws.length hg (by omega)
  have e2 := wsBy_len d.ws d.ws.length (Nat.le_refl _) hws
  unfold recL C1.sealed recBy
  rw [List.length_append, List.length_append, three_len]
  omega
theorem entL_len {d : ED} (h : erB d = true) : (entL d).length ≤ 1762 := by
  have h1 := recL_len h
  have h2 := (C1.M.numB_len d.tm.toNat).1
  unfold entL
  rw [List.length_append]
  omega
/-- An entry's bytes are read back. -/
theorem ent_back {d : ED} (h : entB d = true) : entAt ⟨(entL d).toArray⟩ = (d, true) := by
  unfold entB at h
  rw [Bool.and_eq_true] at h
  obtain ⟨h1, h2⟩ := h
  have hr := recL_len h2
  have hin := h1
  simp only [inB, Bool.and_eq_true, decide_eq_true_eq] at hin
  obtain ⟨b, hb⟩ : ∃ b : ByteArray, b = ⟨(entL d).toArray⟩ := ⟨_, rfl⟩
  have hd : b.data.toList = entL d := by rw [hb]
  have hsz : b.size = (entL d).length := by rw [← C1.data_len, hd]
  have hnum : numOf b = (d.tm.toNat, 0 + (C1.M.numB d.tm.toNat).length, true) := by
    unfold numOf C1.M.readNum
    rw [hd, List.drop_zero]
    exact C1.M.read_num d.tm.toNat 0 _ (by omega)
  have hrest : restOf b = ⟨(recL d).toArray⟩ := by
    unfold restOf
    rw [hnum]
    apply ByteArray.ext
    apply Array.ext'
    rw [Lib.extract_data, hd, hsz]
    unfold entL
    rw [List.length_append, Nat.zero_add, List.drop_append_of_le_length (Nat.le_refl _), List.drop_of_length_le (Nat.le_refl _), List.nil_append]
    refine List.take_of_length_le ?_
    simp only
    omega
  have henc : Enc d.k d.t d.x d.l d.y d.rs d.ws (restOf b) := ⟨h2, hrest⟩
  have hok : entOk b = true := by
    unfold entOk
    rw [hnum, enc_yes henc]
    have e1 : decide (b.size ≤ 6000) = true := by have := entL_len h2; simp; omega
    have e2 : inB ((d.tm.toNat : Nat) : Int) 1 200 = true := by rw [Int.toNat_of_nonneg (by omega)]; exact h1
    rw [e1]
    simp only [e2, Bool.and_self]
  rw [← hb]
  unfold entAt
  rw [if_pos hok, enc_is henc, hnum]
  simp only
  rw [Int.toNat_of_nonneg (by omega)]
end Go.Proofs.Ytkhndofplebcaaa.Hs

/-
  Contracts for NumBytes of the program and ReadNum of the model.
-/
namespace Go.Proofs.Ytkhndofplebcaaa.C1
open Go.RowKit
set_option linter.unusedVariables false

set_option maxHeartbeats 400000 in
theorem implNumBytes_yes (m : Nat) (w : World) (hm : m ≤ 1000000000) :
    Calls Try.prog 42 #[.int .i64 (m : Int)] w fun e w' => e = .returned (.tuple #[.string ⟨(M.numB m).toArray⟩, .bool true]) ∧ Below w.heap.size w w' := by
  have h0 : (0 : Int) ≤ (m : Int) := by omega
  go_enter Try.func42, Try.ntmps42
  go_wp2_with fail
  refine (appendNum_any _ [] m w.heap.size _ (World.ownsRow_nil _ _ _ _) (Nat.le_refl _) hm (by simp)).mono ?_
  rintro e w' ⟨v', rfl, hown, hbel⟩
  have hcv := conv_back hown
  simp only [List.nil_append] at hcv
  clear hown
  go_wp2
  go_ret2
  exact ⟨rfl, hbel⟩
set_option maxHeartbeats 400000 in
theorem l1Place_yes (s : ByteArray) (q : Int) (w : World) (h : Place s q) :
    Calls Try.prog 93 #[.string s, .int .i64 q] w fun e w' => e = .returned (.bool true) ∧ w = w' := by
  obtain ⟨h1, h2, h3⟩ := h
  go_enter Try.func93, Try.ntmps93
  go_wp2_with fail
  refine (l1In_yes _ _ _ _ h2 h3).mono ?_
  rintro e w' ⟨rfl, rfl⟩
  go_wp2
  go_ret
  exact ⟨rfl, rfl⟩

set_option maxHeartbeats 400000 in
theorem l1Place_no (s : ByteArray) (q : Int) (w : World) (hm : s.size ≤ maxLen) (h : ¬ Place s q) :
    Calls Try.prog 93 #[.string s, .int .i64 q] w fun e w' => e = .returned (.bool false) ∧ w = w' := by
  unfold maxLen at hm
  unfold Place at h
  by_cases h1 : s.size ≤ 6000
  · have h2 : q < 0 ∨ (s.size : Int) < q := by omega
    have H := Lib.hid h2
    clear h2 h
    go_enter Try.func93, Try.ntmps93
    go_wp2_with fail
    refine (l1In_no _ _ _ _ H.out).mono ?_
    rintro e w' ⟨rfl, rfl⟩
    go_wp2
    go_ret
    exact ⟨rfl, rfl⟩
  · have h3 : decide ((s.size : Int) ≤ 6000) = false := by simp; omega
    clear h
    go_enter Try.func93, Try.ntmps93
    go_wp2
    go_ret
    exact ⟨rfl, rfl⟩

set_option maxHeartbeats 400000 in
theorem specReadNum_no (s : ByteArray) (q : Int) (w : World) (hm : s.size ≤ maxLen) (h : ¬ Place s q) :
    Calls Try.prog 44 #[.string s, .int .i64 q] w fun e w' => e = .returned (.tuple #[.int .i64 0, .int .i64 0, .bool false]) ∧ w = w' := by
  have H := Lib.hid h
  clear h
  go_enter Try.func44, Try.ntmps44
  go_wp2_with fail
  refine (l1Place_no s q _ hm H.out).mono ?_
  rintro e w' ⟨rfl, rfl⟩
  go_wp2
  go_ret3
  exact ⟨rfl, rfl⟩
set_option maxRecDepth 100000 in
set_option maxHeartbeats 1000000 in
theorem specReadNum_yes (s : ByteArray) (q : Nat) (w : World) (h : Place s q) :
    Calls Try.prog 44 #[.string s, .int .i64 (q : Int)] w fun e w' => e = NumTuple (M.readNum s.data.toList q) ∧ Below w.heap.size w w' := by
  have HP := Lib.hid h
  obtain ⟨h1, h2, h3⟩ := h
  go_enter Try.func44, Try.ntmps44
  go_wp2_with fail
  refine (l1Place_yes s q _ HP.out).mono ?_
  rintro e w' ⟨rfl, rfl⟩
  go_wp2_with fail
  refine (rnum_any w.heap.size s q _ (rat_new w s q) (by omega) (by omega)).mono ?_
  rintro e w1 ⟨hG, hres⟩
  have hB : Below w.heap.size w w1 := (((Below.refl _ _).alloc (Nat.le_refl _) _).trans (below_of_grown hG (Nat.le_refl _) (by simp)))
  rcases hres with ⟨hok, rfl, hR⟩ | ⟨hok, rfl, q', hR⟩
  · have d1 := hR.c1
    have d2 := hR.c2
    obtain ⟨r, hr⟩ : ∃ r, r = M.readNum s.data.toList q := ⟨_, rfl⟩
    rw [← hr] at d1 hok ⊢
    have HK := Lib.hid hok
    have HR0 := Lib.hid hr
    clear hok hr hG hR
    go_wp2_with fail
    go_quiet (fail)
    go_wp2
    go_ret3
    refine ⟨?_, ⟨hB.os, hB.tape, hB.output, hB.size, hB.block⟩⟩
    unfold NumTuple
    rw [← HR0.out, HK.out]
    rfl
  · have d2 := hR.c2
    have hz := Lib.hid (read_zero _ _ hok)
    clear hok hG
    go_wp2
    go_ret3
    refine ⟨?_, hB⟩
    rw [hz.out]; rfl
end Go.Proofs.Ytkhndofplebcaaa.C1

/-
  Contracts for EntryBytes of program and model: the model's l11Bytes; the program's goodEntry.
-/
namespace Go.Proofs.Ytkhndofplebcaaa.Hs
open Go.RowKit CM Gr
set_option linter.unusedVariables false
set_option linter.unusedSimpArgs false

/-- What EntryBytes hands back. -/
def EBEnd (d : ED) : Ending := .returned (.tuple #[.string (entBytes d).1, .bool (entBytes d).2])
theorem ebEnd_no {d : ED} (h : entB d = false) : EBEnd d = .returned (.tuple #[.string ⟨#[]⟩, .bool false]) := by
  unfold EBEnd entBytes
  rw [h]; rfl
theorem ebEnd_yes {d : ED} (h : entB d = true) : EBEnd d = .returned (.tuple #[.string ⟨(entL d).toArray⟩, .bool true]) := by
  unfold EBEnd entBytes
  rw [h]; rfl
theorem sealed_len {k t x l : Nat} {y : Bool} {rs : List ByteArray} {ws : List (ByteArray × ByteArray × Bool)} (hok : RecOk k t x l rs ws) : (C1.sealed (recBy k t x l y rs ws)).length ≤ 1752 := by
  obtain ⟨_, l1, l2, hg, hws⟩ := hok
  have e1 := headBy_len k t x l y rs ws.length hg (by omega)
  have e2 := wsBy_len ws ws.length (Nat.le_refl _) hws
  unfold C1.sealed recBy
  rw [List.length_append, List.length_append, three_len]
  omega
theorem cells8 {w : World} {k : Nat} {a b c d e f g h : Value} {t : TypeId} (hk : w.heap[k]? = some (.cells #[a, b, c, d, e, f, g, h] t (0, 0))) : w.cell? ⟨k, 0, none⟩ = some a ∧ w.cell? ⟨k, 1, none⟩ = some b ∧ w.cell? ⟨k, 2, none⟩ = some c ∧ w.cell? ⟨k, 3, none⟩ = some d ∧ w.cell? ⟨k, 4, none⟩ = some e ∧ w.cell? ⟨k, 5, none⟩ = some f ∧ w.cell? ⟨k, 6, none⟩ = some g ∧ w.cell? ⟨k, 7, none⟩ = some h :=
  ⟨cell_blk (i := 0) hk rfl, cell_blk (i := 1) hk rfl, cell_blk (i := 2) hk rfl, cell_blk (i := 3) hk rfl, cell_blk (i := 4) hk rfl, cell_blk (i := 5) hk rfl, cell_blk (i := 6) hk rfl, cell_blk (i := 7) hk rfl⟩

set_option maxRecDepth 100000 in
set_option maxHeartbeats 2000000 in
theorem l11Bytes_any (tm kk tt xx ll : Nat) (yy : Bool) (Ar Aw : Option Addr) (nr nw cr cw : Nat) (rs : List ByteArray) (ws : List (ByteArray × ByteArray × Bool)) (B : Nat) (w : World) (hnr : rs.length = nr) (hnw : ws.length = nw) (hr : StrsB w B Ar rs) (hw : WritesB w B Aw ws) (hB : B ≤ w.heap.size) (htm : tm ≤ 200) (hok : RecOk kk tt xx ll rs ws) :
    Calls Try.prog 40 #[.agg #[.int .i64 (tm : Int), .int .i64 (kk : Int), .int .i64 (tt : Int), .int .i64 (xx : Int), .int .i64 (ll : Int), .slice Ar nr cr, .slice Aw nw cw, .bool yy]] w fun e w' => e = .returned (.string ⟨(C1.M.numB tm ++ C1.sealed (recBy kk tt xx ll yy rs ws)).toArray⟩) ∧ Below w.heap.size w w' := by
  obtain ⟨W0, hW0⟩ : ∃ W0, W0 = w.alloc (.cells #[.int .i64 (tm : Int), .int .i64 (kk : Int), .int .i64 (tt : Int), .int .i64 (xx : Int), .int .i64 (ll : Int), .slice Ar nr cr, .slice Aw nw cw, .bool yy] 35) := ⟨_, rfl⟩
  have hb0 : Below w.heap.size w W0 := by rw [hW0]; exact below1 _ _
  have kn : W0.heap[w.heap.size]? = some (.cells #[.int .i64 (tm : Int), .int .i64 (kk : Int), .int .i64 (tt : Int), .int .i64 (xx : Int), .int .i64 (ll : Int), .slice Ar nr cr, .slice Aw nw cw, .bool yy] 35) := by rw [hW0]; exact heap_alloc_new _ _
  have hlt : w.heap.size < W0.heap.size := lt_blk kn
  have z1 := (C1.M.numB_len tm).1
  have z2 := sealed_len (y := yy) hok
  obtain ⟨A1, hA1⟩ : ∃ A, A = C1.M.numB tm := ⟨_, rfl⟩
  obtain ⟨A2, hA2⟩ : ∃ A, A = C1.sealed (recBy kk tt xx ll yy rs ws) := ⟨_, rfl⟩
  have HN1 := Lib.hid (fun W => C1.l1NumB_any tm W (by omega))
  have HN2 := Lib.hid (fun (p : BelT W0) => l4Bytes_any kk tt xx ll yy Ar Aw nr nw cr cw rs ws B p.w hnr hnw (hr.below ((hb0.trans (p.below.mono hb0.size)).mono hB)) (hw.below ((hb0.trans (p.below.mono hb0.size)).mono hB)) (Nat.le_trans hB (Nat.le_trans hb0.size p.sz)) hok)
  rw [← hA1] at HN1 z1 ⊢
  rw [← hA2] at HN2 z2 ⊢
  obtain ⟨P, hP⟩ : ∃ P, P = A1 ++ A2 := ⟨_, rfl⟩
  have s1 := add_lists A1 A2 P (by omega) hP
  rw [← hP]
  obtain ⟨c0, c1, c2, c3, c4, c5, c6, c7⟩ := cells8 kn
  have y0 := bel_cell c0 hlt
  have y1 := bel_cell c1 hlt
  have y2 := bel_cell c2 hlt
  have y3 := bel_cell c3 hlt
  have y4 := bel_cell c4 hlt
  have y5 := bel_cell c5 hlt
  have y6 := bel_cell c6 hlt
  have y7 := bel_cell c7 hlt
  have HW0 := Lib.hid hW0
  have HB0 := Lib.hid hb0
  clear hA1 hA2 hP z1 z2 hr hw hnr hnw hW0 hb0 kn hok c0 c1 c2 c3 c4 c5 c6 c7
  go_enter Try.func40, Try.ntmps40
  go_wp2_with fail
  rw [← HW0.out]
  refine bel_region (by kernel_rfl) (by kernel_rfl) ?_
  repeat (go_big_quiet_step (first
    | (go_at_call 84; exact bel_call (HN1.out _))
    | (go_at_call 85; exact bel_call (HN2.out _))))
  refine wpQuiet_nil ?_
  intro p
  have HB1 := Lib.hid (HB0.out.trans (p.below.mono HB0.out.size))
  go_wp2
  go_ret
  exact ⟨rfl, HB1.out⟩

set_option maxRecDepth 100000 in
set_option maxHeartbeats 2000000 in
theorem specEntryBytes_any (tm kk tt xx ll : Int) (yy : Bool) (Ar Aw : Option Addr) (nr nw cr cw : Nat) (rs : List ByteArray) (ws : List (ByteArray × ByteArray × Bool)) (B : Nat) (w : World) (hnr : rs.length = nr) (hnw : ws.length = nw) (hr : StrsB w B Ar rs) (hw : WritesB w B Aw ws) (hB : B ≤ w.heap.size) (hsr : SSmall rs) (hsw : WSmall ws) :
    Calls Try.prog 10 #[.agg #[.int .i64 tm, .int .i64 kk, .int .i64 tt, .int .i64 xx, .int .i64 ll, .slice Ar nr cr, .slice Aw nw cw, .bool yy]] w fun e w' => e = EBEnd ⟨tm, kk, tt, xx, ll, yy, rs, ws⟩ ∧ Below w.heap.size w w' := by
  have hb1 := below1 w (.cells #[.int .i64 tm, .int .i64 kk, .int .i64 tt, .int .i64 xx, .int .i64 ll, .slice Ar nr cr, .slice Aw nw cw, .bool yy] 35)
  have kn := heap_alloc_new w (.cells #[.int .i64 tm, .int .i64 kk, .int .i64 tt, .int .i64 xx, .int .i64 ll, .slice Ar nr cr, .slice Aw nw cw, .bool yy] 35)
  have HG := Lib.hid (l4Good_any kk tt xx ll yy Ar Aw nr nw cr cw rs ws B _ hnr hnw (hr.below (hb1.mono hB)) (hw.below (hb1.mono hB)) (Nat.le_trans hB hb1.size) hsr hsw)
  have HB := Lib.hid hb1
  have KN := Lib.hid kn
  cases hin : inB tm 1 200 with
  | false =>
    have HE := Lib.hid (ebEnd_no (d := ⟨tm, kk, tt, xx, ll, yy, rs, ws⟩) (by unfold entB; simp only; rw [hin]; rfl))
    have HI := Lib.hid (fun W => C1.l1In_no tm 1 200 W (by simp only [inB, Bool.and_eq_false_iff, decide_eq_false_iff_not] at hin; omega))
    clear hin hr hw hnr hnw hb1 kn hsr hsw HG
    go_enter Try.func10, Try.ntmps10
    go_wp2_with fail
    refine (HI.out _).mono ?_
    rintro e w1 ⟨rfl, rfl⟩
    go_wp2
    go_ret2
    exact ⟨HE.out.symm, HB.out⟩
  | true =>
    have HI := Lib.hid (fun W => C1.l1In_yes tm 1 200 W (by simp only [inB, Bool.and_eq_true, decide_eq_true_eq] at hin; omega) (by simp only [inB, Bool.and_eq_true, decide_eq_true_eq] at hin; omega))
    obtain ⟨c0, c1, c2, c3, c4, c5, c6, c7⟩ := cells8 kn
    cases hv : recB kk tt xx ll yy rs ws with
    | false =>
      have HE := Lib.hid (ebEnd_no (d := ⟨tm, kk, tt, xx, ll, yy, rs, ws⟩) (by unfold entB erB; simp only; rw [hin, hv]; rfl))
      rw [hv] at HG
      clear hin hv hr hw hnr hnw hb1 kn hsr hsw
      go_enter Try.func10, Try.ntmps10
      go_wp2_with fail
      refine (HI.out _).mono ?_
      rintro e w1 ⟨rfl, rfl⟩
      go_wp2_with fail
      refine HG.out.mono ?_
      rintro e w1 ⟨rfl, hb2⟩
      have HF := Lib.hid (HB.out.trans (hb2.mono HB.out.size))
      clear hb2
      go_wp2
      go_ret2
      exact ⟨HE.out.symm, HF.out⟩
    | true =>
      have HE := Lib.hid (ebEnd_yes (d := ⟨tm, kk, tt, xx, ll, yy, rs, ws⟩) (by unfold entB erB; simp only; rw [hin, hv]; rfl))
      rw [hv] at HG
      have hok := rec_ok hv
      obtain ⟨⟨kn', tn, xn, ln, rfl, rfl, rfl, rfl, _⟩, _⟩ := hok
      simp only [inB, Bool.and_eq_true, decide_eq_true_eq] at hin
      obtain ⟨tn0, rfl⟩ : ∃ tn0 : Nat, tm = (tn0 : Int) := ⟨tm.toNat, by omega⟩
      have HC := Lib.hid (fun W (hW : Below w.heap.size w W) => l11Bytes_any tn0 kn' tn xn ln yy Ar Aw nr nw cr cw rs ws B W hnr hnw (hr.below (hW.mono hB)) (hw.below (hW.mono hB)) (Nat.le_trans hB hW.size) (by omega) (rec_ok hv))
      clear hin hv hr hw hnr hnw hb1 hsr hsw
      go_enter Try.func10, Try.ntmps10
      go_wp2_with fail
      refine (HI.out _).mono ?_
      rintro e w1 ⟨rfl, rfl⟩
      go_wp2_with fail
      refine HG.out.mono ?_
      rintro e w1 ⟨rfl, hb2⟩
      have HF := Lib.hid (HB.out.trans (hb2.mono HB.out.size))
      have k2 := (hb2.block w.heap.size (lt_blk KN.out)).trans KN.out
      obtain ⟨c0, c1, c2, c3, c4, c5, c6, c7⟩ := cells8 k2
      have hl2 := lt_blk k2
      clear hb2 kn k2
      go_wp2_with fail
      refine (HC.out _ HF.out).mono ?_
      rintro e w2 ⟨rfl, hb3⟩
      have HF2 := Lib.hid (HF.out.trans (hb3.mono HF.out.size))
      clear hb3 c0 c1 c2 c3 c4 c5 c6 c7
      go_wp2
      go_ret2
      exact ⟨HE.out.symm, HF2.out⟩

set_option maxRecDepth 100000 in
set_option maxHeartbeats 2000000 in
theorem goodEntry_any (tm kk tt xx ll : Int) (yy : Bool) (Ar Aw : Option Addr) (nr nw cr cw : Nat) (rs : List ByteArray) (ws : List (ByteArray × ByteArray × Bool)) (B : Nat) (w : World) (hnr : rs.length = nr) (hnw : ws.length = nw) (hr : StrsB w B Ar rs) (hw : WritesB w B Aw ws) (hB : B ≤ w.heap.size) (hsr : SSmall rs) (hsw : WSmall ws) :
    Calls Try.prog 41 #[.agg #[.int .i64 tm, .int .i64 kk, .int .i64 tt, .int .i64 xx, .int .i64 ll, .slice Ar nr cr, .slice Aw nw cw, .bool yy]] w fun e w' => e = .returned (.bool (entB ⟨tm, kk, tt, xx, ll, yy, rs, ws⟩)) ∧ Below w.heap.size w w' := by
  have hb1 := below2 w (.cells #[.int .i64 tm, .int .i64 kk, .int .i64 tt, .int .i64 xx, .int .i64 ll, .slice Ar nr cr, .slice Aw nw cw, .bool yy] 35) (.cells #[.int .i64 tm, .int .i64 kk, .int .i64 tt, .int .i64 xx, .int .i64 ll, .slice Ar nr cr, .slice Aw nw cw, .bool yy] 35)
  have kn := alloc2_b w (.cells #[.int .i64 tm, .int .i64 kk, .int .i64 tt, .int .i64 xx, .int .i64 ll, .slice Ar nr cr, .slice Aw nw cw, .bool yy] 35) (.cells #[.int .i64 tm, .int .i64 kk, .int .i64 tt, .int .i64 xx, .int .i64 ll, .slice Ar nr cr, .slice Aw nw cw, .bool yy] 35)
  have hrow : RowsB KE ((w.alloc (.cells #[.int .i64 tm, .int .i64 kk, .int .i64 tt, .int .i64 xx, .int .i64 ll, .slice Ar nr cr, .slice Aw nw cw, .bool yy] 35)).alloc (.cells #[.int .i64 tm, .int .i64 kk, .int .i64 tt, .int .i64 xx, .int .i64 ll, .slice Ar nr cr, .slice Aw nw cw, .bool yy] 35)) ((w.alloc (.cells #[.int .i64 tm, .int .i64 kk, .int .i64 tt, .int .i64 xx, .int .i64 ll, .slice Ar nr cr, .slice Aw nw cw, .bool yy] 35)).alloc (.cells #[.int .i64 tm, .int .i64 kk, .int .i64 tt, .int .i64 xx, .int .i64 ll, .slice Ar nr cr, .slice Aw nw cw, .bool yy] 35)).heap.size (some ⟨w.heap.size + 1, 0, none⟩) [⟨⟨tm, kk, tt, xx, ll, yy, rs, ws⟩, Ar, cr, Aw, cw, 0, 0, 0⟩] := by
    refine ⟨.inr ⟨w.heap.size + 1, 0, rfl, lt_blk kn, fun k hk i hi => ?_⟩, fun x hx => ?_⟩
    · have hk0 : k = 0 := by simp at hk; omega
      subst hk0
      rw [cell_of_row _ _ _ _ _ _ kn, ← hnr, ← hnw, Nat.zero_mul, Nat.zero_add]
      exact List.getElem?_toArray
    · rw [List.mem_singleton.1 hx]
      exact ⟨(hr.below (hb1.mono hB)).mono (Nat.le_trans hB hb1.size), (hw.below (hb1.mono hB)).mono (Nat.le_trans hB hb1.size)⟩
  have HG := Lib.hid (goodLog_any (some ⟨w.heap.size + 1, 0, none⟩) 1 1 200 [⟨⟨tm, kk, tt, xx, ll, yy, rs, ws⟩, Ar, cr, Aw, cw, 0, 0, 0⟩] _ _ rfl hrow (Nat.le_refl _) ⟨by simp, fun d hd => by simp at hd; subst hd; exact ⟨hsr, hsw⟩⟩)
  have e0 : logB 200 ([(⟨⟨tm, kk, tt, xx, ll, yy, rs, ws⟩, Ar, cr, Aw, cw, 0, 0, 0⟩ : EH)].map EH.d) = entB ⟨tm, kk, tt, xx, ll, yy, rs, ws⟩ := logB_one _
  rw [e0] at HG
  obtain ⟨r, hr0⟩ : ∃ r, r = entB ⟨tm, kk, tt, xx, ll, yy, rs, ws⟩ := ⟨_, rfl⟩
  rw [← hr0] at HG ⊢
  have HB := Lib.hid hb1
  clear hb1 kn hrow e0 hr0 hr hw hnr hnw hsr hsw
  go_enter Try.func41, Try.ntmps41
  go_wp2_with fail
  refine HG.out.mono ?_
  rintro e w1 ⟨rfl, hb2⟩
  have HF := Lib.hid (HB.out.trans (hb2.mono HB.out.size))
  clear hb2
  go_wp2
  go_ret
  exact ⟨rfl, HF.out⟩

set_option maxRecDepth 100000 in
set_option maxHeartbeats 2000000 in
theorem implEntryBytes_any (tm kk tt xx ll : Int) (yy : Bool) (Ar Aw : Option Addr) (nr nw cr cw : Nat) (rs : List ByteArray) (ws : List (ByteArray × ByteArray × Bool)) (B : Nat) (w : World) (hnr : rs.length = nr) (hnw : ws.length = nw) (hr : StrsB w B Ar rs) (hw : WritesB w B Aw ws) (hB : B ≤ w.heap.size) (hsr : SSmall rs) (hsw : WSmall ws) :
    Calls Try.prog 12 #[.agg #[.int .i64 tm, .int .i64 kk, .int .i64 tt, .int .i64 xx, .int .i64 ll, .slice Ar nr cr, .slice Aw nw cw, .bool yy]] w fun e w' => e = EBEnd ⟨tm, kk, tt, xx, ll, yy, rs, ws⟩ ∧ Below w.heap.size w w' := by
  have hb1 := below1 w (.cells #[.int .i64 tm, .int .i64 kk, .int .i64 tt, .int .i64 xx, .int .i64 ll, .slice Ar nr cr, .slice Aw nw cw, .bool yy] 35)
  have kn := heap_alloc_new w (.cells #[.int .i64 tm, .int .i64 kk, .int .i64 tt, .int .i64 xx, .int .i64 ll, .slice Ar nr cr, .slice Aw nw cw, .bool yy] 35)
  have HG := Lib.hid (goodEntry_any tm kk tt xx ll yy Ar Aw nr nw cr cw rs ws B _ hnr hnw (hr.below (hb1.mono hB)) (hw.below (hb1.mono hB)) (Nat.le_trans hB hb1.size) hsr hsw)
  have HB := Lib.hid hb1
  have KN := Lib.hid kn
  cases hv : entB ⟨tm, kk, tt, xx, ll, yy, rs, ws⟩ with
  | false =>
    have HE := Lib.hid (ebEnd_no hv)
    rw [hv] at HG
    clear hv hr hw hnr hnw hb1 kn hsr hsw
    go_enter Try.func12, Try.ntmps12
    go_wp2_with fail
    refine HG.out.mono ?_
    rintro e w1 ⟨rfl, hb2⟩
    have HF := Lib.hid (HB.out.trans (hb2.mono HB.out.size))
    clear hb2
    go_wp2
    go_ret2
    exact ⟨HE.out.symm, HF.out⟩
  | true =>
    have HE := Lib.hid (ebEnd_yes hv)
    rw [hv] at HG
    unfold entB erB at hv
    simp only [Bool.and_eq_true] at hv
    obtain ⟨hin, hv⟩ := hv
    have hok := rec_ok hv
    obtain ⟨⟨kn', tn, xn, ln, rfl, rfl, rfl, rfl, _⟩, _⟩ := hok
    simp only [inB, Bool.and_eq_true, decide_eq_true_eq] at hin
    obtain ⟨tn0, rfl⟩ : ∃ tn0 : Nat, tm = (tn0 : Int) := ⟨tm.toNat, by omega⟩
    have HN := Lib.hid (fun W => C1.implNumBytes_yes tn0 W (by omega))
    have HC := Lib.hid (fun W (hW : Below w.heap.size w W) => implRecBytes_any kn' tn xn ln yy Ar Aw nr nw cr cw rs ws B W hnr hnw (hr.below (hW.mono hB)) (hw.below (hW.mono hB)) (Nat.le_trans hB hW.size) hsr hsw)
    rw [recBytes_yes hv] at HC
    have z1 := (C1.M.numB_len tn0).1
    have z2 := sealed_len (y := yy) (rec_ok hv)
    have HE2 : Hid (EBEnd ⟨(tn0 : Int), (kn' : Int), (tn : Int), (xn : Int), (ln : Int), yy, rs, ws⟩ = .returned (.tuple #[.string ⟨(C1.M.numB tn0 ++ C1.sealed (recBy kn' tn xn ln yy rs ws)).toArray⟩, .bool true])) := HE
    obtain ⟨A1, hA1⟩ : ∃ A, A = C1.M.numB tn0 := ⟨_, rfl⟩
    obtain ⟨A2, hA2⟩ : ∃ A, A = C1.sealed (recBy kn' tn xn ln yy rs ws) := ⟨_, rfl⟩
    rw [← hA1] at HN z1 HE2
    rw [← hA2] at HC z2 HE2
    obtain ⟨P, hP⟩ : ∃ P, P = A1 ++ A2 := ⟨_, rfl⟩
    have s1 := add_lists A1 A2 P (by omega) hP
    rw [← hP] at HE2
    clear hin hv hr hw hnr hnw hb1 hsr hsw kn HE hA1 hA2 hP z1 z2
    go_enter Try.func12, Try.ntmps12
    go_wp2_with fail
    refine HG.out.mono ?_
    rintro e w1 ⟨rfl, hb2⟩
    have HF := Lib.hid (HB.out.trans (hb2.mono HB.out.size))
    have k2 := (hb2.block w.heap.size (lt_blk KN.out)).trans KN.out
    have KN2 := Lib.hid k2
    have c0 := cell_blk (i := 0) k2 rfl
    have hl2 := lt_blk k2
    clear hb2 k2
    go_wp2_with fail
    refine (HN.out _).mono ?_
    rintro e w2 ⟨rfl, hb3⟩
    have HF2 := Lib.hid (HF.out.trans (hb3.mono HF.out.size))
    have k3 := (hb3.block w.heap.size (lt_blk KN2.out)).trans KN2.out
    obtain ⟨c0, c1, c2, c3, c4, c5, c6, c7⟩ := cells8 k3
    have hl3 := lt_blk k3
    clear hb3 k3
    go_wp2_with fail
    refine (HC.out _ HF2.out).mono ?_
    rintro e w3 ⟨rfl, hb4⟩
    have HF3 := Lib.hid (HF2.out.trans (hb4.mono HF2.out.size))
    clear hb4 c0 c1 c2 c3 c4 c5 c6 c7
    go_wp2
    go_ret2
    exact ⟨HE2.out.symm, HF3.out⟩
end Go.Proofs.Ytkhndofplebcaaa.Hs

/-
  Contracts for ReadEntry of program and model.
-/
namespace Go.Proofs.Ytkhndofplebcaaa.Hs
open Go.RowKit CM Gr
set_option linter.unusedVariables false
set_option linter.unusedSimpArgs false

/-- What ReadRec makes of bytes. -/
def recA (b : ByteArray) : ED := if encB b = true then encOf b 0 else zeD
def RcPost (b : ByteArray) (w : World) (e : Ending) (w' : World) : Prop :=
  ∃ A c A' c' m, e = .returned (.tuple #[.agg #[.int .i64 (recA b).k, .int .i64 (recA b).t, .int .i64 (recA b).x, .int .i64 (recA b).l, .slice A (recA b).rs.length c, .slice A' (recA b).ws.length c', .bool (recA b).y], .bool (encB b)]) ∧ OwnS w' w.heap.size m A c (recA b).rs ∧ OwnW w' m w'.heap.size A' c' (recA b).ws ∧ w.heap.size ≤ m ∧ m ≤ w'.heap.size ∧ Below w.heap.size w w'
theorem read_ends {b : ByteArray} {w w' : World} {e : Ending} (h : ReadEnd b w e w') : RcPost b w e w' := by
  obtain ⟨hB, ⟨k, t, tm, ld, y, rs, ws, A, c, A', c', m, he, rfl, hO, hW, h1, h2⟩ | ⟨hn, rfl⟩⟩ := h
  · have e1 : recA b = ⟨0, k, t, tm, ld, y, rs, ws⟩ := by unfold recA; rw [if_pos (enc_yes he), enc_is he]
    unfold RcPost
    rw [e1, enc_yes he]
    exact ⟨A, c, A', c', m, rfl, hO, hW, h1, h2, hB⟩
  · have e0 := enc_no hn
    have e1 : recA b = zeD := by unfold recA; rw [e0]; rfl
    unfold RcPost
    rw [e1, e0]
    exact ⟨none, 0, none, 0, w.heap.size, rfl, .inl ⟨rfl, rfl, rfl⟩, .inl ⟨rfl, rfl, rfl⟩, Nat.le_refl _, hB.size, hB⟩
/-- What ReadEntry hands back. -/
def REPost (b : ByteArray) (w : World) (e : Ending) (w' : World) : Prop :=
  ∃ A c A' c' lo m hi, e = .returned (.tuple #[.agg #[.int .i64 (entAt b).1.tm, .int .i64 (entAt b).1.k, .int .i64 (entAt b).1.t, .int .i64 (entAt b).1.x, .int .i64 (entAt b).1.l, .slice A (entAt b).1.rs.length c, .slice A' (entAt b).1.ws.length c', .bool (entAt b).1.y], .bool (entAt b).2]) ∧ EnO w' ⟨(entAt b).1, A, c, A', c', lo, m, hi⟩ ∧ w.heap.size ≤ lo ∧ hi ≤ w'.heap.size ∧ Below w.heap.size w w'
theorem rePost_no {b : ByteArray} {w w' : World} (h : entOk b = false) (hb : Below w.heap.size w w') : REPost b w (.returned (.tuple #[.agg #[.int .i64 0, .int .i64 0, .int .i64 0, .int .i64 0, .int .i64 0, .slice none 0 0, .slice none 0 0, .bool false], .bool false])) w' := by
  have e1 : entAt b = (zeD, false) := by unfold entAt; rw [h]; rfl
  unfold REPost
  rw [e1]
  exact ⟨none, 0, none, 0, w.heap.size, w.heap.size, w.heap.size, rfl, ⟨Nat.le_refl _, Nat.le_refl _, .inl ⟨rfl, rfl, rfl⟩, .inl ⟨rfl, rfl, rfl⟩⟩, Nat.le_refl _, hb.size, hb⟩
theorem encOf_tm (b : ByteArray) (n : Int) : encOf b n = ⟨n, (encOf b 0).k, (encOf b 0).t, (encOf b 0).x, (encOf b 0).l, (encOf b 0).y, (encOf b 0).rs, (encOf b 0).ws⟩ := by simp only [encOf]
theorem rePost_yes {b : ByteArray} {w w' : World} {n : Int} {kk tt xx ll : Int} {yy : Bool} {rs : List ByteArray} {ws : List (ByteArray × ByteArray × Bool)} {A A' : Option Addr} {c c' lo m hi : Nat} (h : entOk b = true) (hn : ((numOf b).1 : Int) = n) (hd : (⟨0, kk, tt, xx, ll, yy, rs, ws⟩ : ED) = encOf (restOf b) 0) (hO : OwnS w' lo m A c rs) (hW : OwnW w' m hi A' c' ws) (h1 : lo ≤ m) (h2 : m ≤ hi) (h3 : w.heap.size ≤ lo) (h4 : hi ≤ w'.heap.size) (hb : Below w.heap.size w w') : REPost b w (.returned (.tuple #[.agg #[.int .i64 n, .int .i64 kk, .int .i64 tt, .int .i64 xx, .int .i64 ll, .slice A rs.length c, .slice A' ws.length c', .bool yy], .bool true])) w' := by
  have e1 : entAt b = (⟨n, kk, tt, xx, ll, yy, rs, ws⟩, true) := by
    unfold entAt
    rw [if_pos h, hn]
    rw [encOf_tm, ← hd]
  unfold REPost
  rw [e1]
  exact ⟨A, c, A', c', lo, m, hi, rfl, ⟨h1, h2, hO, hW⟩, h3, h4, hb⟩
def zeroEnt : Obj := .cells #[.int .i64 0, .int .i64 0, .int .i64 0, .int .i64 0, .int .i64 0, .slice none 0 0, .slice none 0 0, .bool false] 35
theorem ok_size {b : ByteArray} (h : ¬ b.size ≤ 6000) : entOk b = false := by
  unfold entOk
  rw [decide_eq_false h]; rfl
theorem ok_num {b : ByteArray} (h : (numOf b).2.2 = false) : entOk b = false := by
  unfold entOk
  rw [h]; simp
theorem ok_rest {b : ByteArray} {n q : Nat} (hs : b.size ≤ 6000) (h : numOf b = (n, q, true)) : entOk b = (encB (b.extract q b.size) && inB (n : Int) 1 200) := by
  unfold entOk restOf
  rw [h, decide_eq_true hs]
  simp
theorem mid8 {g : Nat} {w W : World} {a0 a1 a2 a3 a4 a5 a6 a7 : Value} (h : Mid g (g + 1) w W) : Mid g (g + 1) w ((((((((W.setCell ⟨g, 0, none⟩ a0).setCell ⟨g, 1, none⟩ a1).setCell ⟨g, 2, none⟩ a2).setCell ⟨g, 3, none⟩ a3).setCell ⟨g, 4, none⟩ a4).setCell ⟨g, 5, none⟩ a5).setCell ⟨g, 6, none⟩ a6).setCell ⟨g, 7, none⟩ a7) := by
  refine Mid.set ?_ (by simp) _
  refine Mid.set ?_ (by simp) _
  refine Mid.set ?_ (by simp) _
  refine Mid.set ?_ (by simp) _
  refine Mid.set ?_ (by simp) _
  refine Mid.set ?_ (by simp) _
  refine Mid.set ?_ (by simp) _
  exact Mid.set h (by simp) _
theorem rec_small {k t x l : Int} {y : Bool} {rs : List ByteArray} {ws : List (ByteArray × ByteArray × Bool)} (h : recB k t x l y rs ws = true) : SSmall rs ∧ WSmall ws := by
  obtain ⟨_, l1, l2, hg, hws⟩ := rec_ok h
  refine ⟨⟨by omega, fun x hx => ?_⟩, ⟨by omega, fun x hx => by have := hws x hx; omega⟩⟩
  obtain ⟨k, hk, rfl⟩ := List.mem_iff_getElem.1 hx
  have := hg.2 k hk
  omega

set_option maxRecDepth 100000 in
set_option maxHeartbeats 4000000 in
theorem specReadEntry_any (b : ByteArray) (w : World) (hm : b.size ≤ maxLen) : Calls Try.prog 14 #[.string b] w (REPost b w) := by
  have HB := Lib.hid (below1 w zeroEnt)
  have KR := Lib.hid (heap_alloc_new w zeroEnt)
  by_cases hsz : b.size ≤ 6000
  · have hpl : C1.Place b ((0 : Nat) : Int) := ⟨hsz, by omega, by omega⟩
    have hn := fun W => C1.specReadNum_yes b 0 W hpl
    rcases hr : numOf b with ⟨n, q, ok⟩
    have hr2 : C1.M.readNum b.data.toList 0 = (n, q, ok) := hr
    rw [hr2] at hn
    unfold C1.NumTuple at hn
    simp only [Int.ofNat_zero] at hn
    have HN := Lib.hid hn
    clear hn
    cases ok with
    | false =>
      have HNO := Lib.hid (ok_num (b := b) (by rw [hr]))
      clear hr hr2 hpl hm
      go_enter Try.func14, Try.ntmps14
      go_wp2_with fail
      refine (HN.out _).mono ?_
      rintro e w1 ⟨rfl, hb1⟩
      have HB1 := Lib.hid (HB.out.trans (hb1.mono HB.out.size))
      have k9 := (hb1.block w.heap.size (lt_blk KR.out)).trans KR.out
      have y0 := cell_blk (i := 0) k9 rfl
      have y1 := cell_blk (i := 1) k9 rfl
      have y2 := cell_blk (i := 2) k9 rfl
      have y3 := cell_blk (i := 3) k9 rfl
      have y4 := cell_blk (i := 4) k9 rfl
      have y5 := cell_blk (i := 5) k9 rfl
      have y6 := cell_blk (i := 6) k9 rfl
      have y7 := cell_blk (i := 7) k9 rfl
      have hfr := free_all k9
      have hlt9 := lt_blk k9
      clear hb1 k9
      go_wp2
      have HM : ∀ W, Mid w.heap.size (w.heap.size + 1) w1 W → REPost b w (.returned (.tuple #[.agg #[.int .i64 0, .int .i64 0, .int .i64 0, .int .i64 0, .int .i64 0, .slice none 0 0, .slice none 0 0, .bool false], .bool false])) W := fun W hm => rePost_no HNO.out (HB1.out.trans (hm.below HB1.out.size))
      exact bodyPost_ret (v := .tuple #[.agg #[.int .i64 0, .int .i64 0, .int .i64 0, .int .i64 0, .int .i64 0, .slice none 0 0, .slice none 0 0, .bool false], .bool false]) (by simp [results, Try.results14, go_sem, *]) rfl (HM _ (mid8 (Mid.refl _ _ _)))
    | true =>
      have hbd := C1.M.read_bounds _ 0 n q (show C1.M.readAt (b.data.toList.drop 0) 0 = (n, q, true) from hr2)
      rw [List.length_drop, C1.data_len] at hbd
      have hq : q ≤ b.size := by omega
      have HOK := Lib.hid (ok_rest hsz hr)
      have HNB := Lib.hid (show ((numOf b).1 : Int) = (n : Int) by rw [hr])
      have HRS : Hid (restOf b = b.extract q b.size) := by unfold Hid restOf; rw [hr]
      have hrm : (b.extract q b.size).size ≤ maxLen := by rw [ByteArray.size_extract]; omega
      have HC := Lib.hid (fun W => (specReadRec_any (b.extract q b.size) W hrm).mono (fun e w' h => read_ends h))
      obtain ⟨⟨_, kk, tt, xx, ll, yy, rs, ws⟩, hd⟩ : ∃ d, d = recA (b.extract q b.size) := ⟨_, rfl⟩
      unfold RcPost at HC
      rw [← hd] at HC
      simp only at HC
      have HDQ := Lib.hid hd
      have hn9 : n ≤ 1000000000 := hbd.1
      clear hr hr2 hpl hm hbd hd hrm
      cases e1 : encB (b.extract q b.size) with
      | false =>
        have HNO := Lib.hid (show entOk b = false by rw [HOK.out, e1]; rfl)
        rw [e1] at HC
        clear HOK e1
        go_enter Try.func14, Try.ntmps14
        go_wp2_with fail
        refine (HN.out _).mono ?_
        rintro e w1 ⟨rfl, hb1⟩
        have HB1 := Lib.hid (HB.out.trans (hb1.mono HB.out.size))
        have K1 := Lib.hid ((hb1.block w.heap.size (lt_blk KR.out)).trans KR.out)
        clear hb1
        go_wp2_with fail
        refine (HC.out _).mono ?_
        rintro e w2 ⟨A, c, A', c', m, rfl, ho, hw, h1, h2, hb2⟩
        have hz1 := HB1.out.size
        have hlk1 := lt_blk K1.out
        have HB2 := Lib.hid (HB1.out.trans (hb2.mono HB1.out.size))
        have HO := Lib.hid ho
        have HW := Lib.hid hw
        have hz2 := hb2.size
        have k9 := (hb2.block w.heap.size (lt_blk K1.out)).trans K1.out
        have y0 := cell_blk (i := 0) k9 rfl
        have y1 := cell_blk (i := 1) k9 rfl
        have y2 := cell_blk (i := 2) k9 rfl
        have y3 := cell_blk (i := 3) k9 rfl
        have y4 := cell_blk (i := 4) k9 rfl
        have y5 := cell_blk (i := 5) k9 rfl
        have y6 := cell_blk (i := 6) k9 rfl
        have y7 := cell_blk (i := 7) k9 rfl
        have hfr := free_all k9
        have hlt9 := lt_blk k9
        clear hb2 ho hw k9
        go_wp2
        have HM : ∀ W, Mid w.heap.size (w.heap.size + 1) w2 W → REPost b w (.returned (.tuple #[.agg #[.int .i64 0, .int .i64 0, .int .i64 0, .int .i64 0, .int .i64 0, .slice none 0 0, .slice none 0 0, .bool false], .bool false])) W := fun W hm => rePost_no HNO.out (HB2.out.trans (hm.below HB2.out.size))
        exact bodyPost_ret (v := .tuple #[.agg #[.int .i64 0, .int .i64 0, .int .i64 0, .int .i64 0, .int .i64 0, .slice none 0 0, .slice none 0 0, .bool false], .bool false]) (by simp [results, Try.results14, go_sem, *]) rfl (HM _ ((mid8 (Mid.refl _ _ _)).trans (Below.mid (below1 _ _))))
      | true =>
        rw [e1] at HC
        have HDD := Lib.hid (show (⟨0, kk, tt, xx, ll, yy, rs, ws⟩ : ED) = encOf (restOf b) 0 by rw [HRS.out]; have h9 := HDQ.out; unfold recA at h9; rw [if_pos e1] at h9; have h8 := congrArg ED.tm h9; rw [← h9]; simp only at h8; rw [h8]; rfl)
        have HER := Lib.hid (show recB kk tt xx ll yy rs ws = true by have h9 := enc_er e1 0; rw [← HRS.out, ← HDD.out] at h9; exact h9)
        cases e2 : inB (n : Int) 1 200 with
        | false =>
          have HNO := Lib.hid (show entOk b = false by rw [HOK.out, e1, e2]; rfl)
          have HI := Lib.hid (fun W => C1.l1In_no (n : Int) 1 200 W (by simp only [inB, Bool.and_eq_false_iff, decide_eq_false_iff_not] at e2; omega))
          clear HOK e1 e2
          go_enter Try.func14, Try.ntmps14
          go_wp2_with fail
          refine (HN.out _).mono ?_
          rintro e w1 ⟨rfl, hb1⟩
          have HB1 := Lib.hid (HB.out.trans (hb1.mono HB.out.size))
          have K1 := Lib.hid ((hb1.block w.heap.size (lt_blk KR.out)).trans KR.out)
          clear hb1
          go_wp2_with fail
          refine (HC.out _).mono ?_
          rintro e w2 ⟨A, c, A', c', m, rfl, ho, hw, h1, h2, hb2⟩
          have hz1 := HB1.out.size
          have hlk1 := lt_blk K1.out
          have HB2 := Lib.hid (HB1.out.trans (hb2.mono HB1.out.size))
          have HO := Lib.hid ho
          have HW := Lib.hid hw
          have hz2 := hb2.size
          have k9 := (hb2.block w.heap.size (lt_blk K1.out)).trans K1.out
          have y0 := cell_blk (i := 0) k9 rfl
          have y1 := cell_blk (i := 1) k9 rfl
          have y2 := cell_blk (i := 2) k9 rfl
          have y3 := cell_blk (i := 3) k9 rfl
          have y4 := cell_blk (i := 4) k9 rfl
          have y5 := cell_blk (i := 5) k9 rfl
          have y6 := cell_blk (i := 6) k9 rfl
          have y7 := cell_blk (i := 7) k9 rfl
          have hfr := free_all k9
          have hlt9 := lt_blk k9
          clear hb2 ho hw k9
          go_wp2_with fail
          refine (HI.out _).mono ?_
          rintro e w3 ⟨rfl, rfl⟩
          go_wp2
          have HM : ∀ W, Mid w.heap.size (w.heap.size + 1) w2 W → REPost b w (.returned (.tuple #[.agg #[.int .i64 0, .int .i64 0, .int .i64 0, .int .i64 0, .int .i64 0, .slice none 0 0, .slice none 0 0, .bool false], .bool false])) W := fun W hm => rePost_no HNO.out (HB2.out.trans (hm.below HB2.out.size))
          exact bodyPost_ret (v := .tuple #[.agg #[.int .i64 0, .int .i64 0, .int .i64 0, .int .i64 0, .int .i64 0, .slice none 0 0, .slice none 0 0, .bool false], .bool false]) (by simp [results, Try.results14, go_sem, *]) rfl (HM _ ((mid8 (Mid.refl _ _ _)).trans (Below.mid (below1 _ _))))
        | true =>
          have HYES := Lib.hid (show entOk b = true by rw [HOK.out, e1, e2]; rfl)
          have HI := Lib.hid (fun W => C1.l1In_yes (n : Int) 1 200 W (by simp only [inB, Bool.and_eq_true, decide_eq_true_eq] at e2; omega) (by simp only [inB, Bool.and_eq_true, decide_eq_true_eq] at e2; omega))
          clear HOK e1 e2
          go_enter Try.func14, Try.ntmps14
          go_wp2_with fail
          refine (HN.out _).mono ?_
          rintro e w1 ⟨rfl, hb1⟩
          have HB1 := Lib.hid (HB.out.trans (hb1.mono HB.out.size))
          have K1 := Lib.hid ((hb1.block w.heap.size (lt_blk KR.out)).trans KR.out)
          clear hb1
          go_wp2_with fail
          refine (HC.out _).mono ?_
          rintro e w2 ⟨A, c, A', c', m, rfl, ho, hw, h1, h2, hb2⟩
          have hz1 := HB1.out.size
          have hlk1 := lt_blk K1.out
          have HB2 := Lib.hid (HB1.out.trans (hb2.mono HB1.out.size))
          have HO := Lib.hid ho
          have HW := Lib.hid hw
          have hz2 := hb2.size
          have k9 := (hb2.block w.heap.size (lt_blk K1.out)).trans K1.out
          have y0 := cell_blk (i := 0) k9 rfl
          have y1 := cell_blk (i := 1) k9 rfl
          have y2 := cell_blk (i := 2) k9 rfl
          have y3 := cell_blk (i := 3) k9 rfl
          have y4 := cell_blk (i := 4) k9 rfl
          have y5 := cell_blk (i := 5) k9 rfl
          have y6 := cell_blk (i := 6) k9 rfl
          have y7 := cell_blk (i := 7) k9 rfl
          have hfr := free_all k9
          have hlt9 := lt_blk k9
          clear hb2 ho hw k9
          go_wp2_with fail
          refine (HI.out _).mono ?_
          rintro e w3 ⟨rfl, rfl⟩
          go_wp2
          have HM : ∀ W, Mid w.heap.size (w.heap.size + 1) w2 W → REPost b w (.returned (.tuple #[.agg #[.int .i64 (n : Int), .int .i64 kk, .int .i64 tt, .int .i64 xx, .int .i64 ll, .slice A rs.length c, .slice A' ws.length c', .bool yy], .bool true])) W := fun W hm => by
            have hsW := hm.2.2.2.1
            exact rePost_yes HYES.out HNB.out HDD.out (Own.mid HO.out hm (.inl (by omega))) (Own.mid HW.out hm (.inl (by omega))) h1 h2 (by omega) hsW (HB2.out.trans (hm.below HB2.out.size))
          exact bodyPost_ret (v := .tuple #[.agg #[.int .i64 (n : Int), .int .i64 kk, .int .i64 tt, .int .i64 xx, .int .i64 ll, .slice A rs.length c, .slice A' ws.length c', .bool yy], .bool true]) (by simp [results, Try.results14, go_sem, *]) rfl (HM _ ((mid8 (Mid.refl _ _ _)).trans (Below.mid (below1 _ _))))
  · have HNO := Lib.hid (ok_size hsz)
    have hpl : ¬ C1.Place b 0 := fun h => hsz h.1
    have HN := Lib.hid (fun W => C1.specReadNum_no b 0 W hm hpl)
    clear hpl hm
    go_enter Try.func14, Try.ntmps14
    go_wp2_with fail
    refine (HN.out _).mono ?_
    rintro e w1 ⟨rfl, rfl⟩
    go_wp2
    exact bodyPost_ret (v := .tuple #[.agg #[.int .i64 0, .int .i64 0, .int .i64 0, .int .i64 0, .int .i64 0, .slice none 0 0, .slice none 0 0, .bool false], .bool false]) (by simp [results, Try.results14, go_sem]) rfl (rePost_no HNO.out (below1 _ _))
end Go.Proofs.Ytkhndofplebcaaa.Hs

/-
  The contract of the program's ReadEntry.
-/
namespace Go.Proofs.Ytkhndofplebcaaa.Hs
open Go.RowKit CM Gr
set_option linter.unusedVariables false
set_option linter.unusedSimpArgs false

set_option maxRecDepth 100000 in
set_option maxHeartbeats 4000000 in
theorem implReadEntry_any (b : ByteArray) (w : World) (hm : b.size ≤ maxLen) : Calls Try.prog 15 #[.string b] w (REPost b w) := by
  have HB := Lib.hid (below1 w zeroEnt)
  have KR := Lib.hid (heap_alloc_new w zeroEnt)
  by_cases hsz : b.size ≤ 6000
  · have hpl : C1.Place b ((0 : Nat) : Int) := ⟨hsz, by omega, by omega⟩
    have hn := fun W => C1.implReadNum_yes b 0 W hpl
    rcases hr : numOf b with ⟨n, q, ok⟩
    have hr2 : C1.M.readNum b.data.toList 0 = (n, q, ok) := hr
    rw [hr2] at hn
    unfold C1.NumTuple at hn
    simp only [Int.ofNat_zero] at hn
    have HN := Lib.hid hn
    clear hn
    cases ok with
    | false =>
      have HNO := Lib.hid (ok_num (b := b) (by rw [hr]))
      clear hr hr2 hpl hm
      go_enter Try.func15, Try.ntmps15
      go_wp2_with fail
      refine (HN.out _).mono ?_
      rintro e w1 ⟨rfl, rfl⟩
      go_wp2
      exact bodyPost_ret (v := .tuple #[.agg #[.int .i64 0, .int .i64 0, .int .i64 0, .int .i64 0, .int .i64 0, .slice none 0 0, .slice none 0 0, .bool false], .bool false]) (by simp [results, Try.results15, go_sem]) rfl (rePost_no HNO.out (below1 _ _))
    | true =>
      have hbd := C1.M.read_bounds _ 0 n q (show C1.M.readAt (b.data.toList.drop 0) 0 = (n, q, true) from hr2)
      rw [List.length_drop, C1.data_len] at hbd
      have hq : q ≤ b.size := by omega
      have HOK := Lib.hid (ok_rest hsz hr)
      have HNB := Lib.hid (show ((numOf b).1 : Int) = (n : Int) by rw [hr])
      have HRS : Hid (restOf b = b.extract q b.size) := by unfold Hid restOf; rw [hr]
      have hrm : (b.extract q b.size).size ≤ maxLen := by rw [ByteArray.size_extract]; omega
      have HC := Lib.hid (fun W => (implReadRec_any (b.extract q b.size) W hrm).mono (fun e w' h => read_ends h))
      obtain ⟨⟨_, kk, tt, xx, ll, yy, rs, ws⟩, hd⟩ : ∃ d, d = recA (b.extract q b.size) := ⟨_, rfl⟩
      unfold RcPost at HC
      rw [← hd] at HC
      simp only at HC
      have HDQ := Lib.hid hd
      have hn9 : n ≤ 1000000000 := hbd.1
      clear hr hr2 hpl hm hbd hd hrm
      cases e1 : encB (b.extract q b.size) with
      | false =>
        have HNO := Lib.hid (show entOk b = false by rw [HOK.out, e1]; rfl)
        rw [e1] at HC
        clear HOK e1
        go_enter Try.func15, Try.ntmps15
        go_wp2_with fail
        refine (HN.out _).mono ?_
        rintro e w1 ⟨rfl, rfl⟩
        have HB1 := HB
        have K1 := KR
        have hlk2 := lt_blk (heap_alloc_new w (.cells #[.int .i64 0, .int .i64 0, .int .i64 0, .int .i64 0, .int .i64 0, .slice none 0 0, .slice none 0 0, .bool false] 35))
        go_wp2_with fail
        refine (HC.out _).mono ?_
        rintro e w2 ⟨A, c, A', c', m, rfl, ho, hw, h1, h2, hb2⟩
        have hz1 := HB1.out.size
        have hlk1 := lt_blk K1.out
        have HB2 := Lib.hid (HB1.out.trans (hb2.mono HB1.out.size))
        have HO := Lib.hid ho
        have HW := Lib.hid hw
        have hz2 := hb2.size
        have k9 := (hb2.block w.heap.size (lt_blk K1.out)).trans K1.out
        have y0 := cell_blk (i := 0) k9 rfl
        have y1 := cell_blk (i := 1) k9 rfl
        have y2 := cell_blk (i := 2) k9 rfl
        have y3 := cell_blk (i := 3) k9 rfl
        have y4 := cell_blk (i := 4) k9 rfl
        have y5 := cell_blk (i := 5) k9 rfl
        have y6 := cell_blk (i := 6) k9 rfl
        have y7 := cell_blk (i := 7) k9 rfl
        have hfr := free_all k9
        have hlt9 := lt_blk k9
        clear hb2 ho hw k9
        go_wp2
        have HM : ∀ W, Mid w.heap.size (w.heap.size + 1) w2 W → REPost b w (.returned (.tuple #[.agg #[.int .i64 0, .int .i64 0, .int .i64 0, .int .i64 0, .int .i64 0, .slice none 0 0, .slice none 0 0, .bool false], .bool false])) W := fun W hm => rePost_no HNO.out (HB2.out.trans (hm.below HB2.out.size))
        exact bodyPost_ret (v := .tuple #[.agg #[.int .i64 0, .int .i64 0, .int .i64 0, .int .i64 0, .int .i64 0, .slice none 0 0, .slice none 0 0, .bool false], .bool false]) (by simp [results, Try.results15, go_sem, *]) rfl (HM _ ((mid8 (Mid.refl _ _ _)).trans (Below.mid (below2 _ _ _))))
      | true =>
        rw [e1] at HC
        have HDD := Lib.hid (show (⟨0, kk, tt, xx, ll, yy, rs, ws⟩ : ED) = encOf (restOf b) 0 by rw [HRS.out]; have h9 := HDQ.out; unfold recA at h9; rw [if_pos e1] at h9; have h8 := congrArg ED.tm h9; rw [← h9]; simp only at h8; rw [h8]; rfl)
        have HER := Lib.hid (show recB kk tt xx ll yy rs ws = true by have h9 := enc_er e1 0; rw [← HRS.out, ← HDD.out] at h9; exact h9)
        cases e2 : inB (n : Int) 1 200 with
        | false =>
          have HNO := Lib.hid (show entOk b = false by rw [HOK.out, e1, e2]; rfl)
          have HEB := Lib.hid (show entB ⟨(n : Int), kk, tt, xx, ll, yy, rs, ws⟩ = false by unfold entB erB; simp only; rw [e2, HER.out]; rfl)
          clear HOK e1 e2
          have HSR := Lib.hid (rec_small HER.out).1
          have HSW := Lib.hid (rec_small HER.out).2
          go_enter Try.func15, Try.ntmps15
          go_wp2_with fail
          refine (HN.out _).mono ?_
          rintro e w1 ⟨rfl, rfl⟩
          have HB1 := HB
          have K1 := KR
          have hlk2 := lt_blk (heap_alloc_new w (.cells #[.int .i64 0, .int .i64 0, .int .i64 0, .int .i64 0, .int .i64 0, .slice none 0 0, .slice none 0 0, .bool false] 35))
          go_wp2_with fail
          refine (HC.out _).mono ?_
          rintro e w2 ⟨A, c, A', c', m, rfl, ho, hw, h1, h2, hb2⟩
          have hz1 := HB1.out.size
          have hlk1 := lt_blk K1.out
          have HB2 := Lib.hid (HB1.out.trans (hb2.mono HB1.out.size))
          have HO := Lib.hid ho
          have HW := Lib.hid hw
          have hz2 := hb2.size
          have k9 := (hb2.block w.heap.size (lt_blk K1.out)).trans K1.out
          have y0 := cell_blk (i := 0) k9 rfl
          have y1 := cell_blk (i := 1) k9 rfl
          have y2 := cell_blk (i := 2) k9 rfl
          have y3 := cell_blk (i := 3) k9 rfl
          have y4 := cell_blk (i := 4) k9 rfl
          have y5 := cell_blk (i := 5) k9 rfl
          have y6 := cell_blk (i := 6) k9 rfl
          have y7 := cell_blk (i := 7) k9 rfl
          have hfr := free_all k9
          have hlt9 := lt_blk k9
          have k90 := k9
          clear hb2 ho hw k9
          go_wp2_with fail
          have hbe := below2 w2 (.cells #[.int .i64 kk, .int .i64 tt, .int .i64 xx, .int .i64 ll, .slice A rs.length c, .slice A' ws.length c', .bool yy] 33) (.cells #[.int .i64 (n : Int), .int .i64 kk, .int .i64 tt, .int .i64 xx, .int .i64 ll, .slice A rs.length c, .slice A' ws.length c', .bool yy] 35)
          have HGE := Lib.hid (goodEntry_any (n : Int) kk tt xx ll yy A A' rs.length ws.length c c' rs ws w2.heap.size _ rfl rfl ((((show StrsB w2 m A rs from HO.out.strs).mono h2)).below hbe) ((show WritesB w2 w2.heap.size A' ws from HW.out.writes).below hbe) hbe.size HSR.out HSW.out)
          rw [HEB.out] at HGE
          have hzl := lt_blk (alloc2_b w2 (.cells #[.int .i64 kk, .int .i64 tt, .int .i64 xx, .int .i64 ll, .slice A rs.length c, .slice A' ws.length c', .bool yy] 33) (.cells #[.int .i64 (n : Int), .int .i64 kk, .int .i64 tt, .int .i64 xx, .int .i64 ll, .slice A rs.length c, .slice A' ws.length c', .bool yy] 35))
          have k8 := alloc2_b w2 (.cells #[.int .i64 kk, .int .i64 tt, .int .i64 xx, .int .i64 ll, .slice A rs.length c, .slice A' ws.length c', .bool yy] 33) (.cells #[.int .i64 (n : Int), .int .i64 kk, .int .i64 tt, .int .i64 xx, .int .i64 ll, .slice A rs.length c, .slice A' ws.length c', .bool yy] 35)
          refine HGE.out.mono ?_
          rintro e w3 ⟨rfl, hb3⟩
          have hz3 := hb3.size
          have hbw := hbe.trans (hb3.mono hbe.size)
          have HB3 := Lib.hid (HB2.out.trans (hbw.mono HB2.out.size))
          have HO3 := Lib.hid (HO.out.below (hbw.mono h2))
          have HW3 := Lib.hid (HW.out.below hbw)
          have hz23 := hbw.size
          have k93 := (hbw.block w.heap.size hlt9).trans k90
          have y0 := cell_blk (i := 0) k93 rfl
          have y1 := cell_blk (i := 1) k93 rfl
          have y2 := cell_blk (i := 2) k93 rfl
          have y3 := cell_blk (i := 3) k93 rfl
          have y4 := cell_blk (i := 4) k93 rfl
          have y5 := cell_blk (i := 5) k93 rfl
          have y6 := cell_blk (i := 6) k93 rfl
          have y7 := cell_blk (i := 7) k93 rfl
          have hfr3 := free_all k93
          have hlt93 := lt_blk k93
          have kz3 := (hb3.block (w2.heap.size + 1) hzl).trans k8
          obtain ⟨q0, q1, q2, q3, q4, q5, q6, q7⟩ := cells8 kz3
          have hzz := lt_blk kz3
          clear hb3 hbw hbe k8 kz3 HGE k93 hlt9 hfr hzl
          go_wp2
          have HM : ∀ W, Mid w.heap.size (w.heap.size + 1) w3 W → REPost b w (.returned (.tuple #[.agg #[.int .i64 0, .int .i64 0, .int .i64 0, .int .i64 0, .int .i64 0, .slice none 0 0, .slice none 0 0, .bool false], .bool false])) W := fun W hm => rePost_no HNO.out (HB3.out.trans (hm.below HB3.out.size))
          exact bodyPost_ret (v := .tuple #[.agg #[.int .i64 0, .int .i64 0, .int .i64 0, .int .i64 0, .int .i64 0, .slice none 0 0, .slice none 0 0, .bool false], .bool false]) (by simp [results, Try.results15, go_sem, *]) rfl (HM _ (mid8 (Mid.refl _ _ _)))
        | true =>
          have HYES := Lib.hid (show entOk b = true by rw [HOK.out, e1, e2]; rfl)
          have HEB := Lib.hid (show entB ⟨(n : Int), kk, tt, xx, ll, yy, rs, ws⟩ = true by unfold entB erB; simp only; rw [e2, HER.out]; rfl)
          clear HOK e1 e2
          have HSR := Lib.hid (rec_small HER.out).1
          have HSW := Lib.hid (rec_small HER.out).2
          go_enter Try.func15, Try.ntmps15
          go_wp2_with fail
          refine (HN.out _).mono ?_
          rintro e w1 ⟨rfl, rfl⟩
          have HB1 := HB
          have K1 := KR
          have hlk2 := lt_blk (heap_alloc_new w (.cells #[.int .i64 0, .int .i64 0, .int .i64 0, .int .i64 0, .int .i64 0, .slice none 0 0, .slice none 0 0, .bool false] 35))
          go_wp2_with fail
          refine (HC.out _).mono ?_
          rintro e w2 ⟨A, c, A', c', m, rfl, ho, hw, h1, h2, hb2⟩
          have hz1 := HB1.out.size
          have hlk1 := lt_blk K1.out
          have HB2 := Lib.hid (HB1.out.trans (hb2.mono HB1.out.size))
          have HO := Lib.hid ho
          have HW := Lib.hid hw
          have hz2 := hb2.size
          have k9 := (hb2.block w.heap.size (lt_blk K1.out)).trans K1.out
          have y0 := cell_blk (i := 0) k9 rfl
          have y1 := cell_blk (i := 1) k9 rfl
          have y2 := cell_blk (i := 2) k9 rfl
          have y3 := cell_blk (i := 3) k9 rfl
          have y4 := cell_blk (i := 4) k9 rfl
          have y5 := cell_blk (i := 5) k9 rfl
          have y6 := cell_blk (i := 6) k9 rfl
          have y7 := cell_blk (i := 7) k9 rfl
          have hfr := free_all k9
          have hlt9 := lt_blk k9
          have k90 := k9
          clear hb2 ho hw k9
          go_wp2_with fail
          have hbe := below2 w2 (.cells #[.int .i64 kk, .int .i64 tt, .int .i64 xx, .int .i64 ll, .slice A rs.length c, .slice A' ws.length c', .bool yy] 33) (.cells #[.int .i64 (n : Int), .int .i64 kk, .int .i64 tt, .int .i64 xx, .int .i64 ll, .slice A rs.length c, .slice A' ws.length c', .bool yy] 35)
          have HGE := Lib.hid (goodEntry_any (n : Int) kk tt xx ll yy A A' rs.length ws.length c c' rs ws w2.heap.size _ rfl rfl ((((show StrsB w2 m A rs from HO.out.strs).mono h2)).below hbe) ((show WritesB w2 w2.heap.size A' ws from HW.out.writes).below hbe) hbe.size HSR.out HSW.out)
          rw [HEB.out] at HGE
          have hzl := lt_blk (alloc2_b w2 (.cells #[.int .i64 kk, .int .i64 tt, .int .i64 xx, .int .i64 ll, .slice A rs.length c, .slice A' ws.length c', .bool yy] 33) (.cells #[.int .i64 (n : Int), .int .i64 kk, .int .i64 tt, .int .i64 xx, .int .i64 ll, .slice A rs.length c, .slice A' ws.length c', .bool yy] 35))
          have k8 := alloc2_b w2 (.cells #[.int .i64 kk, .int .i64 tt, .int .i64 xx, .int .i64 ll, .slice A rs.length c, .slice A' ws.length c', .bool yy] 33) (.cells #[.int .i64 (n : Int), .int .i64 kk, .int .i64 tt, .int .i64 xx, .int .i64 ll, .slice A rs.length c, .slice A' ws.length c', .bool yy] 35)
          refine HGE.out.mono ?_
          rintro e w3 ⟨rfl, hb3⟩
          have hz3 := hb3.size
          have hbw := hbe.trans (hb3.mono hbe.size)
          have HB3 := Lib.hid (HB2.out.trans (hbw.mono HB2.out.size))
          have HO3 := Lib.hid (HO.out.below (hbw.mono h2))
          have HW3 := Lib.hid (HW.out.below hbw)
          have hz23 := hbw.size
          have k93 := (hbw.block w.heap.size hlt9).trans k90
          have y0 := cell_blk (i := 0) k93 rfl
          have y1 := cell_blk (i := 1) k93 rfl
          have y2 := cell_blk (i := 2) k93 rfl
          have y3 := cell_blk (i := 3) k93 rfl
          have y4 := cell_blk (i := 4) k93 rfl
          have y5 := cell_blk (i := 5) k93 rfl
          have y6 := cell_blk (i := 6) k93 rfl
          have y7 := cell_blk (i := 7) k93 rfl
          have hfr3 := free_all k93
          have hlt93 := lt_blk k93
          have kz3 := (hb3.block (w2.heap.size + 1) hzl).trans k8
          obtain ⟨q0, q1, q2, q3, q4, q5, q6, q7⟩ := cells8 kz3
          have hzz := lt_blk kz3
          clear hb3 hbw hbe k8 kz3 HGE k93 hlt9 hfr hzl
          go_wp2
          have HM : ∀ W, Mid w.heap.size (w.heap.size + 1) w3 W → REPost b w (.returned (.tuple #[.agg #[.int .i64 (n : Int), .int .i64 kk, .int .i64 tt, .int .i64 xx, .int .i64 ll, .slice A rs.length c, .slice A' ws.length c', .bool yy], .bool true])) W := fun W hm => by
            have hsW := hm.2.2.2.1
            exact rePost_yes HYES.out HNB.out HDD.out (Own.mid HO3.out hm (.inl (by omega))) (Own.mid HW3.out hm (.inl (by omega))) h1 h2 (by omega) (by omega) (HB3.out.trans (hm.below HB3.out.size))
          exact bodyPost_ret (v := .tuple #[.agg #[.int .i64 (n : Int), .int .i64 kk, .int .i64 tt, .int .i64 xx, .int .i64 ll, .slice A rs.length c, .slice A' ws.length c', .bool yy], .bool true]) (by simp [results, Try.results15, go_sem, *]) rfl (HM _ (mid8 (Mid.refl _ _ _)))
  · have HNO := Lib.hid (ok_size hsz)
    have hpl : ¬ C1.Place b 0 := fun h => hsz h.1
    have HN := Lib.hid (fun W => C1.implReadNum_no b 0 W hm hpl)
    clear hpl hm
    go_enter Try.func15, Try.ntmps15
    go_wp2_with fail
    refine (HN.out _).mono ?_
    rintro e w1 ⟨rfl, rfl⟩
    go_wp2
    exact bodyPost_ret (v := .tuple #[.agg #[.int .i64 0, .int .i64 0, .int .i64 0, .int .i64 0, .int .i64 0, .slice none 0 0, .slice none 0 0, .bool false], .bool false]) (by simp [results, Try.results15, go_sem]) rfl (rePost_no HNO.out (below1 _ _))
end Go.Proofs.Ytkhndofplebcaaa.Hs
