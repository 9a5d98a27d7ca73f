/-
  Plain mathematics of entries as bytes, over nothing of the program.
-/
import Derived.Test.YtkhndofplebcaaaGrGd
import Derived.Test.YtkhndofplebcaaaReadI
namespace Go.Proofs.Ytkhndofplebcaaa.Hs
open Go.RowKit CM Gr
set_option linter.unusedVariables false

/-- An entry that may be written. -/
def entB (d : ED) : Bool := inB d.tm 1 200 && erB d
theorem logB_one (d : ED) : logB 200 [d] = entB d := by simp [logB, lgB, entB]
/-- The bytes of its record. -/
def recL (d : ED) : List UInt8 := C1.sealed (recBy d.k.toNat d.t.toNat d.x.toNat d.l.toNat d.y d.rs d.ws)
def entL (d : ED) : List UInt8 := C1.M.numB d.tm.toNat ++ recL d
def entBytes (d : ED) : ByteArray × Bool := if entB d = true then (⟨(entL d).toArray⟩, true) else (⟨#[]⟩, false)
def zeD : ED := ⟨0, 0, 0, 0, 0, false, [], []⟩
/-- What stands in bytes, read as a record. -/
def encOf (b : ByteArray) (n : Int) : ED := ⟨n, (r1 (bodyOf b)).1, (r2 (bodyOf b)).1, (r3 (bodyOf b)).1, (r4 (bodyOf b)).1, (((r5 (bodyOf b)).1 : Int) == 1), (r6 (bodyOf b)).1, (r8 (bodyOf b)).1⟩
def encB (b : ByteArray) : Bool := erB (encOf b 0) && decide (b = ⟨(recL (encOf b 0)).toArray⟩)
theorem enc_is {k t tm ld : Int} {y : Bool} {rs : List ByteArray} {ws : List (ByteArray × ByteArray × Bool)} {b : ByteArray} (h : Enc k t tm ld y rs ws b) (n : Int) : encOf b n = ⟨n, k, t, tm, ld, y, rs, ws⟩ := by
  obtain ⟨a1, a2, a3, a4, a5, a6, a7⟩ := enc_reads h
  unfold encOf
  rw [← a1, ← a2, ← a3, ← a4, ← a5, ← a6, ← a7]
theorem enc_yes {k t tm ld : Int} {y : Bool} {rs : List ByteArray} {ws : List (ByteArray × ByteArray × Bool)} {b : ByteArray} (h : Enc k t tm ld y rs ws b) : encB b = true := by
  unfold encB
  rw [enc_is h 0]
  have h1 : erB ⟨0, k, t, tm, ld, y, rs, ws⟩ = true := h.1
  have h2 : b = ⟨(recL ⟨0, k, t, tm, ld, y, rs, ws⟩).toArray⟩ := h.2
  rw [h1, ← h2]
  simp
theorem enc_no {b : ByteArray} (h : NoEnc b) : encB b = false := by
  cases e : encB b with
  | false => rfl
  | true =>
    unfold encB at e
    simp only [Bool.and_eq_true, decide_eq_true_eq] at e
    exact absurd ⟨e.1, e.2⟩ (h _ _ _ _ _ _ _)
theorem enc_er {b : ByteArray} (h : encB b = true) (n : Int) : erB (encOf b n) = true := by
  unfold encB at h
  rw [Bool.and_eq_true] at h
  exact h.1
/-- The number ahead, and the bytes behind it. -/
def numOf (b : ByteArray) : Nat × Nat × Bool := C1.M.readNum b.data.toList 0
def restOf (b : ByteArray) : ByteArray := b.extract (numOf b).2.1 b.size
def entOk (b : ByteArray) : Bool := decide (b.size ≤ 6000) && ((numOf b).2.2 && (encB (restOf b) && inB ((numOf b).1 : Int) 1 200))
/-- What ReadEntry answers. -/
def entAt (b : ByteArray) : ED × Bool := if entOk b = true then (encOf (restOf b) ((numOf b).1 : Int), true) else (zeD, false)
theorem entAt_ok (b : ByteArray) : (entAt b).2 = entOk b := by
  unfold entAt
  cases h : entOk b <;> simp
theorem entAt_good {b : ByteArray} (h : entOk b = true) : entB (entAt b).1 = true := by
  unfold entAt
  rw [if_pos h]
  unfold entOk at h
  simp only [Bool.and_eq_true] at h
  unfold entB
  rw [enc_er h.2.2.1]
  show (inB ((numOf b).1 : Int) 1 200 && true) = true
  rw [h.2.2.2]; rfl
theorem recL_len {d : ED} (h : erB d = true) : (recL d).length ≤ 1752 := by
  have hok := rec_ok (show recB d.k d.t d.x d.l d.y d.rs d.ws = true from h)
  obtain ⟨_, l1, l2, hg, hws⟩ := hok
  have e1 := headBy_len d.k.toNat d.t.toNat d.x.toNat d.l.toNat d.y d.rs d.ws.length hg (by omega)
  have e2 := wsBy_len d.ws d.ws.length (Nat.le_refl _) hws
  unfold recL C1.sealed recBy
  rw [List.length_append, List.length_append, three_len]
  omega
theorem entL_len {d : ED} (h : erB d = true) : (entL d).length ≤ 1762 := by
  have h1 := recL_len h
  have h2 := (C1.M.numB_len d.tm.toNat).1
  unfold entL
  rw [List.length_append]
  omega
/-- An entry's bytes are read back. -/
theorem ent_back {d : ED} (h : entB d = true) : entAt ⟨(entL d).toArray⟩ = (d, true) := by
  unfold entB at h
  rw [Bool.and_eq_true] at h
  obtain ⟨h1, h2⟩ := h
  have hr := recL_len h2
  have hin := h1
  simp only [inB, Bool.and_eq_true, decide_eq_true_eq] at hin
  obtain ⟨b, hb⟩ : ∃ b : ByteArray, b = ⟨(entL d).toArray⟩ := ⟨_, rfl⟩
  have hd : b.data.toList = entL d := by rw [hb]
  have hsz : b.size = (entL d).length := by rw [← C1.data_len, hd]
  have hnum : numOf b = (d.tm.toNat, 0 + (C1.M.numB d.tm.toNat).length, true) := by
    unfold numOf C1.M.readNum
    rw [hd, List.drop_zero]
    exact C1.M.read_num d.tm.toNat 0 _ (by omega)
  have hrest : restOf b = ⟨(recL d).toArray⟩ := by
    unfold restOf
    rw [hnum]
    apply ByteArray.ext
    apply Array.ext'
    rw [Lib.extract_data, hd, hsz]
    unfold entL
    rw [List.length_append, Nat.zero_add, List.drop_append_of_le_length (Nat.le_refl _), List.drop_of_length_le (Nat.le_refl _), List.nil_append]
    refine List.take_of_length_le ?_
    simp only
    omega
  have henc : Enc d.k d.t d.x d.l d.y d.rs d.ws (restOf b) := ⟨h2, hrest⟩
  have hok : entOk b = true := by
    unfold entOk
    rw [hnum, enc_yes henc]
    have e1 : decide (b.size ≤ 6000) = true := by have := entL_len h2; simp; omega
    have e2 : inB ((d.tm.toNat : Nat) : Int) 1 200 = true := by rw [Int.toNat_of_nonneg (by omega)]; exact h1
    rw [e1]
    simp only [e2, Bool.and_self]
  rw [← hb]
  unfold entAt
  rw [if_pos hok, enc_is henc, hnum]
  simp only
  rw [Int.toNat_of_nonneg (by omega)]
end Go.Proofs.Ytkhndofplebcaaa.Hs
