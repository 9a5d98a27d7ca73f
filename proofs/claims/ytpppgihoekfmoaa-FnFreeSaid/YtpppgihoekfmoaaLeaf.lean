/-
  Contracts for the small functions of chapter 3, of the program and of the model: letters, keys, values, times.
-/
import Derived.Test.YtpppgihoekfmoaaRow
import Derived.Test.YtpppgihoekfmoaaCellMath
import Derived.Lib.Bytealg
import Derived.Lib.Strings
import Derived.Lib.Walk
namespace Go.Proofs.Ytpppgihoekfmoaa
open Go.RowKit
set_option linter.unusedVariables false

/-- A small letter or a digit. -/
def plainB (c : UInt8) : Bool := decide (97 ≤ (c.toNat : Int)) && decide ((c.toNat : Int) ≤ 122) || decide (48 ≤ (c.toNat : Int)) && decide ((c.toNat : Int) ≤ 57)
def okB (m : List UInt8) (c : UInt8) : Bool := plainB c || m.contains c
/-- All bytes of s are small letters, digits or among the marks m. -/
def madeB (m : List UInt8) (s : ByteArray) : Bool := s.data.toList.all (okB m)
def keyMarks : List UInt8 := [46, 47]
def valMarks : List UInt8 := [46, 45, 44, 95]
def keyB (s : ByteArray) : Bool := decide (1 ≤ s.size) && (decide (s.size ≤ 12) && madeB keyMarks s)
def valB (s : ByteArray) : Bool := decide (s.size ≤ 24) && madeB valMarks s
/-- n lies between lo and hi. -/
def inB (n lo hi : Int) : Bool := decide (lo ≤ n) && decide (n ≤ hi)
theorem inB_true {n lo hi : Int} (h : inB n lo hi = true) : lo ≤ n ∧ n ≤ hi := by simpa [inB] using h
theorem inB_mk {n lo hi : Int} (h : lo ≤ n ∧ n ≤ hi) : inB n lo hi = true := by simp [inB, h]
theorem inB_not {n lo hi : Int} (h : ¬ (lo ≤ n ∧ n ≤ hi)) : inB n lo hi = false := by
  cases e : inB n lo hi with
  | false => rfl
  | true => exact absurd (inB_true e) h

theorem index_lt (l : List UInt8) (c : UInt8) : decide (Lib.indexByte l c < 0) = !l.contains c := by
  induction l with
  | nil => simp [Lib.indexByte]
  | cons b l ih =>
    unfold Lib.indexByte
    rw [List.contains_cons]
    by_cases h : b == c
    · have : (c == b) = true := by rw [beq_iff_eq] at h ⊢; exact h.symm
      simp [h, this]
    · have h2 : (c == b) = false := by rw [beq_eq_false_iff_ne]; intro e; exact h (by rw [e]; simp)
      simp only [h, h2, Bool.false_or, Bool.false_eq_true, if_false]
      have hge := Lib.indexByte_ge l c
      by_cases h3 : Lib.indexByte l c = -1
      · rw [h3] at ih
        simp [h3]
        simpa using ih
      · have h4 : (Lib.indexByte l c == -1) = false := by simpa using h3
        have h5 : ¬ Lib.indexByte l c < 0 := by omega
        simp only [h4, Bool.false_eq_true, if_false]
        rw [← ih]
        simp [h5]
        omega

theorem take_all_succ {α : Type} (p : α → Bool) (l : List α) (k : Nat) (h : k < l.length) : (l.take (k + 1)).all p = ((l.take k).all p && p l[k]) := by
  rw [List.take_succ_eq_append_getElem h, List.all_append]
  simp
theorem all_bad {α : Type} (p : α → Bool) (l : List α) (k : Nat) (h : k < l.length) (hb : p l[k] = false) : l.all p = false := by
  rw [List.all_eq_false]
  exact ⟨l[k], List.getElem_mem h, by simp [hb]⟩
theorem contains_take_succ (l : List UInt8) (c : UInt8) (k : Nat) (h : k < l.length) : (l.take (k + 1)).contains c = ((l.take k).contains c || decide ((c.toNat : Int) = (l[k].toNat : Int))) := by
  rw [List.take_succ_eq_append_getElem h, List.contains_append]
  have : (([l[k]] : List UInt8).contains c) = decide ((c.toNat : Int) = (l[k].toNat : Int)) := by
    simp only [List.contains_cons, List.contains_nil, Bool.or_false]
    rw [Bool.eq_iff_iff, beq_iff_eq, decide_eq_true_eq]
    constructor
    · intro h; rw [h]
    · intro h; exact UInt8.toNat.inj (by omega)
  rw [this]

theorem l1In_any (n lo hi : Int) (w : World) :
    Calls Try.prog 40 #[.int .i64 n, .int .i64 lo, .int .i64 hi] w fun e w' => e = .returned (.bool (inB n lo hi)) ∧ w = w' := by
  by_cases h1 : lo ≤ n
  · by_cases h2 : n ≤ hi
    · rw [inB_mk ⟨h1, h2⟩]
      go_enter Try.func40, Try.ntmps40
      go_wp2
      go_ret
      exact ⟨rfl, rfl⟩
    · rw [inB_not (by omega)]
      go_enter Try.func40, Try.ntmps40
      go_wp2
      go_ret
      exact ⟨rfl, rfl⟩
  · rw [inB_not (by omega)]
    go_enter Try.func40, Try.ntmps40
    go_wp2
    go_ret
    exact ⟨rfl, rfl⟩
theorem isTrueTime_any (n : Int) (w : World) :
    Calls Try.prog 33 #[.int .i64 n] w fun e w' => e = .returned (.bool (inB n 0 100000)) ∧ w = w' := by
  by_cases h1 : 0 ≤ n
  · by_cases h2 : n ≤ 100000
    · rw [inB_mk ⟨h1, h2⟩]
      go_enter Try.func33, Try.ntmps33
      go_wp2
      go_ret
      exact ⟨rfl, rfl⟩
    · rw [inB_not (by omega)]
      go_enter Try.func33, Try.ntmps33
      go_wp2
      go_ret
      exact ⟨rfl, rfl⟩
  · rw [inB_not (by omega)]
    go_enter Try.func33, Try.ntmps33
    go_wp2
    go_ret
    exact ⟨rfl, rfl⟩
end Go.Proofs.Ytpppgihoekfmoaa
