/-
  Contracts for the search of a key among cells: compareToKey, slices.BinarySearchFunc, findCell; l3At of the model.
-/
import Derived.Test.YtohkpcgekoipbaaMem
import Derived.Test.YtohkpcgekoipbaaGoodW
import Derived.Laws.BitsAllLaws
namespace Go.Proofs.Ytohkpcgekoipbaa
open Go.RowKit CM
set_option linter.unusedVariables false

theorem compare_lt : ∀ a b : List UInt8, decide (Lib.compareBytes a b < 0) = Op.bytesLess a b
  | [], [] => by simp [Lib.compareBytes, Op.bytesLess]
  | [], _ :: _ => by simp [Lib.compareBytes, Op.bytesLess]
  | _ :: _, [] => by simp [Lib.compareBytes, Op.bytesLess]
  | a :: x, b :: y => by
    have ih := compare_lt x y
    unfold Lib.compareBytes
    simp only [Op.bytesLess]
    by_cases h1 : a < b
    · simp [h1]
    · by_cases h2 : b < a
      · have hne : (a == b) = false := by rw [beq_eq_false_iff_ne]; intro e; subst e; exact h1 h2
        simp [h1, h2, hne]
      · have he : a = b := by
          rw [UInt8.not_lt] at h1 h2
          exact UInt8.le_antisymm h2 h1
        subst he
        simp only [h1, if_false, ih, decide_false, Bool.false_or, beq_self_eq_true, Bool.true_and]
theorem compare_eq : ∀ a b : List UInt8, decide (Lib.compareBytes a b = 0) = (a == b)
  | [], [] => by simp [Lib.compareBytes]
  | [], _ :: _ => by simp [Lib.compareBytes]
  | _ :: _, [] => by simp [Lib.compareBytes]
  | a :: x, b :: y => by
    have ih := compare_eq x y
    unfold Lib.compareBytes
    rw [List.cons_beq_cons]
    by_cases h1 : a < b
    · have hne : (a == b) = false := by rw [beq_eq_false_iff_ne]; intro e; subst e; exact UInt8.lt_irrefl _ h1
      simp [h1, hne]
    · by_cases h2 : b < a
      · have hne : (a == b) = false := by rw [beq_eq_false_iff_ne]; intro e; subst e; exact h1 h2
        simp [h1, h2, hne]
      · have he : a = b := by
          rw [UInt8.not_lt] at h1 h2
          exact UInt8.le_antisymm h2 h1
        subst he
        simp only [h1, if_false, ih, beq_self_eq_true, Bool.true_and]

theorem cmp_neg {a b : ByteArray} (h : kLt a b = true) : Lib.compareBytes a.data.toList b.data.toList < 0 := by
  have e := compare_lt a.data.toList b.data.toList
  unfold kLt at h
  rw [Lib.toList_data, Lib.toList_data] at h
  rw [h] at e
  exact of_decide_eq_true e
theorem cmp_nonneg {a b : ByteArray} (h : kLt a b = false) : 0 ≤ Lib.compareBytes a.data.toList b.data.toList := by
  have e := compare_lt a.data.toList b.data.toList
  unfold kLt at h
  rw [Lib.toList_data, Lib.toList_data] at h
  rw [h] at e
  have := of_decide_eq_false e
  omega
theorem cmp_zero {a b : ByteArray} (h : a = b) : Lib.compareBytes a.data.toList b.data.toList = 0 := by
  subst h
  have e := compare_eq a.data.toList a.data.toList
  rw [beq_self_eq_true] at e
  exact of_decide_eq_true e
theorem cmp_nonzero {a b : ByteArray} (h : a ≠ b) : Lib.compareBytes a.data.toList b.data.toList ≠ 0 := by
  have e := compare_eq a.data.toList b.data.toList
  rw [beq_eq_false_iff_ne.2 (fun e' => h (list_inj (by rw [Lib.toList_data, Lib.toList_data]; exact e')))] at e
  exact of_decide_eq_false e
/-- Keys of rising cells rise. -/
theorem keys_lt {hs : List (ByteArray × Option Addr × Nat × List (Int × ByteArray × Bool))} (hup : upB cLt (hs.map dat) = true) {i j : Nat} (hij : i < j) (hj : j < hs.length) : kLt (hs[i]'(by omega)).1 hs[j].1 = true := by
  have := up_lt cLt cLt_trans hup hij (by simpa using hj)
  simpa [cLt, dat] using this

/-- Place i is where a key is, or where it would have to be. -/
def FindAt (ks : List ByteArray) (key : ByteArray) (i : Nat) (f : Bool) : Prop :=
  i ≤ ks.length ∧ (∀ q (h : q < ks.length), q < i → kLt ks[q] key = true) ∧ (∀ q (h : q < ks.length), i ≤ q → kLt ks[q] key = false) ∧ (f = true ↔ ∃ h : i < ks.length, ks[i] = key)
def FindPost (ks : List ByteArray) (key : ByteArray) (w : World) (e : Ending) (w' : World) : Prop :=
  ∃ (i : Nat) (f : Bool), e = .returned (.tuple #[.int .i64 (i : Int), .bool f]) ∧ FindAt ks key i f ∧ Below w.heap.size w w'

end Go.Proofs.Ytohkpcgekoipbaa
