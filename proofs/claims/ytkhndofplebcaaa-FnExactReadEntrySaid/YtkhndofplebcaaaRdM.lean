/-
  Reading the bytes of a record: what each read gives at its place. Plain lists.
-/
import Derived.Test.YtkhndofplebcaaaRecBI
namespace Go.Proofs.Ytkhndofplebcaaa
open Go CM
set_option linter.unusedVariables false

/-- One read from a place, or from nowhere once a read has failed. -/
def rdN (s : ByteArray) : Option Nat → Nat × Option Nat
  | none => (0, none)
  | some q => if (C1.M.readNum s.data.toList q).2.2 = true then ((C1.M.readNum s.data.toList q).1, some (C1.M.readNum s.data.toList q).2.1) else (0, none)
def rdT (s : ByteArray) : Option Nat → ByteArray × Option Nat
  | none => (⟨#[]⟩, none)
  | some q => if (C1.readText s q).2.2 = true then ((C1.readText s q).1, some (C1.readText s q).2.1) else (⟨#[]⟩, none)
def rdO (s : ByteArray) : Option Nat → Nat × Option Nat
  | none => (0, none)
  | some q => if h : q < s.size then (s[q].toNat, some (q + 1)) else (0, none)
/-- A place within the bytes. -/
def RIn (s : ByteArray) (σ : Option Nat) : Prop := ∀ q, σ = some q → q ≤ s.size
theorem rdN_in {s : ByteArray} {σ : Option Nat} (h : RIn s σ) : RIn s (rdN s σ).2 ∧ (rdN s σ).1 ≤ 1000000000 ∧ (∀ q q', σ = some q → (rdN s σ).2 = some q' → q < q') := by
  cases σ with
  | none => exact ⟨fun q hq => (by cases hq), Nat.zero_le _, fun q q' hq => by cases hq⟩
  | some q =>
    have hq := h q rfl
    rcases hr : C1.M.readNum s.data.toList q with ⟨n, x, ok⟩
    unfold rdN
    simp only [hr]
    cases ok with
    | false => exact ⟨fun q hq => by simp at hq, by simp, fun _ q' _ hq => by simp at hq⟩
    | true =>
      have hb := C1.M.read_bounds _ q n x hr
      rw [List.length_drop, C1.data_len] at hb
      simp only [if_true]
      exact ⟨fun q1 hq1 => by injection hq1 with hq1; omega, by omega, fun q1 q2 h1 h2 => by injection h1 with h1; injection h2 with h2; omega⟩
theorem rdT_in {s : ByteArray} {σ : Option Nat} (h : RIn s σ) : RIn s (rdT s σ).2 ∧ (rdT s σ).1.size ≤ 60 ∧ (∀ q q', σ = some q → (rdT s σ).2 = some q' → q < q') := by
  cases σ with
  | none => exact ⟨fun q hq => (by cases hq), by show (0 : Nat) ≤ 60; omega, fun q q' hq => by cases hq⟩
  | some q =>
    have hq := h q rfl
    rcases hr : C1.readText s q with ⟨n, x, ok⟩
    unfold rdT
    simp only [hr]
    cases ok with
    | false => exact ⟨fun q hq => by simp at hq, by show (0 : Nat) ≤ 60; omega, fun _ q' _ hq => by simp at hq⟩
    | true =>
      have hb := C1.readText_bounds hr
      simp only [if_true]
      exact ⟨fun q1 hq1 => by injection hq1 with hq1; omega, by omega, fun q1 q2 h1 h2 => by injection h1 with h1; injection h2 with h2; omega⟩
theorem rdO_in {s : ByteArray} {σ : Option Nat} (h : RIn s σ) : RIn s (rdO s σ).2 ∧ (rdO s σ).1 ≤ 255 ∧ (∀ q q', σ = some q → (rdO s σ).2 = some q' → q < q') := by
  cases σ with
  | none => exact ⟨fun q hq => (by cases hq), Nat.zero_le _, fun q q' hq => by cases hq⟩
  | some q =>
    unfold rdO
    by_cases hlt : q < s.size
    · simp only [hlt, dif_pos]
      exact ⟨fun q1 hq1 => by injection hq1 with hq1; omega, by have := s[q].toNat_lt; omega, fun q1 q2 h1 h2 => by injection h1 with h1; injection h2 with h2; omega⟩
    · simp only [hlt, dif_neg, not_false_eq_true]
      exact ⟨fun q1 hq1 => (by cases hq1), Nat.zero_le _, fun q1 q2 h1 h2 => by cases h2⟩

section
variable {s : ByteArray} {P R : List UInt8}
theorem size_of_data {l : List UInt8} (h : s.data.toList = l) : s.size = l.length := by rw [← h, C1.data_len]
theorem rdN_at {n : Nat} (h : s.data.toList = P ++ (C1.M.numB n ++ R)) (hn : n ≤ 1000000000) : rdN s (some P.length) = (n, some (P ++ C1.M.numB n).length) := by
  have hr : C1.M.readNum s.data.toList P.length = (n, P.length + (C1.M.numB n).length, true) := by
    unfold C1.M.readNum
    rw [h, List.drop_append_of_le_length (Nat.le_refl _), List.drop_of_length_le (Nat.le_refl _), List.nil_append]
    exact C1.M.read_num n P.length R hn
  unfold rdN
  simp only []
  rw [hr, List.length_append]
  rfl
theorem rdT_at {t : ByteArray} (h : s.data.toList = P ++ (C1.textB t.data.toList ++ R)) (ht : t.size ≤ 60) : rdT s (some P.length) = (t, some (P ++ C1.textB t.data.toList).length) := by
  have hq : P.length ≤ s.size := by rw [size_of_data h, List.length_append]; omega
  have hr := C1.read_text s t P.length R ht (by rw [h, List.drop_append_of_le_length (Nat.le_refl _), List.drop_of_length_le (Nat.le_refl _), List.nil_append]) hq
  unfold rdT
  simp only []
  rw [hr, List.length_append]
  rfl
theorem rdO_at {b : UInt8} (h : s.data.toList = P ++ ([b] ++ R)) : rdO s (some P.length) = (b.toNat, some (P ++ [b]).length) := by
  have hsz := size_of_data h
  have hq : P.length < s.size := by rw [hsz]; simp
  have hb : s[P.length]'hq = b := by
    have e : s[P.length]'hq = s.data.toList[P.length]'(by rw [C1.data_len]; exact hq) := rfl
    rw [e]
    simp only [h]
    rw [List.getElem_append_right (Nat.le_refl _)]
    simp
  unfold rdO
  simp only []
  rw [dif_pos hq, hb, List.length_append]
  rfl
theorem rdTs_at {xs : List ByteArray} (h : s.data.toList = P ++ (C1.tsum xs xs.length ++ R)) (hg : C1.Good xs) : C1.readTexts s P.length = some (xs, (P ++ C1.tsum xs xs.length).length) := by
  have hsz := size_of_data h
  have hd : s.data.toList.drop P.length = C1.M.numB xs.length ++ (C1.tailB xs 0 ++ R) := by
    rw [h, List.drop_append_of_le_length (Nat.le_refl _), List.drop_of_length_le (Nat.le_refl _), List.nil_append, C1.tsum_tail, List.append_assoc]
  have hr : C1.M.readNum s.data.toList P.length = (xs.length, P.length + (C1.M.numB xs.length).length, true) := by
    unfold C1.M.readNum
    rw [hd]
    exact C1.M.read_num xs.length P.length _ (by have := hg.1; omega)
  unfold C1.readTexts
  rw [hr, if_pos ⟨rfl, hg.1⟩]
  have hlen := congrArg List.length hd
  rw [List.length_drop, List.length_append, C1.data_len] at hlen
  have hd2 : s.data.toList.drop (P.length + (C1.M.numB xs.length).length) = C1.tailB xs 0 ++ R := by
    rw [← List.drop_drop, hd, List.drop_append_of_le_length (Nat.le_refl _), List.drop_of_length_le (Nat.le_refl _), List.nil_append]
  have hPl : P.length + (C1.M.numB xs.length).length ≤ s.size := by
    rw [hsz, List.length_append, List.length_append, C1.tsum_tail, List.length_append]; omega
  obtain ⟨z, h1, h2, h3, h4⟩ := C1.run_ok s xs (P.length + (C1.M.numB xs.length).length) R hg.2 hd2 hPl xs.length (Nat.le_refl _)
  rw [h1, List.take_of_length_le (Nat.le_refl _)]
  have ht : (C1.tailB xs xs.length).length = 0 := by unfold C1.tailB; rw [List.drop_of_length_le (Nat.le_refl _)]; rfl
  have e : z = (P ++ C1.tsum xs xs.length).length := by
    rw [List.length_append, C1.tsum_tail, List.length_append]; omega
  rw [e]
end
theorem flag_num (y : Bool) : [flagB y] = C1.M.numB (if y then 1 else 0) := by cases y <;> rfl

/-- The record's bytes are b, and it is valid. -/
def Enc (k t tm ld : Int) (y : Bool) (rs : List ByteArray) (ws : List (ByteArray × ByteArray × Bool)) (b : ByteArray) : Prop := recB k t tm ld y rs ws = true ∧ b = ⟨(C1.sealed (recBy k.toNat t.toNat tm.toNat ld.toNat y rs ws)).toArray⟩
end Go.Proofs.Ytkhndofplebcaaa
