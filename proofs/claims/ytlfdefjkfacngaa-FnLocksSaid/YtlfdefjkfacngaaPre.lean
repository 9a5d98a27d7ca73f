/-
  Plain facts for loops that check a list element by element: a prefix is good; an element or a neighbour is bad. Nothing of the program.
-/
import Derived.Test.YtlfdefjkfacngaaSizes
import Derived.Test.YtlfdefjkfacngaaLeaf
namespace Go.Proofs.Ytlfdefjkfacngaa
open Go CM
set_option linter.unusedVariables false

section
variable {α : Type} {p : α → Bool} {lt : α → α → Bool} {l : List α} {k : Nat}
theorem upB_adj (h : upB lt l = true) (k : Nat) (hk : k + 1 < l.length) : lt (l[k]'(by omega)) l[k + 1] = true := by
  induction l generalizing k with
  | nil => simp at hk
  | cons a l ih =>
    cases l with
    | nil => simp at hk
    | cons b l =>
      simp only [upB, Bool.and_eq_true] at h
      cases k with
      | zero => exact h.1
      | succ k => exact ih h.2 k (by simpa using hk)
/-- The first k elements are good, and rise. -/
def PreB (p : α → Bool) (lt : α → α → Bool) (l : List α) (k : Nat) : Prop := (l.take k).all p = true ∧ upB lt (l.take k) = true
theorem PreB.zero : PreB p lt l 0 := ⟨rfl, rfl⟩
theorem PreB.succ (h : PreB p lt l k) (hk : k < l.length) (hp : p l[k] = true) (hl : ∀ h0 : 0 < k, lt (l[k - 1]'(by omega)) l[k] = true) : PreB p lt l (k + 1) := by
  refine ⟨by rw [take_all_succ p l k hk, h.1, hp]; rfl, ?_⟩
  cases k with
  | zero => exact upB_take1 lt l
  | succ k =>
    rw [upB_take lt l k hk, h.2, Bool.true_and]
    exact hl (by omega)
theorem PreB.all (h : PreB p lt l k) (hk : l.length ≤ k) : l.all p = true ∧ upB lt l = true := by
  unfold PreB at h
  rwa [List.take_of_length_le hk] at h
theorem up_bad (hk : k < l.length) (h0 : 0 < k) (hb : lt (l[k - 1]'(by omega)) l[k] = false) : upB lt l = false := by
  cases e : upB lt l with
  | false => rfl
  | true =>
    have h1 := upB_adj e (k - 1) (by omega)
    simp only [show k - 1 + 1 = k by omega] at h1
    rw [hb] at h1
    cases h1
end

/-- A value that goes with its mark of deletion. -/
def contB (v : ByteArray) (g : Bool) : Bool := valB v && (!g || kEq v ByteArray.empty)
def wB : List (ByteArray × ByteArray × Bool) → Bool := writesB keyB valB
def vsB (vs : List (Int × ByteArray × Bool)) : Bool := vs.all (verB valB) && (upB tLt vs && (decide (1 ≤ vs.length) && decide (vs.length ≤ 16)))
def csB (cs : List (ByteArray × List (Int × ByteArray × Bool))) : Bool := cellsB keyB valB cs
theorem cellB_eq (c : (ByteArray × List (Int × ByteArray × Bool))) : cellB keyB valB c = (keyB c.1 && vsB c.2) := rfl
theorem verB_eq (v : (Int × ByteArray × Bool)) : verB valB v = (inB v.1 1 100000 && contB v.2.1 v.2.2) := by
  unfold verB inB contB
  rw [Bool.and_assoc]
theorem writeB_eq (x : (ByteArray × ByteArray × Bool)) : writeB keyB valB x = (keyB x.1 && contB x.2.1 x.2.2) := rfl
theorem empty_list : ByteArray.empty.toList = [] := by rw [ByteArray.toList_eq]; rfl
theorem contB_gone (v : ByteArray) : contB v true = v.toList.isEmpty := by
  unfold contB
  have e : kEq v ByteArray.empty = v.toList.isEmpty := by
    unfold kEq
    rw [empty_list]
    cases v.toList <;> rfl
  rw [e]
  cases h : v.toList.isEmpty with
  | false => simp
  | true =>
    have h1 : v.toList = [] := by simpa using h
    have h2 : v = ByteArray.empty := list_inj (h1.trans empty_list.symm)
    subst h2
    rfl
theorem contB_there (v : ByteArray) : contB v false = valB v := by simp [contB]
theorem wB_mk {ws : List (ByteArray × ByteArray × Bool)} (h : PreB (writeB keyB valB) wLt ws ws.length) (hl : ws.length ≤ 24) : wB ws = true := by
  obtain ⟨h1, h2⟩ := h.all (Nat.le_refl _)
  simp [wB, writesB, h1, h2, hl]
theorem wB_item {ws : List (ByteArray × ByteArray × Bool)} (k : Nat) (hk : k < ws.length) (h : writeB keyB valB ws[k] = false) : wB ws = false := by
  simp only [wB, writesB, all_bad _ ws k hk h, Bool.false_and]
theorem wB_up {ws : List (ByteArray × ByteArray × Bool)} (k : Nat) (hk : k < ws.length) (h0 : 0 < k) (h : kLt (ws[k - 1]'(by omega)).1 ws[k].1 = false) : wB ws = false := by
  simp only [wB, writesB, up_bad (lt := wLt) hk h0 h, Bool.false_and, Bool.and_false]
theorem wB_long {ws : List (ByteArray × ByteArray × Bool)} (h : 24 < ws.length) : wB ws = false := by
  simp only [wB, writesB, decide_eq_false (show ¬ ws.length ≤ 24 by omega), Bool.and_false]
theorem vsB_mk {vs : List (Int × ByteArray × Bool)} (h : PreB (verB valB) tLt vs vs.length) (h1 : 1 ≤ vs.length) (hl : vs.length ≤ 16) : vsB vs = true := by
  obtain ⟨h2, h3⟩ := h.all (Nat.le_refl _)
  simp [vsB, h1, h2, h3, hl]
theorem vsB_item {vs : List (Int × ByteArray × Bool)} (k : Nat) (hk : k < vs.length) (h : verB valB vs[k] = false) : vsB vs = false := by
  simp only [vsB, all_bad _ vs k hk h, Bool.false_and]
theorem vsB_up {vs : List (Int × ByteArray × Bool)} (k : Nat) (hk : k < vs.length) (h0 : 0 < k) (h : ¬ (vs[k - 1]'(by omega)).1 < vs[k].1) : vsB vs = false := by
  simp only [vsB, up_bad (lt := tLt) hk h0 (decide_eq_false h), Bool.false_and, Bool.and_false]
theorem vsB_long {vs : List (Int × ByteArray × Bool)} (h : vs.length < 1 ∨ 16 < vs.length) : vsB vs = false := by
  rcases h with h | h
  · simp only [vsB, decide_eq_false (show ¬ 1 ≤ vs.length by omega), Bool.and_false, Bool.false_and]
  · simp only [vsB, decide_eq_false (show ¬ vs.length ≤ 16 by omega), Bool.and_false]
theorem csB_mk {cs : List (ByteArray × List (Int × ByteArray × Bool))} (h : PreB (cellB keyB valB) cLt cs cs.length) (hl : cs.length ≤ 24) : csB cs = true := by
  obtain ⟨h1, h2⟩ := h.all (Nat.le_refl _)
  simp [csB, cellsB, h1, h2, hl]
theorem csB_item {cs : List (ByteArray × List (Int × ByteArray × Bool))} (k : Nat) (hk : k < cs.length) (h : cellB keyB valB cs[k] = false) : csB cs = false := by
  simp only [csB, cellsB, all_bad _ cs k hk h, Bool.false_and]
theorem csB_up {cs : List (ByteArray × List (Int × ByteArray × Bool))} (k : Nat) (hk : k < cs.length) (h0 : 0 < k) (h : kLt (cs[k - 1]'(by omega)).1 cs[k].1 = false) : csB cs = false := by
  simp only [csB, cellsB, up_bad (lt := cLt) hk h0 h, Bool.false_and, Bool.and_false]
theorem csB_long {cs : List (ByteArray × List (Int × ByteArray × Bool))} (h : 24 < cs.length) : csB cs = false := by
  simp only [csB, cellsB, decide_eq_false (show ¬ cs.length ≤ 24 by omega), Bool.and_false]
end Go.Proofs.Ytlfdefjkfacngaa
