/-
  Plain mathematics of polls: when one is valid; who won a term; a voter put down or up. Nothing of the program.
-/
import Derived.Test.YtojplmjoipjabaaNtM
namespace Go.Proofs.Ytojplmjoipjabaa.Po
open Go Go.RowKit Nt
set_option linter.unusedVariables false

/-- Numbers below m that rise behind b. -/
def risB (m : Nat) : Int → List Int → Bool
  | _, [] => true
  | b, x :: l => decide (b < x) && (decide (x < (m : Int)) && risB m x l)
theorem risB_step {m k : Nat} {b : Int} {l : List Int} (hk : k < l.length) : risB m b (l.drop k) = (decide (b < l[k]) && (decide (l[k] < (m : Int)) && risB m l[k] (l.drop (k + 1)))) := by
  rw [List.drop_eq_getElem_cons hk]; rfl
theorem risB_end {m k : Nat} {b : Int} {l : List Int} (hk : l.length ≤ k) : risB m b (l.drop k) = true := by
  rw [List.drop_of_length_le hk]; rfl
def ownV (i : Nat) (x : Bool × Int × Int × Bool) : Bool := x.1 && decide (x.2.2.1 = (i : Int))
/-- A valid voter at place i among m. -/
def voteB (m i : Nat) (v : ((Bool × Int × Int × Bool) × List Int)) : Bool :=
  inB v.1.2.1 0 200 && (inB v.1.2.2.1 (-1) ((m : Int) - 1) && (risB m (-1) v.2 && ((decide (v.2.length = 0) || ownV i v.1) && (!v.1.2.2.2 || ownV i v.1 && decide (m < 2 * v.2.length)))))
def votsB (m : Nat) : Nat → List ((Bool × Int × Int × Bool) × List Int) → Bool
  | _, [] => true
  | i, v :: l => voteB m i v && votsB m (i + 1) l
theorem votsB_step {m k i : Nat} {l : List ((Bool × Int × Int × Bool) × List Int)} (hk : k < l.length) : votsB m i (l.drop k) = (voteB m i l[k] && votsB m (i + 1) (l.drop (k + 1))) := by
  rw [List.drop_eq_getElem_cons hk]; rfl
theorem votsB_end {m k i : Nat} {l : List ((Bool × Int × Int × Bool) × List Int)} (hk : l.length ≤ k) : votsB m i (l.drop k) = true := by
  rw [List.drop_of_length_le hk]; rfl
def won1B (m : Nat) (x : Int × Int) : Bool := inB x.1 1 200 && nodeB m x.2
def wonsB (m : Nat) (ws : List (Int × Int)) : Bool := ws.all (won1B m)
theorem wonsB_step {m k : Nat} {ws : List (Int × Int)} (hk : k < ws.length) : wonsB m (ws.drop k) = (won1B m ws[k] && wonsB m (ws.drop (k + 1))) := by
  unfold wonsB; rw [List.drop_eq_getElem_cons hk, List.all_cons]
theorem wonsB_end {m k : Nat} {ws : List (Int × Int)} (hk : ws.length ≤ k) : wonsB m (ws.drop k) = true := by
  unfold wonsB; rw [List.drop_of_length_le hk]; rfl
def sizeB (n : Nat) : Bool := decide (n = 3) || decide (n = 5)
/-- A valid poll. -/
def pollB (vs : List ((Bool × Int × Int × Bool) × List Int)) (now : Int) (is : List Int) (far : Int) (ls : List (Int × Int × Int × ByteArray)) (ws : List (Int × Int)) : Bool :=
  netB now is far ls && (sizeB is.length && (decide (vs.length = is.length) && (votsB is.length 0 vs && (decide (ws.length ≤ 60) && wonsB is.length ws))))
theorem pollB_true {vs : List ((Bool × Int × Int × Bool) × List Int)} {now far : Int} {is : List Int} {ls : List (Int × Int × Int × ByteArray)} {ws : List (Int × Int)} (h : pollB vs now is far ls ws = true) :
    netB now is far ls = true ∧ (is.length = 3 ∨ is.length = 5) ∧ vs.length = is.length ∧ votsB is.length 0 vs = true ∧ ws.length ≤ 60 ∧ wonsB is.length ws = true := by
  simp only [pollB, sizeB, Bool.and_eq_true, Bool.or_eq_true, decide_eq_true_eq] at h
  exact h
theorem voteB_true {m i : Nat} {v : ((Bool × Int × Int × Bool) × List Int)} (h : voteB m i v = true) : inB v.1.2.1 0 200 = true ∧ inB v.1.2.2.1 (-1) ((m : Int) - 1) = true ∧ risB m (-1) v.2 = true ∧ (v.2.length = 0 ∨ ownV i v.1 = true) ∧ (v.1.2.2.2 = false ∨ ownV i v.1 = true ∧ m < 2 * v.2.length) := by
  simp only [voteB, Bool.and_eq_true, Bool.or_eq_true, decide_eq_true_eq, Bool.not_eq_true'] at h
  exact h
theorem votsB_at {m : Nat} : ∀ {i : Nat} {l : List ((Bool × Int × Int × Bool) × List Int)}, votsB m i l = true → ∀ k (h : k < l.length), voteB m (i + k) l[k] = true
  | _, [], _, k, h => by simp at h
  | i, v :: l, hv, k, h => by
    simp only [votsB, Bool.and_eq_true] at hv
    cases k with
    | zero => exact hv.1
    | succ k =>
      have := votsB_at hv.2 k (by simpa using h)
      rw [show i + 1 + k = i + (k + 1) by omega] at this
      simpa using this
/-- Rising numbers below m are at most m. -/
theorem risB_len {m : Nat} : ∀ {b : Int} {l : List Int}, risB m b l = true → -1 ≤ b → (l.length : Int) ≤ (m : Int) - 1 - b ∨ l = []
  | _, [], _, _ => .inr rfl
  | b, x :: l, h, hb => by
    simp only [risB, Bool.and_eq_true, decide_eq_true_eq] at h
    left
    rcases risB_len h.2.2 (by omega) with h1 | h1
    · simp only [List.length_cons]; omega
    · subst h1; simp; omega
/-- Who won a term: the first that stands there. -/
def winF (t : Int) : List (Int × Int) → Int × Bool
  | [] => (0, false)
  | x :: l => if x.1 = t then (x.2, true) else winF t l
theorem winF_step {t : Int} {k : Nat} {ws : List (Int × Int)} (hk : k < ws.length) : winF t (ws.drop k) = if ws[k].1 = t then (ws[k].2, true) else winF t (ws.drop (k + 1)) := by
  rw [List.drop_eq_getElem_cons hk]; rfl
theorem winF_end {t : Int} {k : Nat} {ws : List (Int × Int)} (hk : ws.length ≤ k) : winF t (ws.drop k) = (0, false) := by
  rw [List.drop_of_length_le hk]; rfl
def leadA (vs : List ((Bool × Int × Int × Bool) × List Int)) (now : Int) (is : List Int) (far : Int) (ls : List (Int × Int × Int × ByteArray)) (ws : List (Int × Int)) (t : Int) : Int × Bool :=
  if pollB vs now is far ls ws = true then winF t ws else (0, false)
/-- No term is won by two. -/
def fairB (ws : List (Int × Int)) : Bool := ws.all fun x => decide ((winF x.1 ws).1 = x.2)
/-- As the model asks it: each against those before it. -/
def fairAt (ws : List (Int × Int)) (i j : Nat) : Bool := decide ((ws.getD i (0, 0)).1 = (ws.getD j (0, 0)).1 → (ws.getD i (0, 0)).2 = (ws.getD j (0, 0)).2)
def fairRow (ws : List (Int × Int)) (i k : Nat) : Bool := (List.range k).all fun j => fairAt ws i j
def fairTo (ws : List (Int × Int)) (k : Nat) : Bool := (List.range k).all fun i => fairRow ws i i
theorem fairRow_succ (ws : List (Int × Int)) (i k : Nat) : fairRow ws i (k + 1) = (fairRow ws i k && fairAt ws i k) := by
  unfold fairRow; rw [List.range_succ, List.all_append]; simp
theorem fairTo_succ (ws : List (Int × Int)) (k : Nat) : fairTo ws (k + 1) = (fairTo ws k && fairRow ws k k) := by
  unfold fairTo; rw [List.range_succ, List.all_append]; simp
theorem fairAt_get (ws : List (Int × Int)) (i j : Nat) (hi : i < ws.length) (hj : j < ws.length) : fairAt ws i j = decide (ws[i].1 = ws[j].1 → ws[i].2 = ws[j].2) := by
  unfold fairAt
  simp [List.getD, List.getElem?_eq_getElem hi, List.getElem?_eq_getElem hj]
theorem fairRow_no (ws : List (Int × Int)) (i k n : Nat) (hk : k < n) (h : fairAt ws i k = false) : fairRow ws i n = false := by
  cases e : fairRow ws i n with
  | false => rfl
  | true =>
    unfold fairRow at e
    rw [List.all_eq_true] at e
    rw [e k (List.mem_range.2 hk)] at h
    cases h
theorem fairTo_no (ws : List (Int × Int)) (i n : Nat) (hi : i < n) (h : fairRow ws i i = false) : fairTo ws n = false := by
  cases e : fairTo ws n with
  | false => rfl
  | true =>
    unfold fairTo at e
    rw [List.all_eq_true] at e
    rw [e i (List.mem_range.2 hi)] at h
    cases h
theorem winF_first : ∀ (ws : List (Int × Int)) (t : Int) (j : Nat) (h : j < ws.length), ws[j].1 = t → (∀ k (hk : k < j), ws[k].1 ≠ t) → winF t ws = (ws[j].2, true)
  | [], _, _, h, _, _ => by simp at h
  | x :: l, t, j, h, e, hn => by
    cases j with
    | zero => simp only [List.getElem_cons_zero] at e ⊢; simp [winF, e]
    | succ j =>
      have h0 := hn 0 (by omega)
      simp only [List.getElem_cons_zero] at h0
      simp only [winF, if_neg h0, List.getElem_cons_succ]
      exact winF_first l t j (by simpa using h) (by simpa using e) (fun k hk => by have := hn (k + 1) (by omega); simpa using this)
theorem first_at (ws : List (Int × Int)) (t : Int) : ∀ (i : Nat) (h : i < ws.length), ws[i].1 = t → ∃ j, ∃ hj : j ≤ i, (ws[j]'(by omega)).1 = t ∧ ∀ k (hk : k < j), (ws[k]'(by omega)).1 ≠ t := by
  intro i
  induction i using Nat.strongRecOn with
  | _ i ih =>
    intro h e
    by_cases hx : ∃ k, ∃ hk : k < i, (ws[k]'(by omega)).1 = t
    · obtain ⟨k, hk, ek⟩ := hx
      obtain ⟨j, hj, e1, e2⟩ := ih k hk (by omega) ek
      exact ⟨j, by omega, e1, e2⟩
    · exact ⟨i, Nat.le_refl _, e, fun k hk ek => hx ⟨k, hk, ek⟩⟩
theorem fair_eq (ws : List (Int × Int)) : fairB ws = fairTo ws ws.length := by
  rw [Bool.eq_iff_iff]
  unfold fairB fairTo fairRow
  simp only [List.all_eq_true, List.mem_range, decide_eq_true_eq]
  constructor
  · intro h i hi j hj
    rw [fairAt_get ws i j hi (by omega), decide_eq_true_eq]
    intro e
    obtain ⟨k, hk, e1, e2⟩ := first_at ws ws[i].1 j (by omega) e.symm
    have h1 := h ws[i] (List.getElem_mem hi)
    have h2 := h ws[j] (List.getElem_mem (by omega))
    rw [← e] at h2
    omega
  · intro h x hx
    obtain ⟨i, hi, rfl⟩ := List.mem_iff_getElem.1 hx
    obtain ⟨j, hj, e1, e2⟩ := first_at ws ws[i].1 i hi rfl
    rw [winF_first ws ws[i].1 j (by omega) e1 e2]
    rcases Nat.lt_or_ge j i with hlt | hge
    · have := h i hi j hlt
      rw [fairAt_get ws i j hi (by omega), decide_eq_true_eq] at this
      exact (this e1.symm).symm
    · have : j = i := by omega
      subst this
      rfl
def isFairA (vs : List ((Bool × Int × Int × Bool) × List Int)) (now : Int) (is : List Int) (far : Int) (ls : List (Int × Int × Int × ByteArray)) (ws : List (Int × Int)) : Bool := pollB vs now is far ls ws && fairB ws
end Go.Proofs.Ytojplmjoipjabaa.Po
