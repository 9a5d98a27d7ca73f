/-
  Plain mathematics of nets: when one is valid; letters put in, taken out, parted by their time. Nothing of the program.
-/
import Derived.Test.YtlfdefjkfacngaaLeaf
namespace Go.Proofs.Ytlfdefjkfacngaa.Nt
open Go Go.RowKit
set_option linter.unusedVariables false

/-- Such a node is there, among m. -/
def nodeB (m : Nat) (a : Int) : Bool := decide (0 ≤ a) && decide (a < (m : Int))
theorem nodeB_true {m : Nat} {a : Int} (h : nodeB m a = true) : 0 ≤ a ∧ a < (m : Int) := by simpa [nodeB] using h
theorem nodeB_mk {m : Nat} {a : Int} (h : 0 ≤ a ∧ a < (m : Int)) : nodeB m a = true := by simpa [nodeB] using h
theorem nodeB_not {m : Nat} {a : Int} (h : ¬ (0 ≤ a ∧ a < (m : Int))) : nodeB m a = false := by
  cases e : nodeB m a with
  | false => rfl
  | true => exact absurd (nodeB_true e) h
/-- A valid letter, but for its place in the order. -/
def glB (m : Nat) (x : (Int × Int × Int × ByteArray)) : Bool :=
  nodeB m x.1 && (nodeB m x.2.1 && (decide (x.1 ≠ x.2.1) && (decide (0 ≤ x.2.2.1) && (decide (x.2.2.1 ≤ 100200) && (decide (x.2.2.2.size ≠ 0) && decide (x.2.2.2.size ≤ 40))))))
/-- Valid letters behind the time b. -/
def undB (m : Nat) : Int → List (Int × Int × Int × ByteArray) → Bool
  | _, [] => true
  | b, x :: l => glB m x && (decide (b ≤ x.2.2.1) && undB m x.2.2.1 l)
def homesB (is : List Int) : Bool := decide (1 ≤ is.length) && (decide (is.length ≤ 5) && is.all fun h => inB h 0 2)
/-- A valid net. -/
def netB (now : Int) (is : List Int) (far : Int) (ls : List (Int × Int × Int × ByteArray)) : Bool :=
  inB now 0 100000 && (homesB is && (inB far 0 20 && (decide (ls.length ≤ 60) && undB is.length 0 ls)))
theorem netB_true {now far : Int} {is : List Int} {ls : List (Int × Int × Int × ByteArray)} (h : netB now is far ls = true) :
    inB now 0 100000 = true ∧ homesB is = true ∧ inB far 0 20 = true ∧ ls.length ≤ 60 ∧ undB is.length 0 ls = true := by
  simp only [netB, Bool.and_eq_true, decide_eq_true_eq] at h
  exact h
theorem homesB_true {is : List Int} (h : homesB is = true) : 1 ≤ is.length ∧ is.length ≤ 5 ∧ ∀ i ∈ is, 0 ≤ i ∧ i ≤ 2 := by
  simp only [homesB, Bool.and_eq_true, decide_eq_true_eq, List.all_eq_true] at h
  exact ⟨h.1, h.2.1, fun i hi => inB_true (h.2.2 i hi)⟩
theorem undB_cons (m : Nat) (b : Int) (x : (Int × Int × Int × ByteArray)) (l : List (Int × Int × Int × ByteArray)) : undB m b (x :: l) = (glB m x && (decide (b ≤ x.2.2.1) && undB m x.2.2.1 l)) := rfl
theorem undB_nil (m : Nat) (b : Int) : undB m b [] = true := rfl
theorem glB_parts {m : Nat} {x : (Int × Int × Int × ByteArray)} (h : glB m x = true) : nodeB m x.1 = true ∧ nodeB m x.2.1 = true ∧ x.1 ≠ x.2.1 ∧ 0 ≤ x.2.2.1 ∧ x.2.2.1 ≤ 100200 ∧ x.2.2.2.size ≠ 0 ∧ x.2.2.2.size ≤ 40 := by
  simp only [glB, Bool.and_eq_true, decide_eq_true_eq] at h
  exact h
/-- One letter more has been looked at. -/
theorem undB_step {m k : Nat} {b : Int} {ls : List (Int × Int × Int × ByteArray)} (hk : k < ls.length) : undB m b (ls.drop k) = (glB m ls[k] && (decide (b ≤ ls[k].2.2.1) && undB m ls[k].2.2.1 (ls.drop (k + 1)))) := by
  rw [List.drop_eq_getElem_cons hk, undB_cons]
theorem undB_end {m k : Nat} {b : Int} {ls : List (Int × Int × Int × ByteArray)} (hk : ls.length ≤ k) : undB m b (ls.drop k) = true := by
  rw [List.drop_of_length_le hk]; rfl

/-! ### The order of the letters -/
def Asc (ls : List (Int × Int × Int × ByteArray)) : Prop := ls.Pairwise fun x y => x.2.2.1 ≤ y.2.2.1
theorem undB_low {m : Nat} : ∀ {b : Int} {ls : List (Int × Int × Int × ByteArray)}, undB m b ls = true → ∀ x ∈ ls, b ≤ x.2.2.1 ∧ glB m x = true
  | _, [], _, _, hx => by simp at hx
  | b, y :: l, h, x, hx => by
    simp only [undB_cons, Bool.and_eq_true, decide_eq_true_eq] at h
    rcases List.mem_cons.1 hx with rfl | hx
    · exact ⟨h.2.1, h.1⟩
    · obtain ⟨h1, h2⟩ := undB_low h.2.2 x hx
      exact ⟨by omega, h2⟩
theorem undB_asc {m : Nat} : ∀ {b : Int} {ls : List (Int × Int × Int × ByteArray)}, undB m b ls = true → Asc ls
  | _, [], _ => List.Pairwise.nil
  | b, y :: l, h => by
    simp only [undB_cons, Bool.and_eq_true, decide_eq_true_eq] at h
    exact List.Pairwise.cons (fun x hx => (undB_low h.2.2 x hx).1) (undB_asc h.2.2)
theorem undB_mk {m : Nat} : ∀ {b : Int} {ls : List (Int × Int × Int × ByteArray)}, Asc ls → (∀ x ∈ ls, b ≤ x.2.2.1 ∧ glB m x = true) → undB m b ls = true
  | _, [], _, _ => rfl
  | b, y :: l, h, hx => by
    have h1 := hx y (by simp)
    rw [undB_cons, h1.2, decide_eq_true h1.1, Bool.true_and, Bool.true_and]
    have h2 := List.pairwise_cons.1 h
    exact undB_mk h2.2 fun x hm => ⟨h2.1 x hm, (hx x (by simp [hm])).2⟩
theorem undB_bad {m : Nat} {b : Int} {ls : List (Int × Int × Int × ByteArray)} (x : (Int × Int × Int × ByteArray)) (hx : x ∈ ls) (h : glB m x = false) : undB m b ls = false := by
  cases e : undB m b ls with
  | false => rfl
  | true => rw [(undB_low e x hx).2] at h; cases h

/-! ### Letters due by a time -/
def dueK (ls : List (Int × Int × Int × ByteArray)) (t : Int) : Nat := (ls.takeWhile fun x => decide (x.2.2.1 ≤ t)).length
theorem dueK_le (ls : List (Int × Int × Int × ByteArray)) (t : Int) : dueK ls t ≤ ls.length := (List.takeWhile_sublist _).length_le
theorem dueK_cons (x : (Int × Int × Int × ByteArray)) (l : List (Int × Int × Int × ByteArray)) (t : Int) : dueK (x :: l) t = if x.2.2.1 ≤ t then dueK l t + 1 else 0 := by
  unfold dueK
  rw [List.takeWhile_cons]
  by_cases h : x.2.2.1 ≤ t <;> simp [h]
theorem dueK_lt : ∀ (ls : List (Int × Int × Int × ByteArray)) (t : Int) (j : Nat) (h : j < ls.length), j < dueK ls t → ls[j].2.2.1 ≤ t
  | [], _, _, h, _ => by simp at h
  | x :: l, t, j, h, hj => by
    rw [dueK_cons] at hj
    split at hj
    · cases j with
      | zero => simpa
      | succ j => exact dueK_lt l t j (by simpa using h) (by omega)
    · omega
theorem dueK_at : ∀ (ls : List (Int × Int × Int × ByteArray)) (t : Int) (h : dueK ls t < ls.length), t < (ls[dueK ls t]).2.2.1
  | [], _, h => by simp at h
  | x :: l, t, h => by
    by_cases hx : x.2.2.1 ≤ t
    · have e : dueK (x :: l) t = dueK l t + 1 := by rw [dueK_cons, if_pos hx]
      have h2 : dueK l t < l.length := by rw [e] at h; simpa using h
      have h3 := dueK_at l t h2
      simp only [e, List.getElem_cons_succ]
      exact h3
    · have e : dueK (x :: l) t = 0 := by rw [dueK_cons, if_neg hx]
      simp only [e, List.getElem_cons_zero]
      omega
/-- Where all before k are due by then and the one at k is not, that is how many there are. -/
theorem dueK_eq {ls : List (Int × Int × Int × ByteArray)} {t : Int} {k : Nat} (hk : k ≤ ls.length) (h1 : ∀ j (h : j < ls.length), j < k → ls[j].2.2.1 ≤ t) (h2 : ∀ h : k < ls.length, t < ls[k].2.2.1) : dueK ls t = k := by
  have hle := dueK_le ls t
  rcases Nat.lt_trichotomy (dueK ls t) k with h | h | h
  · have a := dueK_at ls t (by omega)
    have b := h1 (dueK ls t) (by omega) h
    omega
  · exact h
  · have a := dueK_lt ls t k (by omega) h
    have b := h2 (by omega)
    omega
theorem asc_at {ls : List (Int × Int × Int × ByteArray)} (h : Asc ls) (i j : Nat) (hij : i < j) (hj : j < ls.length) : (ls[i]'(by omega)).2.2.1 ≤ ls[j].2.2.1 :=
  List.pairwise_iff_getElem.1 h i j (by omega) hj hij
theorem dueK_mono {ls : List (Int × Int × Int × ByteArray)} (h : Asc ls) (t : Int) (j : Nat) (hj : j < ls.length) (hk : dueK ls t ≤ j) : t < ls[j].2.2.1 := by
  have a := dueK_at ls t (by omega)
  rcases Nat.lt_or_ge (dueK ls t) j with h2 | h2
  · have := asc_at h _ _ h2 hj; omega
  · have e : dueK ls t = j := by omega
    simp only [e] at a
    exact a
def insL (ls : List (Int × Int × Int × ByteArray)) (x : (Int × Int × Int × ByteArray)) : List (Int × Int × Int × ByteArray) := ls.take (dueK ls x.2.2.1) ++ x :: ls.drop (dueK ls x.2.2.1)
def outL (ls : List (Int × Int × Int × ByteArray)) (i : Nat) : List (Int × Int × Int × ByteArray) := ls.take i ++ ls.drop (i + 1)
theorem insL_len (ls : List (Int × Int × Int × ByteArray)) (x : (Int × Int × Int × ByteArray)) : (insL ls x).length = ls.length + 1 := by
  have := dueK_le ls x.2.2.1
  unfold insL
  simp only [List.length_append, List.length_take, List.length_cons, List.length_drop]
  omega
theorem outL_len (ls : List (Int × Int × Int × ByteArray)) (i : Nat) (h : i < ls.length) : (outL ls i).length + 1 = ls.length := by
  unfold outL
  simp only [List.length_append, List.length_take, List.length_drop]
  omega
theorem mem_insL {ls : List (Int × Int × Int × ByteArray)} {x y : (Int × Int × Int × ByteArray)} : y ∈ insL ls x ↔ y = x ∨ y ∈ ls := by
  unfold insL
  simp only [List.mem_append, List.mem_cons]
  have e : y ∈ ls ↔ y ∈ ls.take (dueK ls x.2.2.1) ∨ y ∈ ls.drop (dueK ls x.2.2.1) := by
    rw [← List.mem_append, List.take_append_drop]
  rw [e]
  constructor
  · rintro (h | h | h)
    · exact .inr (.inl h)
    · exact .inl h
    · exact .inr (.inr h)
  · rintro (h | h | h)
    · exact .inr (.inl h)
    · exact .inl h
    · exact .inr (.inr h)
theorem mem_outL {ls : List (Int × Int × Int × ByteArray)} {i : Nat} {y : (Int × Int × Int × ByteArray)} (h : y ∈ outL ls i) : y ∈ ls := by
  unfold outL at h
  rcases List.mem_append.1 h with h | h
  · exact List.mem_of_mem_take h
  · exact List.mem_of_mem_drop h
theorem outL_asc {ls : List (Int × Int × Int × ByteArray)} (h : Asc ls) (i : Nat) : Asc (outL ls i) := by
  have hs : (outL ls i).Sublist ls := by
    unfold outL
    have h1 : (ls.drop (i + 1)).Sublist (ls.drop i) := List.drop_sublist_drop_left ls (Nat.le_succ i)
    have h2 := List.Sublist.append (List.Sublist.refl (ls.take i)) h1
    rwa [List.take_append_drop] at h2
  exact h.sublist hs

/-! ### What the functions answer: the time, the homes, the distance, the letters, and whether there is a net -/
theorem agap (a b : Int) : max (a - b) (b - a) = ((a - b).natAbs : Int) := by omega
def tripI (is : List Int) (far a b : Int) : Int := 1 + far * ((is.getD a.toNat 0 - is.getD b.toNat 0).natAbs : Int)
def tripA (now : Int) (is : List Int) (far : Int) (ls : List (Int × Int × Int × ByteArray)) (a b : Int) : Int × Bool :=
  if (netB now is far ls && (nodeB is.length a && nodeB is.length b)) = true then (tripI is far a b, true) else (0, false)
def noA : Int × List Int × Int × List (Int × Int × Int × ByteArray) × Bool := (0, [], 0, [], false)
def ifA (now : Int) (is : List Int) (far : Int) (ls : List (Int × Int × Int × ByteArray)) : Int × List Int × Int × List (Int × Int × Int × ByteArray) × Bool :=
  if netB now is far ls = true then (now, is, far, ls, true) else noA
def sendA (now : Int) (is : List Int) (far : Int) (ls : List (Int × Int × Int × ByteArray)) (a b : Int) (s : ByteArray) : Int × List Int × Int × List (Int × Int × Int × ByteArray) × Bool :=
  if (netB now is far ls && (nodeB is.length a && (nodeB is.length b && decide (a ≠ b)))) = true then ifA now is far (insL ls (a, b, now + tripI is far a b, s)) else noA
def hasB (now : Int) (is : List Int) (far : Int) (ls : List (Int × Int × Int × ByteArray)) (i : Int) : Bool := netB now is far ls && inB i 0 ((ls.length : Int) - 1)
def loseA (now : Int) (is : List Int) (far : Int) (ls : List (Int × Int × Int × ByteArray)) (i : Int) : Int × List Int × Int × List (Int × Int × Int × ByteArray) × Bool :=
  if hasB now is far ls i = true then (now, is, far, outL ls i.toNat, true) else noA
def letAt (ls : List (Int × Int × Int × ByteArray)) (i : Int) : (Int × Int × Int × ByteArray) := ls.getD i.toNat (0, 0, 0, ByteArray.empty)
def dblA (now : Int) (is : List Int) (far : Int) (ls : List (Int × Int × Int × ByteArray)) (i : Int) : Int × List Int × Int × List (Int × Int × Int × ByteArray) × Bool :=
  if hasB now is far ls i = true then ifA now is far (insL ls (letAt ls i)) else noA
def later (x : (Int × Int × Int × ByteArray)) (by' : Int) : (Int × Int × Int × ByteArray) := (x.1, x.2.1, x.2.2.1 + by', x.2.2.2)
def dlyA (now : Int) (is : List Int) (far : Int) (ls : List (Int × Int × Int × ByteArray)) (i by' : Int) : Int × List Int × Int × List (Int × Int × Int × ByteArray) × Bool :=
  if (hasB now is far ls i && inB by' 1 50) = true then ifA now is far (insL (outL ls i.toNat) (later (letAt ls i) by')) else noA
def dlvA (now : Int) (is : List Int) (far : Int) (ls : List (Int × Int × Int × ByteArray)) : (Int × List Int × Int × List (Int × Int × Int × ByteArray) × Bool) × List (Int × Int × Int × ByteArray) :=
  if netB now is far ls = true then ((now, is, far, ls.drop (dueK ls now), true), ls.take (dueK ls now)) else (noA, [])
def tickA (now : Int) (is : List Int) (far : Int) (ls : List (Int × Int × Int × ByteArray)) : Int × List Int × Int × List (Int × Int × Int × ByteArray) × Bool :=
  if netB now is far ls = true then ifA (now + 1) is far ls else noA
theorem hasB_true {now far i : Int} {is : List Int} {ls : List (Int × Int × Int × ByteArray)} (h : hasB now is far ls i = true) : netB now is far ls = true ∧ 0 ≤ i ∧ i < (ls.length : Int) := by
  simp only [hasB, Bool.and_eq_true] at h
  have := inB_true h.2
  exact ⟨h.1, by omega, by omega⟩
theorem letAt_get {ls : List (Int × Int × Int × ByteArray)} {k : Nat} (h : k < ls.length) : letAt ls (k : Int) = ls[k] := by
  unfold letAt
  rw [Int.toNat_natCast, List.getD_eq_getElem?_getD, List.getElem?_eq_getElem h]
  rfl
theorem tripI_low {is : List Int} {far a b : Int} (h : 0 ≤ far) : 1 ≤ tripI is far a b := by
  unfold tripI
  have : 0 ≤ far * ((is.getD a.toNat 0 - is.getD b.toNat 0).natAbs : Int) := Int.mul_nonneg h (by omega)
  omega
theorem getD_in {is : List Int} (h : ∀ i ∈ is, 0 ≤ i ∧ i ≤ 2) (a : Nat) : 0 ≤ is.getD a 0 ∧ is.getD a 0 ≤ 2 := by
  rw [List.getD_eq_getElem?_getD]
  cases e : is[a]? with
  | none => simp
  | some x => exact h x (List.mem_of_getElem? e)
theorem tripI_high {is : List Int} {far a b : Int} (h : 0 ≤ far) (h2 : far ≤ 20) (hh : ∀ i ∈ is, 0 ≤ i ∧ i ≤ 2) : tripI is far a b ≤ 41 := by
  unfold tripI
  have h3 := getD_in hh a.toNat
  have h4 := getD_in hh b.toNat
  have h5 : ((is.getD a.toNat 0 - is.getD b.toNat 0).natAbs : Int) ≤ 2 := by omega
  have h6 : far * ((is.getD a.toNat 0 - is.getD b.toNat 0).natAbs : Int) ≤ 20 * 2 := Int.mul_le_mul h2 h5 (by omega) (by omega)
  omega
/-- A letter to its own sender makes the net bad. -/
theorem send_self (now : Int) (is : List Int) (far : Int) (ls : List (Int × Int × Int × ByteArray)) (a t : Int) (s : ByteArray) : netB now is far (insL ls (a, a, t, s)) = false := by
  have h : undB is.length 0 (insL ls (a, a, t, s)) = false := undB_bad (a, a, t, s) (mem_insL.2 (.inl rfl)) (by simp [glB])
  simp [netB, h]
end Go.Proofs.Ytlfdefjkfacngaa.Nt
