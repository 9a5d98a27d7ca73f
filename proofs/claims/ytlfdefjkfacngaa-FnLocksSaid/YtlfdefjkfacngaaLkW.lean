/-
  Plain mathematics of waiting: transactions put in by their order, or sorted: the same, where none is there twice. Nothing of the program.
-/
import Derived.Test.YtlfdefjkfacngaaLkF1
namespace Go.Proofs.Ytlfdefjkfacngaa.Lk
open Go CM
set_option linter.unusedVariables false

def sortI (zs : List Int) : List Int := zs.mergeSort fun x y => decide (x ≤ y)
theorem sortI_perm (zs : List Int) : (sortI zs).Perm zs := List.mergeSort_perm _ _
theorem sortI_up (zs : List Int) : (sortI zs).Pairwise fun x y => decide (x ≤ y) = true :=
  List.pairwise_mergeSort (fun a b c h1 h2 => by simp only [decide_eq_true_eq] at *; omega) (fun a b => by simp only [Bool.or_eq_true, decide_eq_true_eq]; omega) zs
theorem sortI_len (zs : List Int) : (sortI zs).length = zs.length := (sortI_perm zs).length_eq
theorem ins_perm {x : Int} : ∀ {l : List Int}, x ∉ l → (insI x l).Perm (x :: l)
  | [], _ => by simp [insI]
  | y :: l, h => by
    unfold insI
    rw [List.mem_cons, not_or] at h
    by_cases h1 : y < x
    · rw [if_pos h1]
      exact ((ins_perm h.2).cons y).trans (List.Perm.swap x y l)
    · rw [if_neg h1, if_neg (by omega)]
theorem ins_up {x : Int} : ∀ {l : List Int}, l.Pairwise (fun a b => decide (a ≤ b) = true) → (insI x l).Pairwise fun a b => decide (a ≤ b) = true
  | [], _ => by simp [insI]
  | y :: l, h => by
    unfold insI
    rw [List.pairwise_cons] at h
    by_cases h1 : y < x
    · rw [if_pos h1, List.pairwise_cons]
      refine ⟨fun a ha => ?_, ins_up h.2⟩
      by_cases hx : x ∈ l
      · have : ∀ {l : List Int}, a ∈ insI x l → a = x ∨ a ∈ l := by
          intro l
          induction l with
          | nil => simp [insI]
          | cons z l ih =>
            unfold insI
            split
            · intro h; rcases List.mem_cons.1 h with h | h
              · exact .inr (by simp [h])
              · rcases ih h with h | h
                · exact .inl h
                · exact .inr (List.mem_cons_of_mem _ h)
            · split
              · exact .inr
              · intro h; rcases List.mem_cons.1 h with h | h
                · exact .inl h
                · exact .inr h
        rcases this ha with rfl | h2
        · simp; omega
        · exact h.1 a h2
      · have h2 := (ins_perm hx).mem_iff.1 ha
        rcases List.mem_cons.1 h2 with rfl | h2
        · simp; omega
        · exact h.1 a h2
    · rw [if_neg h1]
      by_cases h3 : y = x
      · rw [if_pos h3]; exact List.pairwise_cons.2 h
      · rw [if_neg h3, List.pairwise_cons]
        refine ⟨fun a ha => ?_, List.pairwise_cons.2 h⟩
        rcases List.mem_cons.1 ha with rfl | ha
        · simp; omega
        · have := h.1 a ha
          simp only [decide_eq_true_eq] at this ⊢; omega
def foldI (zs : List Int) : List Int := zs.foldl (fun acc z => insI z acc) []
theorem fold_perm (zs : List Int) : ∀ acc : List Int, acc.Pairwise (fun a b => decide (a ≤ b) = true) → (zs ++ acc).Nodup → (zs.foldl (fun acc z => insI z acc) acc).Pairwise (fun a b => decide (a ≤ b) = true) ∧ (zs.foldl (fun acc z => insI z acc) acc).Perm (zs ++ acc) := by
  induction zs with
  | nil => intro acc h _; exact ⟨h, List.Perm.refl _⟩
  | cons z zs ih =>
    intro acc h hd
    rw [List.cons_append, List.nodup_cons] at hd
    have hz : z ∉ acc := fun hm => hd.1 (List.mem_append_right _ hm)
    have hp := ins_perm hz
    have hp2 : (zs ++ insI z acc).Perm (z :: (zs ++ acc)) := (hp.append_left zs).trans (List.perm_middle)
    obtain ⟨h1, h2⟩ := ih (insI z acc) (ins_up h) (hp2.nodup_iff.2 (List.nodup_cons.2 hd))
    exact ⟨h1, h2.trans hp2⟩
theorem fold_sort {zs : List Int} (h : zs.Nodup) : foldI zs = sortI zs := by
  obtain ⟨h1, h2⟩ := fold_perm zs [] List.Pairwise.nil (by simpa using h)
  rw [List.append_nil] at h2
  exact List.Perm.eq_of_pairwise (le := fun a b => decide (a ≤ b) = true) (fun a b _ _ h1 h2 => by simp only [decide_eq_true_eq] at h1 h2; omega) h1 (sortI_up zs) (h2.trans (sortI_perm zs).symm)
theorem free_pair {l : List LK} : freeB l = true → l.Pairwise fun a b => exclB a b = false := by
  induction l with
  | nil => intro _; exact List.Pairwise.nil
  | cons x l ih =>
    intro h
    simp only [freeB, Bool.and_eq_true, Bool.not_eq_true', List.any_eq_false] at h
    exact List.pairwise_cons.2 ⟨fun a ha => by have := h.1 a ha; simpa using this, ih h.2⟩
theorem good_free {l : List LK} (h : goodB l = true) : l.length ≤ 60 ∧ freeB l = true := by
  unfold goodB at h
  simp only [Bool.and_eq_true, decide_eq_true_eq] at h
  exact ⟨h.1, h.2.2⟩
theorem good_nodup {l : List LK} {x : LK} (h : goodB l = true) : (txnsL l x).Nodup := by
  have h1 := (free_pair (good_free h).2).filter (clashB x)
  unfold txnsL List.Nodup
  rw [List.pairwise_map]
  refine h1.imp_of_mem fun {a b} ha hb hab => ?_
  have ka := (List.mem_filter.1 ha).2
  have kb := (List.mem_filter.1 hb).2
  intro e
  simp only [clashB, Bool.and_eq_true, decide_eq_true_eq] at ka kb
  have : exclB a b = true := by simp [exclB, heldB, ← ka.1, ← kb.1, e]
  rw [this] at hab; cases hab
def waitsL (l : List LK) (x : LK) : List Int := sortI (txnsL l x)
theorem waits_fold {l : List LK} {x : LK} (h : goodB l = true) : foldI (txnsL l x) = waitsL l x := fold_sort (good_nodup h)
theorem txns_len (l : List LK) (x : LK) : (txnsL l x).length ≤ l.length := by
  unfold txnsL; rw [List.length_map]; exact List.length_filter_le _ _
theorem waits_len (l : List LK) (x : LK) : (waitsL l x).length ≤ l.length := by
  unfold waitsL; rw [sortI_len]; exact txns_len l x
def waitA (l : List LK) (x : LK) : List Int × Bool := if goodB l && lkB x then (waitsL l x, true) else ([], false)
theorem waitA_len (l : List LK) (x : LK) : (waitA l x).1.length ≤ l.length := by
  unfold waitA; split
  · exact waits_len l x
  · simp
theorem ins_len (x : Int) (l : List Int) : (insI x l).length ≤ l.length + 1 := by
  induction l with
  | nil => simp [insI]
  | cons y l ih => unfold insI; split <;> (try split) <;> simp <;> omega
theorem fold_snoc (zs : List Int) (z : Int) : foldI (zs ++ [z]) = insI z (foldI zs) := by
  unfold foldI; rw [List.foldl_append]; rfl
theorem txns_yes {l : List LK} {x : LK} {k : Nat} (hk : k < l.length) (h : clashB x l[k] = true) : txnsL (l.take (k + 1)) x = txnsL (l.take k) x ++ [l[k].2.1] := by
  unfold txnsL
  rw [List.take_succ_eq_append_getElem hk, List.filter_append, List.map_append]; simp [h]
theorem txns_no {l : List LK} {x : LK} {k : Nat} (hk : k < l.length) (h : clashB x l[k] = false) : txnsL (l.take (k + 1)) x = txnsL (l.take k) x := by
  unfold txnsL
  rw [List.take_succ_eq_append_getElem hk, List.filter_append, List.map_append]; simp [h]
/-- A number put in at its place. -/
theorem ins_here {x : Int} : ∀ {l : List Int} {k : Nat} (hk : k < l.length), (∀ j (hj : j < k), l[j]'(by omega) < x) → l[k] = x → insI x l = l
  | y :: l, 0, hk, _, h => by
    simp at h
    subst h
    unfold insI
    rw [if_neg (by omega), if_pos rfl]
  | y :: l, k + 1, hk, hj, h => by
    have h0 := hj 0 (by omega)
    simp at h0
    unfold insI
    rw [if_pos h0, ins_here (k := k) (by simpa using hk) (fun j hj' => by have := hj (j + 1) (by omega); simpa using this) (by simpa using h)]
theorem ins_place {x : Int} : ∀ {l : List Int} {k : Nat} (hk : k ≤ l.length), (∀ j (hj : j < k), l[j]'(by omega) < x) → (∀ h : k < l.length, x < l[k]) → insI x l = l.take k ++ x :: l.drop k
  | [], 0, hk, _, h => by simp [insI]
  | y :: l, 0, hk, _, h => by
    have := h (by simp)
    simp at this
    unfold insI
    rw [if_neg (by omega), if_neg (by omega)]; rfl
  | y :: l, k + 1, hk, hj, h => by
    have h0 := hj 0 (by omega)
    simp at h0
    unfold insI
    rw [if_pos h0, ins_place (k := k) (by simpa using hk) (fun j hj' => by have := hj (j + 1) (by omega); simpa using this) (fun h' => by have := h (by simpa using h'); simpa using this)]
    rfl
end Go.Proofs.Ytlfdefjkfacngaa.Lk
