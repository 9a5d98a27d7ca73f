/-
  Plain facts on rising lists of keys: one key put in; two rising lists with the same members are the same. Nothing of the program.
-/
import Derived.Test.YtohkpcgekoipbaaPre
import Derived.Test.YtohkpcgekoipbaaGoodW
namespace Go.Proofs.Ytohkpcgekoipbaa
open Go CM
set_option linter.unusedVariables false

theorem rise_pair (l : List ByteArray) : upB kLt l = true ↔ l.Pairwise fun a b => kLt a b = true := upB_iff kLt (fun _ _ _ h1 h2 => kLt_trans h1 h2) l
theorem rise_unique {a b : List ByteArray} (ha : upB kLt a = true) (hb : upB kLt b = true) (h : ∀ x, x ∈ a ↔ x ∈ b) : a = b := by
  rw [rise_pair] at ha hb
  induction a generalizing b with
  | nil =>
    cases b with
    | nil => rfl
    | cons y b => exact absurd ((h y).2 (by simp)) (by simp)
  | cons x a ih =>
    cases b with
    | nil => exact absurd ((h x).1 (by simp)) (by simp)
    | cons y b =>
      rw [List.pairwise_cons] at ha hb
      have hxy : x = y := by
        by_cases e : x = y
        · exact e
        · have h1 : x ∈ b := by
            rcases List.mem_cons.1 ((h x).1 (by simp)) with h1 | h1
            · exact absurd h1 e
            · exact h1
          have h2 : y ∈ a := by
            rcases List.mem_cons.1 ((h y).2 (by simp)) with h2 | h2
            · exact absurd h2.symm e
            · exact h2
          have h3 := hb.1 x h1
          have h4 := ha.1 y h2
          rw [kLt_asymm h4] at h3
          cases h3
      subst hxy
      rw [ih ha.2 hb.2 fun z => ?_]
      constructor
      · intro hz
        rcases List.mem_cons.1 ((h z).1 (List.mem_cons_of_mem _ hz)) with h1 | h1
        · subst h1
          have := ha.1 z hz
          rw [kLt_asymm this] at this
          cases this
        · exact h1
      · intro hz
        rcases List.mem_cons.1 ((h z).2 (List.mem_cons_of_mem _ hz)) with h1 | h1
        · subst h1
          have := hb.1 z hz
          rw [kLt_asymm this] at this
          cases this
        · exact h1
/-- A key put between those below it and those above it. -/
theorem rise_put {l : List ByteArray} {s : ByteArray} {q : Nat} (h : upB kLt l = true) (hq : q ≤ l.length) (hlo : ∀ h0 : 0 < q, kLt (l[q - 1]'(by omega)) s = true) (hhi : ∀ j (hj : j < l.length), q ≤ j → kLt s l[j] = true) :
    upB kLt (l.take q ++ s :: l.drop q) = true ∧ ∀ x, x ∈ l.take q ++ s :: l.drop q ↔ x = s ∨ x ∈ l := by
  rw [rise_pair] at h ⊢
  have hs := h
  rw [← List.take_append_drop q l, List.pairwise_append] at hs
  have hlow : ∀ x ∈ l.take q, kLt x s = true := by
    intro x hx
    obtain ⟨j, hj, rfl⟩ := List.mem_iff_getElem.1 hx
    simp only [List.length_take] at hj
    rw [List.getElem_take]
    have h0 : 0 < q := by omega
    by_cases e : j = q - 1
    · subst e; exact hlo h0
    · exact kLt_trans (List.pairwise_iff_getElem.1 h j (q - 1) (by omega) (by omega) (by omega)) (hlo h0)
  have hhigh : ∀ x ∈ l.drop q, kLt s x = true := by
    intro x hx
    obtain ⟨j, hj, rfl⟩ := List.mem_iff_getElem.1 hx
    simp only [List.length_drop] at hj
    rw [List.getElem_drop]
    exact hhi _ (by omega) (by omega)
  refine ⟨List.pairwise_append.2 ⟨hs.1, List.pairwise_cons.2 ⟨hhigh, hs.2.1⟩, fun a ha b hb => ?_⟩, fun x => ?_⟩
  · rcases List.mem_cons.1 hb with rfl | hb
    · exact hlow a ha
    · exact hs.2.2 a ha b hb
  · have e : x ∈ l ↔ x ∈ l.take q ∨ x ∈ l.drop q := by rw [← List.mem_append, List.take_append_drop]
    rw [e, List.mem_append, List.mem_cons]
    constructor
    · rintro (h1 | h1 | h1)
      · exact .inr (.inl h1)
      · exact .inl h1
      · exact .inr (.inr h1)
    · rintro (h1 | h1 | h1)
      · exact .inr (.inl h1)
      · exact .inl h1
      · exact .inr (.inr h1)
/-- The keys of reads and writes, once each, rising. -/
def KeysRel (R rs : List ByteArray) (ks : List ByteArray) : Prop := upB kLt R = true ∧ ∀ x, x ∈ R ↔ x ∈ rs ∨ x ∈ ks
theorem KeysRel.unique {R R' rs ks : List ByteArray} (h : KeysRel R rs ks) (h' : KeysRel R' rs ks) : R = R' :=
  rise_unique h.1 h'.1 fun x => (h.2 x).trans (h'.2 x).symm
end Go.Proofs.Ytohkpcgekoipbaa
