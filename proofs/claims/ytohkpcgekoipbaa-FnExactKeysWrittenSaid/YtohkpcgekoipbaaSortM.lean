/-
  Sorting keys and leaving out repeats: the result rises and has the same members. Nothing of the program.
-/
import Derived.Test.YtohkpcgekoipbaaKeysM
import Derived.Lib.SlicesCompact
import Derived.Sort.Walk0
namespace Go.Proofs.Ytohkpcgekoipbaa
open Go CM
set_option linter.unusedVariables false

theorem le_less (x y : List UInt8) : decide (x ≤ y) = !Op.bytesLess y x := by
  rw [bytesLess_eq, ← decide_not]
  congr 1
theorem le_tr (x y z : List UInt8) (h1 : decide (x ≤ y) = true) (h2 : decide (y ≤ z) = true) : decide (x ≤ z) = true := by
  rw [le_less] at *
  simp only [Bool.not_eq_true'] at *
  cases h : Op.bytesLess z x with
  | false => rfl
  | true =>
    by_cases e : x = y
    · subst e; rw [h] at h2; cases h2
    · have h3 := less_total y x (fun e' => e e'.symm) h1
      rw [less_trans z x y h h3] at h2
      cases h2
theorem le_to (x y : List UInt8) : (decide (x ≤ y) || decide (y ≤ x)) = true := by
  rw [le_less, le_less]
  cases h : Op.bytesLess y x with
  | false => rfl
  | true =>
    cases h2 : Op.bytesLess x y with
    | false => simp
    | true => have h3 := less_trans _ _ _ h h2; rw [less_irrefl] at h3; cases h3
theorem compact_rise (zs : List (List UInt8)) (hs : zs.Pairwise fun a b => decide (a ≤ b) = true) (m : Nat) (hm : m ≤ zs.length) :
    (Lib.compactUpTo zs.toArray m).Pairwise (fun a b => Op.bytesLess a b = true) ∧ ∀ x, x ∈ Lib.compactUpTo zs.toArray m ↔ x ∈ zs.take m := by
  induction m with
  | zero => simp [Lib.compactUpTo]
  | succ m ih =>
    obtain ⟨h1, h2⟩ := ih (by omega)
    have hg : zs.toArray[m]! = zs[m] := by simp [show m < zs.length by omega]
    rw [Lib.compactUpTo_succ, List.take_succ_eq_append_getElem (show m < zs.length by omega), hg]
    by_cases hk : Lib.keeps zs.toArray m = true
    · rw [if_pos hk]
      refine ⟨List.pairwise_append.2 ⟨h1, List.pairwise_singleton _ _, fun a ha b hb => ?_⟩, fun x => by rw [List.mem_append, List.mem_append, h2 x]⟩
      rw [List.mem_singleton] at hb
      subst hb
      have ha' := (h2 a).1 ha
      obtain ⟨j, hj, rfl⟩ := List.mem_iff_getElem.1 ha'
      simp only [List.length_take] at hj
      rw [List.getElem_take]
      have hm0 : m ≠ 0 := by omega
      have hne : zs[m - 1]'(by omega) ≠ zs[m] := by
        simp only [Lib.keeps, decide_eq_true_eq] at hk
        rcases hk with hk | hk
        · exact absurd hk hm0
        · rw [hg] at hk
          simpa [show m - 1 < zs.length by omega] using hk.symm
      have hle := List.pairwise_iff_getElem.1 hs (m - 1) m (by omega) (by omega) (by omega)
      rw [le_less] at hle
      have hlt : Op.bytesLess (zs[m - 1]'(by omega)) zs[m] = true := less_total _ _ (fun e => hne e.symm) (by simpa using hle)
      by_cases e : j = m - 1
      · subst e; exact hlt
      · have hle2 := List.pairwise_iff_getElem.1 hs j (m - 1) (by omega) (by omega) (by omega)
        rw [le_less] at hle2
        by_cases e2 : zs[j]'(by omega) = zs[m - 1]'(by omega)
        · rw [e2]; exact hlt
        · exact less_trans _ _ _ (less_total _ _ (fun e3 => e2 e3.symm) (by simpa using hle2)) hlt
    · rw [if_neg hk, List.append_nil]
      refine ⟨h1, fun x => ?_⟩
      rw [List.mem_append, h2 x, List.mem_singleton]
      simp only [Lib.keeps, decide_eq_true_eq, not_or, ne_eq, Decidable.not_not] at hk
      obtain ⟨h0, h3⟩ := hk
      rw [hg] at h3
      have h4 : zs[m] = zs[m - 1]'(by omega) := by rw [h3]; simp [show m - 1 < zs.length by omega]
      constructor
      · exact .inl
      · rintro (h | h)
        · exact h
        · rw [h, h4]
          exact List.mem_iff_getElem.2 ⟨m - 1, by rw [List.length_take]; omega, by rw [List.getElem_take]⟩
/-- The bytes of a string, and back. -/
def unB (s : ByteArray) : List UInt8 := s.data.toList
def toB (l : List UInt8) : ByteArray := ⟨l.toArray⟩
theorem toB_unB (s : ByteArray) : toB (unB s) = s := rfl
theorem unB_toB (l : List UInt8) : unB (toB l) = l := by simp [unB, toB]
theorem kLt_toB (a b : List UInt8) : kLt (toB a) (toB b) = Op.bytesLess a b := by
  unfold kLt; rw [ByteArray.toList_eq, ByteArray.toList_eq]; simp [toB]
def sortK (l : List ByteArray) : List (List UInt8) := (l.map unB).mergeSort fun x y => decide (x ≤ y)
theorem sortK_len (l : List ByteArray) : (sortK l).length = l.length := by simp [sortK]
theorem keys_sorted (rs ks : List ByteArray) : KeysRel ((Lib.compact (sortK (rs ++ ks))).map toB) rs ks := by
  have hs : (sortK (rs ++ ks)).Pairwise fun a b => decide (a ≤ b) = true := List.pairwise_mergeSort le_tr le_to _
  obtain ⟨h1, h2⟩ := compact_rise _ hs _ (Nat.le_refl _)
  rw [List.take_length] at h2
  refine ⟨?_, fun x => ?_⟩
  · rw [rise_pair]
    refine List.Pairwise.map _ (fun a b h => ?_) h1
    rw [kLt_toB]; exact h
  · unfold Lib.compact
    rw [List.mem_map]
    constructor
    · rintro ⟨a, ha, rfl⟩
      have h3 := (List.mem_mergeSort).1 ((h2 a).1 ha)
      obtain ⟨s, hs', rfl⟩ := List.mem_map.1 h3
      rw [toB_unB]
      exact List.mem_append.1 hs'
    · intro hx
      exact ⟨unB x, (h2 _).2 (List.mem_mergeSort.2 (List.mem_map.2 ⟨x, List.mem_append.2 hx, rfl⟩)), toB_unB x⟩
end Go.Proofs.Ytohkpcgekoipbaa
