/-
  The contract of KeysOf of the program, and of the model.
-/
import Derived.Test.YtohkpcgekoipbaaKeysS
import Derived.Test.YtohkpcgekoipbaaSortM
import Derived.Test.YtohkpcgekoipbaaShelf
import Derived.Test.YtohkpcgekoipbaaShelfSort
import Derived.Sort.OwnSorted
namespace Go.Proofs.Ytohkpcgekoipbaa
open Go.RowKit CM Go.Sort
set_option linter.unusedVariables false

theorem encStr_unB (xs : List ByteArray) : (xs.map unB).map encStr = (xs.map strCs).flatten := by
  induction xs with
  | nil => rfl
  | cons a l ih =>
    simp only [List.map_cons, List.flatten_cons, ih]
    rfl
theorem encStr_toB (ts : List (List UInt8)) : ts.map encStr = ((ts.map toB).map strCs).flatten := by
  rw [← encStr_unB, List.map_map, List.map_map]
  rfl
theorem compact_le (zs : List (List UInt8)) : (Lib.compact zs).length ≤ zs.length := by
  unfold Lib.compact Lib.compactUpTo
  rw [List.length_map]
  exact Nat.le_trans (List.length_filter_le _ _) (by simp)

/-- Sorting a row of the call's own. -/
theorem sort_own {w : World} {lo c : Nat} {A : Option Addr} {xs : List ByteArray} (h : OwnS w lo w.heap.size A c xs) (hlo : lo ≤ w.heap.size) (hl : xs.length ≤ 1000) :
    Calls Try.prog 38 #[.slice A xs.length c] w fun e w' => e = .returned (.tuple #[]) ∧ OwnS w' lo w'.heap.size A c ((sortK xs).map toB) ∧ Below lo w w' := by
  rcases h with ⟨h0, rfl, rfl⟩ | ⟨g, cur, rfl, h1, h2, h3, h4, h5, h6, h7⟩
  · rw [List.map_eq_nil_iff] at h0
    subst h0
    refine (Try.slices_Sort_string_none none 0 w).mono ?_
    rintro e w' ⟨rfl, rfl⟩
    exact ⟨rfl, .inl ⟨by simp [sortK], rfl, rfl⟩, Below.refl _ _⟩
  · rw [List.length_map] at h4
    have hrow : w.ownsRow lo 9 1 (.slice (some ⟨g, 0, none⟩) xs.length c) xs.length ((xs.map strCs).flatten) := by
      have := Own.toRow (w := w) (lo := lo) (hi := w.heap.size) (t := 9) (sz := 1) (A := some ⟨g, 0, none⟩) (cap := c) (L := xs.map strCs) (.inr ⟨g, cur, rfl, h1, h2, h3, by simpa using h4, h5, h6, h7⟩) (strCs_len _) (by decide)
      rwa [List.length_map] at this
    have ht : cur.toList.take (xs.map unB).length = (xs.map unB).map encStr := by
      rcases hrow.2 with ⟨h', _⟩ | ⟨g', cap', cur', h', _, hh, _, _, _, ht⟩
      · cases h'
      · injection h' with e1 e2 e3
        injection e1 with e1
        injection e1 with e1
        subst e1
        rw [h3] at hh
        simp only [Option.some.injEq, Obj.cells.injEq, and_true] at hh
        rw [hh, encStr_unB, List.length_map, ← ht, Nat.mul_one]
    have hH := holds_of_block h3 ht
    have hs := Try.slices_Sort_string g 0 c (xs.map unB) w hH h2 (by rw [List.length_map]; omega)
    rw [List.length_map] at hs
    refine hs.mono ?_
    rintro e w' ⟨rfl, n, os, rfl⟩
    have ho := ownsRow_sorted (n := n) (os := os) (ts := sortK xs) (ss := xs.map unB) (by rw [sortK_len, List.length_map]) h1 h3 (by rw [List.length_map]; exact h4) h5 h6
    have hg := grownBy_sorted (w := w) (g := g) (n := n) (os := os) (sortK xs).toArray
    rw [encStr_toB, List.length_map] at ho
    refine ⟨rfl, ?_, (Below.refl lo w).grown hg hlo (fun k hk => by injection hk with hk; omega)⟩
    exact own_of_lies (L := ((sortK xs).map toB).map strCs) (n := xs.length) ho (strCs_len _) (by decide) (Nat.lt_of_lt_of_le h2 hg.size) (by simp [sortK_len])

/-- Leaving out the repeats of a row of the call's own. -/
theorem compact_own {w : World} {lo c : Nat} {A : Option Addr} {zs : List (List UInt8)} (h : OwnS w lo w.heap.size A c (zs.map toB)) (hlo : lo ≤ w.heap.size) (hl : zs.length ≤ 1000) :
    Calls Try.prog 39 #[.slice A zs.length c] w fun e w' => e = .returned (.slice A (Lib.compact zs).length c) ∧ OwnS w' lo w'.heap.size A c ((Lib.compact zs).map toB) ∧ Below lo w w' := by
  rcases h with ⟨h0, rfl, rfl⟩ | ⟨g, cur, rfl, h1, h2, h3, h4, h5, h6, h7⟩
  · rw [List.map_eq_nil_iff, List.map_eq_nil_iff] at h0
    subst h0
    refine (Try.slices_Compact_string_empty none 0 w).mono ?_
    rintro e w' ⟨rfl, rfl⟩
    exact ⟨rfl, .inl ⟨by simp [Lib.compact, Lib.compactUpTo], rfl, rfl⟩, Below.refl _ _⟩
  · rw [List.length_map, List.length_map] at h4
    have hrow : w.ownsRow lo 9 1 (.slice (some ⟨g, 0, none⟩) zs.length c) zs.length (((zs.map toB).map strCs).flatten) := by
      have := Own.toRow (w := w) (lo := lo) (hi := w.heap.size) (t := 9) (sz := 1) (A := some ⟨g, 0, none⟩) (cap := c) (L := (zs.map toB).map strCs) (.inr ⟨g, cur, rfl, h1, h2, h3, by simpa using h4, h5, h6, h7⟩) (strCs_len _) (by decide)
      rwa [List.length_map, List.length_map] at this
    have ht : cur.toList.take zs.length = zs.map encStr := by
      rcases hrow.2 with ⟨h', _⟩ | ⟨g', cap', cur', h', _, hh, _, _, _, ht⟩
      · cases h'
      · injection h' with e1 e2 e3
        injection e1 with e1
        injection e1 with e1
        subst e1
        rw [h3] at hh
        simp only [Option.some.injEq, Obj.cells.injEq, and_true] at hh
        rw [hh, encStr_toB, ← ht, Nat.mul_one]
    have hH := holds_of_block h3 ht
    have hs := Try.slices_Compact_string g 0 c zs w hH (by omega) h4
    refine hs.mono ?_
    rintro e w' ⟨rfl, q, rfl⟩
    have hcl := compact_le zs
    obtain ⟨ts, hts⟩ : ∃ ts, ts = Lib.compact zs ++ List.replicate (zs.length - (Lib.compact zs).length) [] := ⟨_, rfl⟩
    have htl : ts.length = zs.length := by rw [hts]; simp; omega
    have ho := ownsRow_sorted (n := q) (os := #[]) (ts := ts) (ss := zs) htl h1 h3 h4 h5 h6
    have hg := grownBy_sorted (w := w) (g := g) (n := q) (os := #[]) ts.toArray
    rw [← hts]
    rw [grow_empty] at ho hg
    rw [encStr_toB] at ho
    refine ⟨rfl, ?_, (Below.refl lo w).grown hg hlo (fun k hk => by injection hk with hk; omega)⟩
    have h8 := own_of_lies (L := (ts.map toB).map strCs) (n := zs.length) ho (strCs_len _) (by decide) (Nat.lt_of_lt_of_le h2 hg.size) (by simp [htl])
    rcases h8 with ⟨h9, _, h10⟩ | ⟨g', cur', hA, k1, k2, k3, k4, k5, k6, k7⟩
    · have : zs.length = 0 := by
        have := congrArg List.length h9
        simp [htl] at this
        exact List.length_eq_zero_iff.2 this
      exact .inr ⟨g, _, rfl, h1, Nat.lt_of_lt_of_le h2 hg.size, by simpa using heap_sorted (n := q) (os := #[]) ts.toArray h3, by simp; omega, h5, by simp [putCells, h6], fun j hj i hi => by simp at hj; omega⟩
    · refine .inr ⟨g', cur', hA, k1, k2, k3, ?_, k5, k6, fun j hj i hi => ?_⟩
      · simp; omega
      · have hj1 : j < (Lib.compact zs).length := by simpa using hj
        have hj2 : j < ((ts.map toB).map strCs).length := by simp [htl]; omega
        rw [k7 j hj2 i hi]
        simp only [List.getElem_map]
        congr 3
        simp only [hts]
        rw [List.getElem_append_left hj1]
end Go.Proofs.Ytohkpcgekoipbaa
