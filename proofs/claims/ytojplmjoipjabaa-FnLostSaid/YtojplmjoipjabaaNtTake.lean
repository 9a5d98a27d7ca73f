/-
  The contract of takeLetters: letters taken out of a net's queue through a pointer.
-/
import Derived.Test.YtojplmjoipjabaaNtAddM
import Derived.Laws.CopyOwn
namespace Go.Proofs.Ytojplmjoipjabaa.Nt
open Go Go.RowKit
set_option linter.unusedVariables false
set_option linter.unusedSimpArgs false

theorem run_clear_L {P : Program} (w : World) (t e ty : TypeId) (z : Value) (ht : P.underlying t = some (.slice e)) (hv : ∀ w, (zeroValue e).run P w = .ok z w) (g o n c : Nat) (cur : List Value) (et : TypeId) (hg : w.heap[g]? = some (.cells cur.toArray et (0, 0))) (hn : 0 < n)
    (hfit : o + (Builtin.zeroCells z.cells n).toList.length ≤ cur.length) (h1 : ∀ v ∈ (Builtin.zeroCells z.cells n).toList, v.oneCell' = true) :
    (Builtin.clear_ #[t] ty #[.slice (some ⟨g, o, none⟩) n c]).run P w = .ok (.tuple #[]) (w.setRow g (spl cur o (Builtin.zeroCells z.cells n).toList).toArray) := by
  have hst := run_storeCells_at P g o et (Builtin.zeroCells z.cells n).toList 0 cur.toArray w hg (by simpa using hfit) h1
  obtain ⟨m, rfl⟩ : ∃ m, n = m + 1 := ⟨n - 1, by omega⟩
  simp only [Nat.add_zero] at hst
  simp [Builtin.clear_, run_underlying ht, hv, hst, spl]
theorem run_clear_0 {P : Program} (w : World) (t e ty : TypeId) (ht : P.underlying t = some (.slice e)) (a : Option Addr) (c : Nat) :
    (Builtin.clear_ #[t] ty #[.slice a 0 c]).run P w = .ok (.tuple #[]) w := by
  cases a <;> simp [Builtin.clear_, run_underlying ht]
theorem spl_head {l x : List Value} {o : Nat} (h : o ≤ l.length) : (spl l o x).take o = l.take o := by
  unfold spl
  rw [List.append_assoc, List.take_append_of_le_length (by rw [List.length_take]; omega), List.take_take, Nat.min_self]
theorem zero_size (z : Value) (k s : Nat) (h : z.cells.size = s) : (Builtin.zeroCells z.cells k).toList.length = k * s := by
  simp [Builtin.zeroCells, h]
theorem zero_one (k : Nat) : ∀ v ∈ (Builtin.zeroCells (Value.agg #[Value.int .i64 0, Value.int .i64 0, Value.int .i64 0, Value.string ⟨#[]⟩]).cells k).toList, v.oneCell' = true := by
  intro v hv
  simp [Builtin.zeroCells, Value.cells] at hv
  obtain ⟨a, ha, rfl⟩ := hv
  have h4 : a % 4 = 0 ∨ a % 4 = 1 ∨ a % 4 = 2 ∨ a % 4 = 3 := by omega
  rcases h4 with h | h | h | h <;> rw [h] <;> rfl

/-- What the copy over the letters taken out leaves of the row. -/
theorem take_copy {w1 : World} {gr n c lo hi i j : Nat} {ls : List (Int × Int × Int × ByteArray)} (ho : OwnL w1 lo hi (some ⟨gr, 0, none⟩) c ls) (hn : ls.length = n) (hij : i ≤ j) (hjn : j ≤ n) :
    ∃ C1 : List Value, C1.length = c * 4 ∧ C1.take ((i + (n - j)) * 4) = ((ls.take i ++ ls.drop j).map ltCs).flatten ∧ n ≤ c ∧ c ≤ maxLen ∧ lo ≤ gr ∧ gr < hi ∧ (∃ cur, w1.heap[gr]? = some (.cells cur 66 (0, 0))) ∧ ∀ (W : World), W.heap = w1.heap → ∀ (ty : TypeId) (dc sc od os : Nat), (od = i * 4 ∨ n = i) → od ≤ c * 4 → (os = j * 4 ∨ n = j) →
      (Builtin.copy_ #[33, 33] ty #[.slice (some ⟨gr, od, none⟩) (n - i) dc, .slice (some ⟨gr, os, none⟩) (n - j) sc]).run Try.prog W = .ok (goInt ((n - j : Nat) : Int)) (W.setRow gr C1.toArray) := by
  obtain ⟨i0, hi0, hz0, hz1, hz2⟩ := info_parts infoLet
  have hsz : (Try.prog.info? 66).map (·.size) = some 4 := by rw [hi0]; simp [hz1]
  have hlo := Own.block ho _ rfl
  have hrow := OwnL.toR ho hn
  rcases hrow.2 with ⟨h2, _⟩ | ⟨g', cap, cur, h2, hb, hh, hnc, hm, hs, ht⟩
  · cases h2
  · injection h2 with hA _ hcc
    injection hA with hA
    injection hA with hA
    subst hA hcc
    obtain ⟨f1, f2⟩ := flat_cut ls j (by omega)
    obtain ⟨f3, f4⟩ := flat_cut ls i (by omega)
    have hlen : (((ls.drop j).map ltCs).flatten).length = (n - j) * 4 := flat_len4 _ _ (by rw [List.length_drop, hn])
    have hcl : cur.toList.length = c * 4 := by simpa using hs
    have hfit : i * 4 + (((ls.drop j).map ltCs).flatten).length ≤ cur.toList.length := by rw [hlen, hcl]; omega
    refine ⟨spl cur.toList (i * 4) (((ls.drop j).map ltCs).flatten), by rw [spl_len hfit, hcl], ?_, hnc, hm, hlo.1, hlo.2.1, ⟨cur, hh⟩, fun W hW ty dc sc od os hod hodc hos => ?_⟩
    · have e1 : cur.toList.take (i * 4) = ((ls.take i).map ltCs).flatten := by
        rw [← f3, ← ht, List.take_take, Nat.min_eq_left (by omega)]
      unfold spl
      rw [e1, flat_split]
      exact take_self_append _ _ _ (by rw [List.length_append, hlen, flat_len4 (ls.take i) i (by rw [List.length_take]; omega)]; omega)
    · have hmin : Nat.min (n - j) (n - i) = n - j := Nat.min_eq_left (by omega)
      have hsrc : ∀ k v, (((ls.drop j).map ltCs).flatten)[k]? = some v → W.cell? ((⟨gr, os, none⟩ : Addr).add k) = some v := fun k v hk => by
        have hk0 : k < (n - j) * 4 := by rw [← hlen]; exact (List.getElem?_eq_some_iff.1 hk).1
        have hos' : os = j * 4 := by rcases hos with h | h; exact h; omega
        subst hos'
        have hadd : (⟨gr, j * 4, none⟩ : Addr).add k = ⟨gr, j * 4 + k, none⟩ := by unfold Addr.add; split <;> simp_all
        rw [hadd]
        refine cell_blk (cs := cur) (by rw [hW]; exact hh) ?_
        rw [← f2, List.getElem?_drop, ← ht, List.getElem?_take] at hk
        split at hk
        · rw [← Array.getElem?_toList]; exact hk
        · cases hk
      have := run_copy_at (P := Try.prog) W 33 33 ty 66 gr od (n - i) dc 4 ⟨gr, os, none⟩ (n - j) sc cur.toList 66 (((ls.drop j).map ltCs).flatten) Try.underlying33 hsz (by rw [hW]; simpa using hh) (by rw [hlen, hmin]) hsrc (by
        rw [hlen, hcl]
        rcases hod with h | h
        · omega
        · have : n - j = 0 := by omega
          rw [this]; omega) (ltCs_one _)
      rw [this, hmin]
      rcases hod with h | h
      · subst h; rfl
      · have h0 : ((ls.drop j).map ltCs).flatten = [] := List.eq_nil_of_length_eq_zero (by rw [hlen]; omega)
        rw [h0]
        simp [spl]

/-- What taking letters out leaves. -/
def TakePost (g : Nat) (A : Option Addr) (c lo hi : Nat) (v0 v1 v2 : Value) (us ts : List (Int × Int × Int × ByteArray)) (w : World) (e : Ending) (w' : World) : Prop :=
  ∃ A2 c2, e = .returned (.slice A2 ts.length c2) ∧ OwnL w' w.heap.size w'.heap.size A2 c2 ts ∧ w'.heap[g]? = some (.cells #[v0, v1, v2, .slice A us.length c] 35 (0, 0)) ∧ OwnL w' lo hi A c us ∧ TwoA g A w w'

/-- The worlds behind the copy and behind the clearing. -/
theorem take_worlds {w1 : World} {g gr n c lo hi i j : Nat} {v0 v1 v2 : Value} {ls : List (Int × Int × Int × ByteArray)} (ho : OwnL w1 lo hi (some ⟨gr, 0, none⟩) c ls) (hn : ls.length = n) (hij : i ≤ j) (hjn : j ≤ n) (hg : w1.heap[g]? = some (.cells #[v0, v1, v2, .slice (some ⟨gr, 0, none⟩) n c] 35 (0, 0))) :
    ∃ W2 W3 : World, (∀ (ty : TypeId) (dc sc od os : Nat), (od = i * 4 ∨ n = i) → od ≤ c * 4 → (os = j * 4 ∨ n = j) →
      (Builtin.copy_ #[33, 33] ty #[.slice (some ⟨gr, od, none⟩) (n - i) dc, .slice (some ⟨gr, os, none⟩) (n - j) sc]).run Try.prog w1.drew = .ok (goInt ((n - j : Nat) : Int)) W2) ∧
      W2.cell? ⟨g, 3, none⟩ = some (.slice (some ⟨gr, 0, none⟩) n c) ∧
      (∀ (ty : TypeId) (cc oc : Nat), (oc = (i + (n - j)) * 4 ∨ i = j) → (Builtin.clear_ #[33] ty #[.slice (some ⟨gr, oc, none⟩) (j - i) cc]).run Try.prog W2 = .ok (.tuple #[]) W3) ∧
      W3.cell? ⟨g, 3, none⟩ = some (.slice (some ⟨gr, 0, none⟩) n c) ∧ W3.frozen? ⟨g, 3, none⟩ = false ∧ n ≤ c ∧ c ≤ maxLen ∧
      ((W3.setCell ⟨g, 3, none⟩ (.slice (some ⟨gr, 0, none⟩) (i + (n - j)) c)).heap[g]? = some (.cells #[v0, v1, v2, .slice (some ⟨gr, 0, none⟩) (i + (n - j)) c] 35 (0, 0)) ∧ OwnL (W3.setCell ⟨g, 3, none⟩ (.slice (some ⟨gr, 0, none⟩) (i + (n - j)) c)) lo hi (some ⟨gr, 0, none⟩) c (ls.take i ++ ls.drop j) ∧ TwoA g (some ⟨gr, 0, none⟩) w1 (W3.setCell ⟨g, 3, none⟩ (.slice (some ⟨gr, 0, none⟩) (i + (n - j)) c)) ∧ (W3.setCell ⟨g, 3, none⟩ (.slice (some ⟨gr, 0, none⟩) (i + (n - j)) c)).heap.size = w1.heap.size) := by
  obtain ⟨C1, h1, h2, hnc, hcm, hlo, hhi, ⟨cur, hh⟩, hcp⟩ := take_copy ho hn hij hjn
  have hne : g ≠ gr := fun e => by rw [e, hh] at hg; simp at hg
  have hh2 : (w1.drew.setRow gr C1.toArray).heap[gr]? = some (.cells C1.toArray 66 (0, 0)) := setRow_heap w1.drew gr cur _ _ _ hh
  have hg2 : (w1.drew.setRow gr C1.toArray).heap[g]? = some (.cells #[v0, v1, v2, .slice (some ⟨gr, 0, none⟩) n c] 35 (0, 0)) := (setRow_other w1.drew gr g _ hne).trans hg
  have hfin : ∀ (C2 : List Value) (W3 : World), C2.length = c * 4 → C2.take ((i + (n - j)) * 4) = ((ls.take i ++ ls.drop j).map ltCs).flatten → W3.heap[gr]? = some (.cells C2.toArray 66 (0, 0)) → W3.heap[g]? = some (.cells #[v0, v1, v2, .slice (some ⟨gr, 0, none⟩) n c] 35 (0, 0)) → W3.heap.size = w1.heap.size → W3.os = w1.os → W3.tape = w1.tape → W3.output = w1.output → (∀ b, b ≠ gr → W3.heap[b]? = w1.heap[b]?) →
      ((W3.setCell ⟨g, 3, none⟩ (.slice (some ⟨gr, 0, none⟩) (i + (n - j)) c)).heap[g]? = some (.cells #[v0, v1, v2, .slice (some ⟨gr, 0, none⟩) (i + (n - j)) c] 35 (0, 0)) ∧ OwnL (W3.setCell ⟨g, 3, none⟩ (.slice (some ⟨gr, 0, none⟩) (i + (n - j)) c)) lo hi (some ⟨gr, 0, none⟩) c (ls.take i ++ ls.drop j) ∧ TwoA g (some ⟨gr, 0, none⟩) w1 (W3.setCell ⟨g, 3, none⟩ (.slice (some ⟨gr, 0, none⟩) (i + (n - j)) c)) ∧ (W3.setCell ⟨g, 3, none⟩ (.slice (some ⟨gr, 0, none⟩) (i + (n - j)) c)).heap.size = w1.heap.size) := fun C2 W3 k1 k2 k3 k4 k5 k6 k7 k8 k9 => by
    refine ⟨set_blk k4, ?_, ⟨k6, k7, k8, by simp [World.setCell, k5], fun b hb hbg hbA => (Below.heap_setCell _ _ _ _ hbg).trans (k9 b (fun e => hbA _ rfl (by exact e.symm)))⟩, by simp [World.setCell, k5]⟩
    have hus : ((ls.take i ++ ls.drop j).map ltCs).length = i + (n - j) := by simp [hn]; omega
    refine .inr ⟨gr, C2.toArray, rfl, hlo, hhi, (Below.heap_setCell _ _ _ _ (Ne.symm hne)).trans k3, by rw [hus]; omega, hcm, by rw [List.size_toArray, k1], fun q hq r hr => ?_⟩
    have hlt : q * 4 + r < (i + (n - j)) * 4 := fill_idx q 4 _ r (by rw [← hus]; exact hq) hr
    rw [← flat_at (ltCs_len _) q hq r hr, ← k2, List.getElem?_take_of_lt hlt, List.getElem?_toArray]
  have hW0 : ∀ b, b ≠ gr → (w1.drew.setRow gr C1.toArray).heap[b]? = w1.heap[b]? := fun b hb => setRow_other w1.drew gr b _ hb
  have hsz : (w1.drew.setRow gr C1.toArray).heap.size = w1.heap.size := by rw [setRow_size]; rfl
  by_cases he : i = j
  · refine ⟨w1.drew.setRow gr C1.toArray, w1.drew.setRow gr C1.toArray, fun ty dc sc od os a b d => hcp w1.drew rfl ty dc sc od os a b d, cell_of_row _ _ 3 _ 35 (0, 0) hg2, fun ty cc oc _ => ?_, cell_of_row _ _ 3 _ 35 (0, 0) hg2, free_blk hg2 3, hnc, hcm, hfin C1 _ h1 h2 hh2 hg2 hsz rfl rfl rfl hW0⟩
    rw [show j - i = 0 by omega]
    exact run_clear_0 _ _ 66 ty Try.underlying33 _ _
  · have hz : ((Builtin.zeroCells (Value.agg #[Value.int .i64 0, Value.int .i64 0, Value.int .i64 0, Value.string ⟨#[]⟩]).cells (j - i)).toList).length = (j - i) * 4 := zero_size _ _ 4 (by rfl)
    have hfit : (i + (n - j)) * 4 + ((Builtin.zeroCells (Value.agg #[Value.int .i64 0, Value.int .i64 0, Value.int .i64 0, Value.string ⟨#[]⟩]).cells (j - i)).toList).length ≤ C1.length := by rw [hz, h1]; omega
    have hh3 := setRow_heap (w1.drew.setRow gr C1.toArray) gr C1.toArray (spl C1 ((i + (n - j)) * 4) (Builtin.zeroCells (Value.agg #[Value.int .i64 0, Value.int .i64 0, Value.int .i64 0, Value.string ⟨#[]⟩]).cells (j - i)).toList).toArray _ _ hh2
    have hg3 := (setRow_other (w1.drew.setRow gr C1.toArray) gr g (spl C1 ((i + (n - j)) * 4) (Builtin.zeroCells (Value.agg #[Value.int .i64 0, Value.int .i64 0, Value.int .i64 0, Value.string ⟨#[]⟩]).cells (j - i)).toList).toArray hne).trans hg2
    refine ⟨w1.drew.setRow gr C1.toArray, (w1.drew.setRow gr C1.toArray).setRow gr (spl C1 ((i + (n - j)) * 4) (Builtin.zeroCells (Value.agg #[Value.int .i64 0, Value.int .i64 0, Value.int .i64 0, Value.string ⟨#[]⟩]).cells (j - i)).toList).toArray, fun ty dc sc od os a b d => hcp w1.drew rfl ty dc sc od os a b d, cell_of_row _ _ 3 _ 35 (0, 0) hg2, fun ty cc oc hoc => ?_, cell_of_row _ _ 3 _ 35 (0, 0) hg3, free_blk hg3 3, hnc, hcm, hfin _ _ ?_ ?_ hh3 hg3 ?_ rfl rfl rfl (fun b hb => (setRow_other _ gr b _ hb).trans (hW0 b hb))⟩
    · rcases hoc with h | h
      · subst h
        exact run_clear_L (P := Try.prog) _ 33 66 ty _ Try.underlying33 Try.zeroValue66 gr ((i + (n - j)) * 4) (j - i) cc C1 66 hh2 (by omega) hfit (zero_one _)
      · exact absurd h he
    · rw [spl_len hfit, h1]
    · rw [spl_head (by rw [h1]; omega), h2]
    · rw [setRow_size, hsz]
end Go.Proofs.Ytojplmjoipjabaa.Nt
