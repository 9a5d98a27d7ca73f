/-
  The builtin copy for elements of any size, and the contract of copyVers.
-/
import Derived.Test.YtpppgihoekfmoaaTo
import Derived.Laws.CopyOwn
namespace Go.Proofs.Ytpppgihoekfmoaa
open Go Go.RowKit
set_option linter.unusedVariables false

theorem run_copy_sz {P : Program} (w : World) (dT sT ty elem : TypeId) (g o dLen dCap s : Nat) (a : Addr) (sLen sCap : Nat) (cur : Array Value) (t : TypeId) (cs : List Value)
    (hu : P.underlying dT = some (.slice elem)) (hs : (P.info? elem).map (·.size) = some s)
    (hg : w.heap[g]? = some (.cells cur t (0, 0))) (hn : cs.length = Nat.min sLen dLen * s)
    (hsrc : ∀ j v, cs[j]? = some v → w.cell? (a.add j) = some v) (hfit : o + cs.length ≤ cur.size) (h1 : ∀ v ∈ cs, v.oneCell' = true) :
    (Builtin.copy_ #[dT, sT] ty #[.slice (some ⟨g, o, none⟩) dLen dCap, .slice (some a) sLen sCap]).run P w =
      .ok (goInt (Nat.min sLen dLen)) (w.setRow g (cur.toList.take o ++ cs ++ cur.toList.drop (o + cs.length)).toArray) := by
  have hl := run_loadCells_list (P := P) w a cs hsrc
  have hst := run_storeCells_at P g o t cs 0 cur w hg (by simpa using hfit) h1
  cases hq : P.info? elem with
  | none => simp [hq] at hs
  | some i =>
    have hi : i.size = s := by simpa [hq] using hs
    simp [Builtin.copy_, run_underlying hu, Builtin.lenOf, Builtin.firstCells, sizeOf, typeInfo, hq, hi, ← hn, hl, hst]
theorem verCs_one (vs : List (Int × ByteArray × Bool)) : ∀ u ∈ (vs.map verCs).flatten, u.oneCell' = true := by
  intro u hu
  obtain ⟨l, hl, hu⟩ := List.mem_flatten.1 hu
  obtain ⟨v, _, rfl⟩ := List.mem_map.1 hl
  simp [verCs] at hu
  rcases hu with rfl | rfl | rfl <;> rfl
/-- The cells of a row, in their order. -/
theorem row_src {w : World} {B sz : Nat} {b off : Nat} {L : List (List Value)} (h : RowB w B (some ⟨b, off, none⟩) sz L) (hL : ∀ x ∈ L, x.length = sz) (hsz : 0 < sz) : ∀ j v, L.flatten[j]? = some v → w.cell? ((⟨b, off, none⟩ : Addr).add j) = some v := by
  intro j v hj
  have hadd : (⟨b, off, none⟩ : Addr).add j = ⟨b, off + j, none⟩ := by unfold Addr.add; split <;> simp_all
  rw [hadd]
  rcases h with rfl | ⟨b', o', hA, _, hc⟩
  · simp at hj
  · injection hA with hA
    injection hA with e1 e2
    subst e1 e2
    have hlt : j < L.length * sz := by
      have := (List.getElem?_eq_some_iff.1 hj).1
      rwa [flat_len hL] at this
    have hd : j / sz < L.length := (Nat.div_lt_iff_lt_mul hsz).2 hlt
    have e : j / sz * sz + j % sz = j := by rw [Nat.mul_comm]; exact Nat.div_add_mod j sz
    have e1 := hc (j / sz) hd (j % sz) (Nat.mod_lt _ hsz)
    have e2 := flat_at hL (j / sz) hd (j % sz) (Nat.mod_lt _ hsz)
    rw [Nat.add_assoc, e] at e1
    rw [e] at e2
    rw [e1, ← e2, hj]

/-- What a copy onto a new row of the same length leaves. -/
theorem copy_new {P : Program} {w w1 : World} {n c sz b off : Nat} {dT sT ty elem : TypeId} {L : List (List Value)} {B : Nat} (hf : Fill w1 w.heap.size n sz elem [] 0) (hb1 : Below w.heap.size w w1) (hLn : L.length = n) (hL : ∀ x ∈ L, x.length = sz) (hsz : 0 < sz) (hone : ∀ u ∈ L.flatten, u.oneCell' = true)
    (hu : P.underlying dT = some (.slice elem)) (hs : (P.info? elem).map (·.size) = some sz) (h : RowB w B (some ⟨b, off, none⟩) sz L) (hB : B ≤ w.heap.size) (hm : n ≤ maxLen) :
    ∃ w2, (Builtin.copy_ #[dT, sT] ty #[.slice (some ⟨w.heap.size, 0, none⟩) n n, .slice (some ⟨b, off, none⟩) n c]).run P w1 = .ok (.int .i64 (n : Int)) w2 ∧ Own w2 w.heap.size w2.heap.size elem sz (some ⟨w.heap.size, 0, none⟩) n L ∧ Below w.heap.size w w2 := by
  obtain ⟨cur, hh, hcs, _⟩ := hf
  have hfl : L.flatten.length = n * sz := by rw [flat_len hL, hLn]
  have hsrc := row_src (h.below (hb1.mono hB)) hL hsz
  have hrun := run_copy_sz (P := P) w1 dT sT ty elem w.heap.size 0 n n sz ⟨b, off, none⟩ n c cur elem L.flatten hu hs hh (by rw [hfl, show Nat.min n n = n from Nat.min_self n]) hsrc (by rw [hfl, hcs]; omega) hone
  have e : (cur.toList.take 0 ++ L.flatten ++ cur.toList.drop (0 + L.flatten.length)).toArray = L.flatten.toArray := by
    rw [List.drop_of_length_le (by rw [hfl, Array.length_toList, hcs]; omega)]
    simp
  rw [e, show Nat.min n n = n from Nat.min_self n] at hrun
  have hb2 := below_setRow hb1 (Nat.le_refl _) L.flatten.toArray
  have hh2 := setRow_heap w1 w.heap.size cur L.flatten.toArray elem (0, 0) hh
  refine ⟨_, hrun, ?_, hb2⟩
  refine .inr ⟨w.heap.size, L.flatten.toArray, rfl, Nat.le_refl _, lt_blk hh2, hh2, by omega, hm, by rw [List.size_toArray, hfl], fun j hj i hi => ?_⟩
  rw [List.getElem?_toArray]
  exact flat_at hL j hj i hi

end Go.Proofs.Ytpppgihoekfmoaa
