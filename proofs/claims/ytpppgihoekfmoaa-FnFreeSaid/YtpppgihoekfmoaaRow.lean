/-
  Rows of cells, read and filled: a slice whose elements take several cells each. General: no number of the seat.
-/
import Derived.Test.YtpppgihoekfmoaaCur
namespace Go.Proofs.Ytpppgihoekfmoaa
open Go.RowKit
set_option linter.unusedVariables false

/-- A slice whose elements are the listed cells, sz cells each: empty, or cells at an address. -/
def RowAt (w : World) (A : Option Addr) (sz : Nat) (L : List (List Value)) : Prop :=
  L = [] ∨ ∃ b off, A = some ⟨b, off, none⟩ ∧ b < w.heap.size ∧ ∀ k (h : k < L.length) i, i < sz → w.cell? ⟨b, off + k * sz + i, none⟩ = L[k][i]?
theorem RowAt.below {w w' : World} {A : Option Addr} {sz : Nat} {L : List (List Value)} (h : RowAt w A sz L) (hb : Below w.heap.size w w') : RowAt w' A sz L := by
  rcases h with h | ⟨b, off, hA, hlt, hc⟩
  · exact .inl h
  · exact .inr ⟨b, off, hA, Nat.lt_of_lt_of_le hlt hb.size, fun k hk i hi => (hb.cell (p := ⟨b, off + k * sz + i, none⟩) hlt).trans (hc k hk i hi)⟩
theorem RowAt.drewN {w : World} {A : Option Addr} {sz : Nat} {L : List (List Value)} (h : RowAt w A sz L) (n : Nat) : RowAt (w.drewN n) A sz L := h

theorem cell_blk {w : World} {k i : Nat} {cs : Array Value} {t : TypeId} {v : Value} (h : w.heap[k]? = some (.cells cs t (0, 0))) (hv : cs[i]? = some v) : w.cell? ⟨k, i, none⟩ = some v := (cell_of_row w k i cs t (0, 0) h).trans hv
theorem free_blk {w : World} {k : Nat} {cs : Array Value} {t : TypeId} (h : w.heap[k]? = some (.cells cs t (0, 0))) (i : Nat) : w.frozen? ⟨k, i, none⟩ = false := by simp [World.frozen?, h]
theorem lt_blk {w : World} {k : Nat} {o : Obj} (h : w.heap[k]? = some o) : k < w.heap.size := (Array.getElem?_eq_some_iff.1 h).1

/-- A block of n elements of sz cells, of which the first k are those of the list. -/
def Fill (w : World) (g n sz : Nat) (t : TypeId) (L : List (List Value)) (k : Nat) : Prop :=
  ∃ cur : Array Value, w.heap[g]? = some (.cells cur t (0, 0)) ∧ cur.size = n * sz ∧ ∀ j (h : j < L.length), j < k → ∀ i, i < sz → cur[j * sz + i]? = L[j][i]?
section
variable {w w' : World} {g n sz k : Nat} {t : TypeId} {L : List (List Value)}
theorem Fill.lt (h : Fill w g n sz t L k) : g < w.heap.size := by obtain ⟨cur, hh, _⟩ := h; exact lt_blk hh
theorem Fill.cell (h : Fill w g n sz t L k) (j : Nat) (hj : j < n * sz) : ∃ v, w.cell? ⟨g, j, none⟩ = some v := by
  obtain ⟨cur, hh, hs, _⟩ := h
  exact ⟨cur[j], by rw [cell_of_row w g j cur t (0, 0) hh]; exact Array.getElem?_eq_getElem (by omega)⟩
theorem Fill.free (h : Fill w g n sz t L k) (j : Nat) : w.frozen? ⟨g, j, none⟩ = false := by
  obtain ⟨cur, hh, _, _⟩ := h
  simp [World.frozen?, hh]
theorem Fill.below (h : Fill w g n sz t L k) (hb : Below w.heap.size w w') : Fill w' g n sz t L k := by
  obtain ⟨cur, hh, hs, hc⟩ := h
  exact ⟨cur, (hb.block g (lt_blk hh)).trans hh, hs, hc⟩
theorem Fill.belowB {B : Nat} (h : Fill w g n sz t L k) (hb : Below B w w') (hg : g < B) : Fill w' g n sz t L k := by
  obtain ⟨cur, hh, hs, hc⟩ := h
  exact ⟨cur, (hb.block g hg).trans hh, hs, hc⟩
theorem Fill.row (h : Fill w g n sz t L L.length) : RowAt w (some ⟨g, 0, none⟩) sz L := by
  obtain ⟨cur, hh, hs, hc⟩ := h
  refine .inr ⟨g, 0, rfl, lt_blk hh, fun k hk i hi => ?_⟩
  rw [cell_of_row w g _ cur t (0, 0) hh, Nat.zero_add]
  exact hc k hk hk i hi
/-- A store of one cell of element k. -/
theorem Fill.put (h : Fill w g n sz t L k) (i : Nat) (v : Value) (hi : i < sz) : Fill (w.setCell ⟨g, k * sz + i, none⟩ v) g n sz t L k := by
  obtain ⟨cur, hh, hs, hc⟩ := h
  refine ⟨cur.setIfInBounds (k * sz + i) v, ?_, by simp [hs], fun j hj hjk i' hi' => ?_⟩
  · simp [World.setCell, Array.getElem?_modify, hh]
  · have hne : k * sz + i ≠ j * sz + i' := by
      have h1 : (j + 1) * sz ≤ k * sz := Nat.mul_le_mul_right _ hjk
      rw [Nat.add_mul, Nat.one_mul] at h1
      omega
    rw [Array.getElem?_setIfInBounds_ne hne]
    exact hc j hj hjk i' hi'
end
theorem fill_idx (k sz n i : Nat) (hk : k < n) (hi : i < sz) : k * sz + i < n * sz := by
  have h1 : (k + 1) * sz ≤ n * sz := Nat.mul_le_mul_right _ hk
  rw [Nat.add_mul, Nat.one_mul] at h1
  omega
/-- Two cells of element k stored: the list has one element more. -/
theorem Fill.snoc2 {w : World} {g n : Nat} {t : TypeId} {L : List (List Value)} {u v : Value} (h : Fill w g n 2 t L L.length) (hk : L.length < n) :
    Fill ((w.setCell ⟨g, L.length * 2, none⟩ u).setCell ⟨g, L.length * 2 + 1, none⟩ v) g n 2 t (L ++ [[u, v]]) (L ++ [[u, v]]).length := by
  obtain ⟨cur, hh, hs, hc⟩ := h
  refine ⟨(cur.setIfInBounds (L.length * 2) u).setIfInBounds (L.length * 2 + 1) v, ?_, by simp [hs], fun j hj hjk i hi => ?_⟩
  · simp [World.setCell, Array.getElem?_modify, hh]
  · rcases Nat.lt_or_ge j L.length with h1 | h1
    · rw [Array.getElem?_setIfInBounds_ne (by omega), Array.getElem?_setIfInBounds_ne (by omega), List.getElem_append_left h1]
      exact hc j h1 h1 i hi
    · have hjl : j = L.length := by simp at hj; omega
      subst hjl
      have hi' : i = 0 ∨ i = 1 := by omega
      rcases hi' with rfl | rfl
      · rw [Array.getElem?_setIfInBounds_ne (by omega), Nat.add_zero, Array.getElem?_setIfInBounds_self_of_lt (by omega)]
        simp
      · rw [Array.getElem?_setIfInBounds_self_of_lt (by simp; omega)]
        simp
/-- Three cells of element k stored: the list has one element more. -/
theorem Fill.snoc3 {w : World} {g n : Nat} {t : TypeId} {L : List (List Value)} {u v x : Value} (h : Fill w g n 3 t L L.length) (hk : L.length < n) :
    Fill (((w.setCell ⟨g, L.length * 3, none⟩ u).setCell ⟨g, L.length * 3 + 1, none⟩ v).setCell ⟨g, L.length * 3 + 2, none⟩ x) g n 3 t (L ++ [[u, v, x]]) (L ++ [[u, v, x]]).length := by
  obtain ⟨cur, hh, hs, hc⟩ := h
  refine ⟨((cur.setIfInBounds (L.length * 3) u).setIfInBounds (L.length * 3 + 1) v).setIfInBounds (L.length * 3 + 2) x, ?_, by simp [hs], fun j hj hjk i hi => ?_⟩
  · simp [World.setCell, Array.getElem?_modify, hh]
  · rcases Nat.lt_or_ge j L.length with h1 | h1
    · rw [Array.getElem?_setIfInBounds_ne (by omega), Array.getElem?_setIfInBounds_ne (by omega), Array.getElem?_setIfInBounds_ne (by omega), List.getElem_append_left h1]
      exact hc j h1 h1 i hi
    · have hjl : j = L.length := by simp at hj; omega
      subst hjl
      have hi' : i = 0 ∨ i = 1 ∨ i = 2 := by omega
      rcases hi' with rfl | rfl | rfl
      · rw [Array.getElem?_setIfInBounds_ne (by omega), Array.getElem?_setIfInBounds_ne (by omega), Nat.add_zero, Array.getElem?_setIfInBounds_self_of_lt (by omega)]
        simp
      · rw [Array.getElem?_setIfInBounds_ne (by omega), Array.getElem?_setIfInBounds_self_of_lt (by simp; omega)]
        simp
      · rw [Array.getElem?_setIfInBounds_self_of_lt (by simp; omega)]
        simp
/-- A row that 'make' has made. -/
theorem fill_made {w w' : World} {n sz : Nat} {t : TypeId} {z : Value} (hz : 0 < sz) (h : w'.ownsRow w.heap.size t sz (.slice (some ⟨w.heap.size, 0, none⟩) n n) n (madeCells z.cells (n * sz)).toList) : Fill w' w.heap.size n sz t [] 0 := by
  rcases h.2 with ⟨h', _⟩ | ⟨g, cap, cur, h', _, hh, _, _, hs, _⟩
  · simp at h'
  · simp only [Value.slice.injEq, Option.some.injEq, Addr.mk.injEq, and_true, true_and] at h'
    obtain ⟨rfl, rfl⟩ := h'
    exact ⟨cur, hh, by omega, fun j hj => by simp at hj⟩

theorem below1 (w : World) (o : Obj) : Below w.heap.size w (w.alloc o) := (Below.refl _ _).alloc (Nat.le_refl _) o
theorem below2 (w : World) (o p : Obj) : Below w.heap.size w ((w.alloc o).alloc p) := (below1 w o).alloc (by simp) p
theorem below3 (w : World) (o p q : Obj) : Below w.heap.size w (((w.alloc o).alloc p).alloc q) := (below2 w o p).alloc (by simp; omega) q
theorem bcell {W w1 : World} (hb : Below W.heap.size W w1) : (∀ b o, b < W.heap.size → w1.cell? ⟨b, o, none⟩ = W.cell? ⟨b, o, none⟩) ∧ (∀ b o, b < W.heap.size → w1.frozen? ⟨b, o, none⟩ = W.frozen? ⟨b, o, none⟩) :=
  ⟨fun b o h => hb.cell (p := ⟨b, o, none⟩) h, fun b o h => hb.frozen (p := ⟨b, o, none⟩) h⟩
theorem kept2 {W w1 : World} (hb : Below W.heap.size W w1) {b o : Nat} {v : Value} (h : W.cell? ⟨b, o, none⟩ = some v) (hlt : b < W.heap.size) : w1.cell? ⟨b, o, none⟩ = some v :=
  (hb.cell (p := ⟨b, o, none⟩) hlt).trans h
theorem ret_bool {a b : Bool} (h : a = b) : Ending.returned (.bool a) = .returned (.bool b) := by rw [h]
end Go.Proofs.Ytpppgihoekfmoaa
