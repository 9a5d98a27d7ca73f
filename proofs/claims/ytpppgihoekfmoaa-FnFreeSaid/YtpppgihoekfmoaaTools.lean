/-
  Tools for drawing functions and for the laws' head: what stores and new blocks leave of a cursor and of the world; a new cursor; an owned row under a cursor's writes; big.
-/
import Derived.Test.YtpppgihoekfmoaaRow
namespace Go.Proofs.Ytpppgihoekfmoaa
open Go.RowKit
set_option linter.unusedVariables false

theorem grown_setNew {w w1 : World} {row : Option Nat} (h : w.grownBy w1 row) {p : Addr} (hp : w.heap.size ≤ p.block) (u : Value) : w.grownBy (w1.setCell p u) row :=
  ⟨h.os, h.tape, h.output, by have := h.size; simpa [World.setCell] using this, fun k hk hr => (Below.heap_setCell _ _ _ _ (fun e => by omega)).trans (h.block k hk hr)⟩
theorem grown_alloc {w w1 : World} {row : Option Nat} (h : w.grownBy w1 row) (o : Obj) : w.grownBy (w1.alloc o) row := grown_trans h (World.grownBy_alloc w1 o row)
theorem Cur.setNew {w : World} {g c q : Nat} {l : List UInt8} {A : Option Addr} (h : Cur w g l A c q) {p : Addr} (hp : g < p.block) (u : Value) : Cur (w.setCell p u) g l A c q :=
  h.belowB ((Below.refl (g + 1) w).setCell (by omega) u) (by omega)
theorem Cur.allocated {w : World} {g c q : Nat} {l : List UInt8} {A : Option Addr} (h : Cur w g l A c q) (o : Obj) : Cur (w.alloc o) g l A c q :=
  h.below ((Below.refl _ _).alloc (Nat.le_refl _) o)
/-- A block that is not the cursor's stands as it was. -/
theorem block_kept {w w1 : World} {g k : Nat} {o : Obj} (hG : w.grownBy w1 (some g)) (h : w.heap[k]? = some o) (hk : k ≠ g) : w1.heap[k]? = some o := by
  have hlt : k < w.heap.size := (Array.getElem?_eq_some_iff.1 h).1
  rw [hG.block k hlt (by simp; omega)]
  exact h
theorem StepPost.from {w w1 w' : World} {g : Nat} {l : List UInt8} {A : Option Addr} {c q q1 d d1 : Nat} {lo hi : Int} {e : Ending} (h : StepPost w1 g l A c q1 d lo hi e w') (hg : w.grownBy w1 (some g)) (hq : q1 + d ≤ q + d1) : StepPost w g l A c q d1 lo hi e w' := by
  obtain ⟨t, q', h0, h1, he, hq', hC, hG⟩ := h
  exact ⟨t, q', h0, h1, he, by omega, hC, grown_trans hg hG⟩
/-- A new cursor's block. -/
def curBlk (A : Option Addr) (n c : Nat) : Obj := .cells #[.slice A n c, .int .i64 ((0 : Nat) : Int), .int .u64 0] 71
theorem cur_new' (w : World) (g : Nat) (l : List UInt8) (A : Option Addr) (c n : Nat) (h : BytesAt w A l) (hg : g = w.heap.size) (hn : l.length = n) : Cur (w.alloc (curBlk A n c)) g l A c 0 := by
  subst hg hn
  exact cur_new w l A c h

section
variable {w w1 w2 : World} {g base n : Nat} {v : Value} {xs : List Value} {e : TypeId} {o : Obj} {size : Nat}
theorem own_kept (h : w1.ownsRow base e size v n xs) (hb : g < base) (hg : w1.grownBy w2 (some g)) : w2.ownsRow base e size v n xs := by
  refine h.kept hg ?_
  right
  intro hv
  have := (h.lt g hv).1
  omega
theorem grown_app (hG : w.grownBy w1 (some g)) (h : w1.ownsRow w.heap.size e size v n xs) (hg : (w1.alloc o).grownBy w2 v.ownBlock) : w.grownBy w2 (some g) := by
  refine ⟨hg.os.trans hG.os, hg.tape.trans hG.tape, hg.output.trans hG.output, ?_, fun k hk hr => ?_⟩
  · have h1 := hG.size
    have h2 := hg.size
    simp at h2
    omega
  · have h1 := hG.size
    have hne : some k ≠ v.ownBlock := fun e => by have := (h.lt k e.symm).1; omega
    rw [hg.block k (by simp; omega) hne, Below.heap_alloc w1 o k (by omega), hG.block k hk hr]
/-- An owned row of elements of sz cells reads as the list of its elements' cells. -/
theorem own_row {L : List (List Value)} (h : w.ownsRow base e size v n L.flatten) (hL : ∀ x ∈ L, x.length = size) (hsz : 0 < size) : ∃ A c, v = .slice A n c ∧ RowAt w A size L := by
  have hlen : L.flatten.length = L.length * size := by
    clear h
    induction L with
    | nil => simp
    | cons a l ih => rw [List.flatten_cons, List.length_append, ih fun x hx => hL x (List.mem_cons_of_mem _ hx), hL a (by simp), List.length_cons, Nat.add_mul]; omega
  have hn : L.length = n := by
    have h1 := h.1
    rw [hlen] at h1
    exact Nat.eq_of_mul_eq_mul_right hsz h1
  rcases h.2 with ⟨rfl, h0⟩ | ⟨g, cap, cur, rfl, _, hh, hle, _, hs, ht⟩
  · refine ⟨none, 0, by rw [h0], .inl (List.eq_nil_of_length_eq_zero (by omega))⟩
  · refine ⟨_, _, rfl, .inr ⟨g, 0, rfl, lt_blk hh, fun k hk i hi => ?_⟩⟩
    rw [cell_of_row w g _ cur e (0, 0) hh, Nat.zero_add]
    have hidx : k * size + i < n * size := fill_idx k size n i (by omega) hi
    have e1 : cur[k * size + i]? = L.flatten[k * size + i]? := by
      rw [← ht, List.getElem?_take_of_lt hidx, Array.getElem?_toList]
    rw [e1]
    clear e1 ht hh hidx hlen hn h hle hs
    induction L generalizing k with
    | nil => simp at hk
    | cons a l ih =>
      have ha := hL a (by simp)
      cases k with
      | zero =>
        rw [List.flatten_cons, Nat.zero_mul, Nat.zero_add, List.getElem?_append_left (by omega)]
        rfl
      | succ k =>
        rw [List.flatten_cons, List.getElem?_append_right (by rw [ha, Nat.add_mul, Nat.one_mul]; omega), ha]
        have e2 : (k + 1) * size + i - size = k * size + i := by rw [Nat.add_mul, Nat.one_mul]; omega
        rw [e2]
        exact ih (fun x hx => hL x (List.mem_cons_of_mem _ hx)) k (by simpa using hk)
end

end Go.Proofs.Ytpppgihoekfmoaa
