/-
  Contracts for the laws' helpers markVerS, markWriteS, markCellS: what is owned is written over, and nothing else.
-/
import Derived.Test.YtpppgihoekfmoaaMarkText
namespace Go.Proofs.Ytpppgihoekfmoaa
open Go.RowKit
set_option linter.unusedVariables false

/-- The first cells of a block. -/
def Flat (w : World) (g N : Nat) (t : TypeId) (F : List Value) : Prop :=
  ∃ cur : Array Value, w.heap[g]? = some (.cells cur t (0, 0)) ∧ cur.size = N ∧ ∀ m (h : m < F.length), cur[m]? = some F[m]
/-- Only the block of A is written; new ones may come. -/
def MidA (A : Option Addr) (w w' : World) : Prop :=
  w'.os = w.os ∧ w'.tape = w.tape ∧ w'.output = w.output ∧ w.heap.size ≤ w'.heap.size ∧ ∀ b, b < w.heap.size → (∀ x, A = some x → x.block ≠ b) → w'.heap[b]? = w.heap[b]?
section
variable {w w' w1 w2 : World} {g N lo hi cap sz : Nat} {t : TypeId} {F : List Value} {A : Option Addr} {L : List (List Value)}
theorem Flat.lt (h : Flat w g N t F) : g < w.heap.size := by obtain ⟨cur, hh, _⟩ := h; exact lt_blk hh
theorem Flat.cell (h : Flat w g N t F) (m : Nat) (hm : m < N) : ∃ v, w.cell? ⟨g, m, none⟩ = some v := by
  obtain ⟨cur, hh, hs, _⟩ := h
  exact ⟨cur[m], by rw [cell_of_row w g m cur t (0, 0) hh]; exact Array.getElem?_eq_getElem (by omega)⟩
theorem Flat.free (h : Flat w g N t F) (m : Nat) : w.frozen? ⟨g, m, none⟩ = false := by
  obtain ⟨cur, hh, _, _⟩ := h
  simp [World.frozen?, hh]
theorem Flat.below (h : Flat w g N t F) (hb : Below w.heap.size w w') : Flat w' g N t F := by
  obtain ⟨cur, hh, hs, hc⟩ := h
  exact ⟨cur, (hb.block g (lt_blk hh)).trans hh, hs, hc⟩
theorem Flat.snoc (h : Flat w g N t F) (hk : F.length < N) (m : Nat) (hm : m = F.length) (u : Value) : Flat (w.setCell ⟨g, m, none⟩ u) g N t (F ++ [u]) := by
  obtain ⟨cur, hh, hs, hc⟩ := h
  subst hm
  refine ⟨cur.setIfInBounds F.length u, by simp [World.setCell, Array.getElem?_modify, hh], by simpa using hs, fun m hm => ?_⟩
  by_cases h1 : m = F.length
  · subst h1
    rw [Array.getElem?_setIfInBounds_self_of_lt (by omega)]
    simp
  · have h2 : m < F.length := by rw [List.length_append] at hm; simp at hm; omega
    rw [Array.getElem?_setIfInBounds_ne (by omega), List.getElem_append_left h2]
    exact hc m h2
theorem Own.flat (h : Own w lo hi t sz (some ⟨g, 0, none⟩) cap L) : Flat w g (cap * sz) t [] ∧ lo ≤ g ∧ g < hi ∧ L.length ≤ cap ∧ cap ≤ maxLen := by
  rcases h with ⟨_, h, _⟩ | ⟨g', cur, hA, h1, h2, h3, h4, h5, h6, h7⟩
  · cases h
  · injection hA with hA
    injection hA with hg
    subst hg
    exact ⟨⟨cur, h3, h6, fun m hm => by simp at hm⟩, h1, h2, h4, h5⟩
theorem Flat.own (h : Flat w g (cap * sz) t L.flatten) (hL : ∀ x ∈ L, x.length = sz) (h1 : lo ≤ g) (h2 : g < hi) (h3 : L.length ≤ cap) (h4 : cap ≤ maxLen) : Own w lo hi t sz (some ⟨g, 0, none⟩) cap L := by
  obtain ⟨cur, hh, hs, hc⟩ := h
  refine .inr ⟨g, cur, rfl, h1, h2, hh, h3, h4, hs, fun j hj i hi' => ?_⟩
  have hlt : j * sz + i < L.flatten.length := by rw [flat_len hL]; exact fill_idx j sz _ i hj hi'
  rw [hc _ hlt, ← flat_at hL j hj i hi', List.getElem?_eq_getElem hlt]
theorem MidA.refl (A : Option Addr) (w : World) : MidA A w w := ⟨rfl, rfl, rfl, Nat.le_refl _, fun _ _ _ => rfl⟩
theorem MidA.trans (h : MidA A w w1) (k : MidA A w1 w2) : MidA A w w2 :=
  ⟨k.1.trans h.1, k.2.1.trans h.2.1, k.2.2.1.trans h.2.2.1, Nat.le_trans h.2.2.2.1 k.2.2.2.1, fun b hb hx => (k.2.2.2.2 b (Nat.lt_of_lt_of_le hb h.2.2.2.1) hx).trans (h.2.2.2.2 b hb hx)⟩
theorem midA_of (h : Below w.heap.size w w') : MidA A w w' := ⟨h.os, h.tape, h.output, h.size, fun k hk _ => h.block k hk⟩
theorem MidA.set (h : MidA (some ⟨g, 0, none⟩) w w1) (m : Nat) (u : Value) : MidA (some ⟨g, 0, none⟩) w (w1.setCell ⟨g, m, none⟩ u) :=
  h.trans ⟨rfl, rfl, rfl, by simp [World.setCell], fun b hb hx => Below.heap_setCell _ _ _ _ (fun e => hx _ rfl (by exact e.symm ▸ rfl))⟩
theorem MidA.mid (h : MidA A w w') (hA : ∀ x, A = some x → lo ≤ x.block ∧ x.block < hi) : Mid lo hi w w' :=
  ⟨h.1, h.2.1, h.2.2.1, h.2.2.2.1, fun b hb hr => h.2.2.2.2 b hb fun x hx e => by have := hA x hx; omega⟩
/-- What lies in another block. -/
theorem Own.midA {A' : Option Addr} (h : Own w lo hi t sz A cap L) (hm : MidA A' w w') (hne : ∀ x y, A' = some x → A = some y → x.block ≠ y.block) : Own w' lo hi t sz A cap L := by
  rcases h with h | ⟨g, cur, hA, h1, h2, h3, h4⟩
  · exact .inl h
  · exact .inr ⟨g, cur, hA, h1, h2, (hm.2.2.2.2 g (lt_blk h3) (fun x hx => hne x _ hx hA)).trans h3, h4⟩
end

/-- What the laws write over versions and over writes. -/
def mVer (k : Nat) : (Int × ByteArray × Bool) := ((k : Int), mark (k + 1), decide (((k : Int) + 2) % 3 = 0))
def mWr (k : Nat) : (ByteArray × ByteArray × Bool) := (mark k, mark (k + 1), decide (((k : Int) + 2) % 3 = 0))
def mVers (k n : Nat) : List (Int × ByteArray × Bool) := (List.range n).map fun i => mVer (k + 3 * i)
def mWrs (k n : Nat) : List (ByteArray × ByteArray × Bool) := (List.range n).map fun i => mWr (k + 3 * i)
theorem mVers_len (k n : Nat) : (mVers k n).length = n := by simp [mVers]
theorem mWrs_len (k n : Nat) : (mWrs k n).length = n := by simp [mWrs]
def mFlat (k n : Nat) : List Value := ((mVers k n).map verCs).flatten
def mFlatW (k n : Nat) : List Value := ((mWrs k n).map wrCs).flatten
theorem mFlat_len (k n : Nat) : (mFlat k n).length = n * 3 := by
  unfold mFlat; rw [flat_len (verCs_len _), List.length_map, mVers_len]
theorem mFlatW_len (k n : Nat) : (mFlatW k n).length = n * 3 := by
  unfold mFlatW; rw [flat_len (wrCs_len _), List.length_map, mWrs_len]
theorem mFlat_succ (k n q : Nat) (hq : q = k + 3 * n) : mFlat k (n + 1) = ((mFlat k n ++ [.int .i64 (q : Int)]) ++ [.string (mark (q + 1))]) ++ [.bool (decide (((q : Int) + 2) % 3 = 0))] := by
  subst hq
  unfold mFlat mVers
  rw [List.range_succ, List.map_append, List.map_append, List.flatten_append]
  simp [mVer, verCs]
theorem mFlatW_succ (k n q : Nat) (hq : q = k + 3 * n) : mFlatW k (n + 1) = ((mFlatW k n ++ [.string (mark q)]) ++ [.string (mark (q + 1))]) ++ [.bool (decide (((q : Int) + 2) % 3 = 0))] := by
  subst hq
  unfold mFlatW mWrs
  rw [List.range_succ, List.map_append, List.map_append, List.flatten_append]
  simp [mWr, wrCs]

end Go.Proofs.Ytpppgihoekfmoaa
