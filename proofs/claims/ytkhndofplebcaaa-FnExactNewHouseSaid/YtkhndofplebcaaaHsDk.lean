/-
  Disks in memory: what reads as a list; what a call owns.
-/
import Derived.Test.YtkhndofplebcaaaMark
import Derived.Test.YtkhndofplebcaaaApp
namespace Go.Proofs.Ytkhndofplebcaaa.Hs
open Go.RowKit
set_option linter.unusedVariables false
set_option linter.unusedSimpArgs false

/-- A disk as data: its bytes, and those that are not flushed. -/
abbrev DK := ByteArray × ByteArray
def dkCs (x : DK) : List Value := [.string x.1, .string x.2]
theorem dkCs_len (ls : List DK) : ∀ x ∈ ls.map dkCs, x.length = 2 := by
  intro x hx; obtain ⟨v, _, rfl⟩ := List.mem_map.1 hx; rfl
theorem dkCs_one (ls : List DK) : ∀ u ∈ (ls.map dkCs).flatten, u.oneCell' = true := by
  intro u hu
  obtain ⟨l, hl, hu⟩ := List.mem_flatten.1 hu
  obtain ⟨v, _, rfl⟩ := List.mem_map.1 hl
  simp [dkCs] at hu
  rcases hu with rfl | rfl <;> rfl
theorem infoDk : (Try.prog.info? 135).map (fun i => (i.zero, i.size, i.bytes)) = some (some (.agg #[.string ⟨#[]⟩, .string ⟨#[]⟩]), 2, 32) := by kernel_rfl
def DksB (w : World) (B : Nat) (A : Option Addr) (ls : List DK) : Prop := RowB w B A 2 (ls.map dkCs)
def OwnD (w : World) (lo hi : Nat) (A : Option Addr) (cap : Nat) (ls : List DK) : Prop := Own w lo hi 135 2 A cap (ls.map dkCs)
section
variable {w w' : World} {B B' lo hi lo' hi' cap : Nat} {A A' : Option Addr} {ls : List DK}
theorem DksB.below (h : DksB w B A ls) (hb : Below B w w') : DksB w' B A ls := RowB.below h hb
theorem DksB.mono (h : DksB w B A ls) (hB : B ≤ B') : DksB w B' A ls := RowB.mono h hB
theorem OwnD.below (h : OwnD w lo hi A cap ls) (hb : Below hi w w') : OwnD w' lo hi A cap ls := Own.below h hb
theorem OwnD.wider (h : OwnD w lo hi A cap ls) (h1 : lo' ≤ lo) (h2 : hi ≤ hi') : OwnD w lo' hi' A cap ls := Own.wider h h1 h2
theorem OwnD.mid (h : OwnD w lo hi A cap ls) (hm : Mid lo' hi' w w') (hd : hi' ≤ lo ∨ hi ≤ lo') : OwnD w' lo hi A cap ls := Own.mid h hm hd
theorem OwnD.dks (h : OwnD w lo hi A cap ls) : DksB w hi A ls := Own.row h
theorem OwnD.since (h : OwnD w lo hi A cap ls) (hb : Below w.heap.size w w') : OwnD w' lo hi A cap ls := by
  rcases h with h | ⟨g, cur, hA, h1, h2, h3, h4⟩
  · exact .inl h
  · exact .inr ⟨g, cur, hA, h1, h2, (hb.block g (lt_blk h3)).trans h3, h4⟩
theorem OwnD.other {p : Addr} (h : OwnD w lo hi A cap ls) (hp : p.block < lo ∨ hi ≤ p.block) (u : Value) : OwnD (w.setCell p u) lo hi A cap ls := Own.other h (fun x hx e => by have := Own.block h x hx; omega) u
theorem DksB.get (h : DksB w B A ls) (hn : 0 < ls.length) : ∃ b off, A = some ⟨b, off, none⟩ ∧ b < B ∧ ∀ k (h : k < ls.length), w.cell? ⟨b, off + k * 2, none⟩ = some (.string ls[k].1) ∧ w.cell? ⟨b, off + k * 2 + 1, none⟩ = some (.string ls[k].2) := by
  rcases h with h | ⟨b, off, hA, hlt, hc⟩
  · rw [List.map_eq_nil_iff] at h; subst h; simp at hn
  · refine ⟨b, off, hA, hlt, fun k hk => ?_⟩
    have hk' : k < (ls.map dkCs).length := by simpa using hk
    have h0 := hc k hk' 0 (by omega)
    have h1 := hc k hk' 1 (by omega)
    simp only [List.getElem_map] at h0 h1
    exact ⟨h0, h1⟩
end
section
variable {w : World} {g n k : Nat} {t : TypeId}
theorem Fill.snocDk {ls : List DK} (h : Fill w g n 2 t ((ls.take k).map dkCs) k) (hk : k < ls.length) (hn : k < n) :
    Fill ((w.setCell ⟨g, k * 2, none⟩ (.string ls[k].1)).setCell ⟨g, k * 2 + 1, none⟩ (.string ls[k].2)) g n 2 t ((ls.take (k + 1)).map dkCs) (k + 1) := by
  have hl : ((ls.take k).map dkCs).length = k := by simp; omega
  have e : (ls.take (k + 1)).map dkCs = (ls.take k).map dkCs ++ [[.string ls[k].1, .string ls[k].2]] := by
    rw [List.take_succ_eq_append_getElem hk, List.map_append]
    rfl
  have h1 := Fill.snoc2 (u := .string ls[k].1) (v := .string ls[k].2) (L := (ls.take k).map dkCs) (by rw [hl]; exact h) (by omega)
  rw [hl] at h1
  rw [e]
  have hl2 : ((ls.take k).map dkCs ++ [[Value.string ls[k].1, .string ls[k].2]]).length = k + 1 := by rw [List.length_append, hl]; rfl
  rw [hl2] at h1
  exact h1
end
/-! ### Sizes and marks -/
def DMax (ls : List DK) : Prop := ls.length ≤ maxLen ∧ ∀ x ∈ ls, x.1.size ≤ maxLen ∧ x.2.size ≤ maxLen
def szDs (ls : List DK) : Nat := ls.length + (ls.map fun x => x.1.size + x.2.size).sum
def mDk (q : Nat) : DK := (mark q, mark (q + 1))
def mDks (k n : Nat) : List DK := (List.range n).map fun i => mDk (k + 2 * i)
def mFlatD (k n : Nat) : List Value := ((mDks k n).map dkCs).flatten
theorem mDks_len (k n : Nat) : (mDks k n).length = n := by simp [mDks]
theorem mDks_at (k n j : Nat) (h : j < (mDks k n).length) : (mDks k n)[j] = mDk (k + 2 * j) := by simp [mDks]
theorem mFlatD_succ (k j q : Nat) (hq : q = k + 2 * j) : mFlatD k (j + 1) = mFlatD k j ++ [.string (mark q)] ++ [.string (mark (q + 1))] := by
  subst hq
  unfold mFlatD mDks
  rw [List.range_succ, List.map_append, List.map_append, List.flatten_append]
  simp [mDk, dkCs]
theorem mFlatD_len (k j : Nat) : (mFlatD k j).length = j * 2 := by
  unfold mFlatD
  induction j with
  | zero => rfl
  | succ j ih =>
    have h1 := mFlatD_succ k j _ rfl
    unfold mFlatD at h1
    rw [h1, List.length_append, List.length_append, ih]
    simp; omega
end Go.Proofs.Ytkhndofplebcaaa.Hs
