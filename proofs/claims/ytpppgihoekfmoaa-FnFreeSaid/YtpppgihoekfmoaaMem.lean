/-
  Versions, writes and cells in memory: what reads as a list; what a call owns, in blocks of its own.
-/
import Derived.Test.YtpppgihoekfmoaaTools
import Derived.Test.YtpppgihoekfmoaaSizes
namespace Go.Proofs.Ytpppgihoekfmoaa
open Go.RowKit
set_option linter.unusedVariables false

def verCs (v : (Int × ByteArray × Bool)) : List Value := [.int .i64 v.1, .string v.2.1, .bool v.2.2]
def wrCs (x : (ByteArray × ByteArray × Bool)) : List Value := [.string x.1, .string x.2.1, .bool x.2.2]
def cellCs (h : (ByteArray × Option Addr × Nat × List (Int × ByteArray × Bool))) : List Value := [.string h.1, .slice h.2.1 h.2.2.2.length h.2.2.1]

/-- A slice whose elements are the listed cells, sz cells each, in a block below B: empty, or cells at an address. -/
def RowB (w : World) (B : Nat) (A : Option Addr) (sz : Nat) (L : List (List Value)) : Prop :=
  L = [] ∨ ∃ b off, A = some ⟨b, off, none⟩ ∧ b < B ∧ ∀ k (h : k < L.length) i, i < sz → w.cell? ⟨b, off + k * sz + i, none⟩ = L[k][i]?
theorem RowB.below {w w' : World} {B : Nat} {A : Option Addr} {sz : Nat} {L : List (List Value)} (h : RowB w B A sz L) (hb : Below B w w') : RowB w' B A sz L := by
  rcases h with h | ⟨b, off, hA, hlt, hc⟩
  · exact .inl h
  · exact .inr ⟨b, off, hA, hlt, fun k hk i hi => (hb.cell (p := ⟨b, off + k * sz + i, none⟩) hlt).trans (hc k hk i hi)⟩
theorem RowB.mono {w : World} {B B' : Nat} {A : Option Addr} {sz : Nat} {L : List (List Value)} (h : RowB w B A sz L) (hB : B ≤ B') : RowB w B' A sz L := by
  rcases h with h | ⟨b, off, hA, hlt, hc⟩
  · exact .inl h
  · exact .inr ⟨b, off, hA, Nat.lt_of_lt_of_le hlt hB, hc⟩
theorem RowAt.toB {w : World} {A : Option Addr} {sz : Nat} {L : List (List Value)} (h : RowAt w A sz L) : RowB w w.heap.size A sz L := h

def VersB (w : World) (B : Nat) (A : Option Addr) (vs : List (Int × ByteArray × Bool)) : Prop := RowB w B A 3 (vs.map verCs)
def WritesB (w : World) (B : Nat) (A : Option Addr) (ws : List (ByteArray × ByteArray × Bool)) : Prop := RowB w B A 3 (ws.map wrCs)
def CellsB (w : World) (B : Nat) (A : Option Addr) (hs : List (ByteArray × Option Addr × Nat × List (Int × ByteArray × Bool))) : Prop := RowB w B A 2 (hs.map cellCs) ∧ ∀ h ∈ hs, VersB w B h.2.1 h.2.2.2
def WritesAt (w : World) (A : Option Addr) (ws : List (ByteArray × ByteArray × Bool)) : Prop := WritesB w w.heap.size A ws ∧ WMax ws
def CellsAt (w : World) (A : Option Addr) (hs : List (ByteArray × Option Addr × Nat × List (Int × ByteArray × Bool))) : Prop := CellsB w w.heap.size A hs ∧ HMax hs

section
variable {w w' : World} {B B' : Nat} {A : Option Addr} {vs : List (Int × ByteArray × Bool)} {ws : List (ByteArray × ByteArray × Bool)} {hs : List (ByteArray × Option Addr × Nat × List (Int × ByteArray × Bool))}
theorem VersB.below (h : VersB w B A vs) (hb : Below B w w') : VersB w' B A vs := RowB.below h hb
theorem WritesB.below (h : WritesB w B A ws) (hb : Below B w w') : WritesB w' B A ws := RowB.below h hb
theorem CellsB.below (h : CellsB w B A hs) (hb : Below B w w') : CellsB w' B A hs := ⟨h.1.below hb, fun x hx => (h.2 x hx).below hb⟩
theorem VersB.mono (h : VersB w B A vs) (hB : B ≤ B') : VersB w B' A vs := RowB.mono h hB
theorem WritesB.mono (h : WritesB w B A ws) (hB : B ≤ B') : WritesB w B' A ws := RowB.mono h hB
theorem CellsB.mono (h : CellsB w B A hs) (hB : B ≤ B') : CellsB w B' A hs := ⟨h.1.mono hB, fun x hx => (h.2 x hx).mono hB⟩
/-- The cells of the elements, where there is one. -/
theorem VersB.get (h : VersB w B A vs) (hn : 0 < vs.length) : ∃ b off, A = some ⟨b, off, none⟩ ∧ b < B ∧ ∀ k (h : k < vs.length), w.cell? ⟨b, off + k * 3, none⟩ = some (.int .i64 vs[k].1) ∧ w.cell? ⟨b, off + k * 3 + 1, none⟩ = some (.string vs[k].2.1) ∧ w.cell? ⟨b, off + k * 3 + 2, none⟩ = some (.bool vs[k].2.2) := by
  rcases h with h | ⟨b, off, hA, hlt, hc⟩
  · rw [List.map_eq_nil_iff] at h; subst h; simp at hn
  · refine ⟨b, off, hA, hlt, fun k hk => ?_⟩
    have hk' : k < (vs.map verCs).length := by simpa using hk
    have h0 := hc k hk' 0 (by omega)
    have h1 := hc k hk' 1 (by omega)
    have h2 := hc k hk' 2 (by omega)
    simp only [List.getElem_map] at h0 h1 h2
    exact ⟨h0, h1, h2⟩
theorem WritesB.get (h : WritesB w B A ws) (hn : 0 < ws.length) : ∃ b off, A = some ⟨b, off, none⟩ ∧ b < B ∧ ∀ k (h : k < ws.length), w.cell? ⟨b, off + k * 3, none⟩ = some (.string ws[k].1) ∧ w.cell? ⟨b, off + k * 3 + 1, none⟩ = some (.string ws[k].2.1) ∧ w.cell? ⟨b, off + k * 3 + 2, none⟩ = some (.bool ws[k].2.2) := by
  rcases h with h | ⟨b, off, hA, hlt, hc⟩
  · rw [List.map_eq_nil_iff] at h; subst h; simp at hn
  · refine ⟨b, off, hA, hlt, fun k hk => ?_⟩
    have hk' : k < (ws.map wrCs).length := by simpa using hk
    have h0 := hc k hk' 0 (by omega)
    have h1 := hc k hk' 1 (by omega)
    have h2 := hc k hk' 2 (by omega)
    simp only [List.getElem_map] at h0 h1 h2
    exact ⟨h0, h1, h2⟩
theorem CellsB.get (h : CellsB w B A hs) (hn : 0 < hs.length) : ∃ b off, A = some ⟨b, off, none⟩ ∧ b < B ∧ ∀ k (h : k < hs.length), w.cell? ⟨b, off + k * 2, none⟩ = some (.string hs[k].1) ∧ w.cell? ⟨b, off + k * 2 + 1, none⟩ = some (.slice hs[k].2.1 hs[k].2.2.2.length hs[k].2.2.1) := by
  rcases h.1 with h | ⟨b, off, hA, hlt, hc⟩
  · rw [List.map_eq_nil_iff] at h; subst h; simp at hn
  · refine ⟨b, off, hA, hlt, fun k hk => ?_⟩
    have hk' : k < (hs.map cellCs).length := by simpa using hk
    have h0 := hc k hk' 0 (by omega)
    have h1 := hc k hk' 1 (by omega)
    simp only [List.getElem_map] at h0 h1
    exact ⟨h0, h1⟩
theorem CellsB.vers (h : CellsB w B A hs) (k : Nat) (hk : k < hs.length) : VersB w B hs[k].2.1 hs[k].2.2.2 := h.2 _ (List.getElem_mem hk)
end

/-! ### What a call owns -/
/-- A slice over a block of its own between lo and hi, of elements of type t that take sz cells each: nil, or from the block's start on. -/
def Own (w : World) (lo hi : Nat) (t : TypeId) (sz : Nat) (A : Option Addr) (cap : Nat) (L : List (List Value)) : Prop :=
  (L = [] ∧ A = none ∧ cap = 0) ∨ ∃ (g : Nat) (cur : Array Value), A = some ⟨g, 0, none⟩ ∧ lo ≤ g ∧ g < hi ∧ w.heap[g]? = some (.cells cur t (0, 0)) ∧ L.length ≤ cap ∧ cap ≤ maxLen ∧ cur.size = cap * sz ∧ ∀ j (h : j < L.length) i, i < sz → cur[j * sz + i]? = L[j][i]?
/-- Only blocks from lo to hi are written; new ones may come. -/
def Mid (lo hi : Nat) (w w' : World) : Prop :=
  w'.os = w.os ∧ w'.tape = w.tape ∧ w'.output = w.output ∧ w.heap.size ≤ w'.heap.size ∧ ∀ k, k < w.heap.size → (k < lo ∨ hi ≤ k) → w'.heap[k]? = w.heap[k]?

section
variable {w w' w1 w2 : World} {lo hi lo' hi' : Nat} {t : TypeId} {sz cap : Nat} {A : Option Addr} {L : List (List Value)}
theorem Mid.refl (lo hi : Nat) (w : World) : Mid lo hi w w := ⟨rfl, rfl, rfl, Nat.le_refl _, fun _ _ _ => rfl⟩
theorem Mid.trans (h : Mid lo hi w w1) (k : Mid lo hi w1 w2) : Mid lo hi w w2 :=
  ⟨k.1.trans h.1, k.2.1.trans h.2.1, k.2.2.1.trans h.2.2.1, Nat.le_trans h.2.2.2.1 k.2.2.2.1, fun i hi hr => (k.2.2.2.2 i (Nat.lt_of_lt_of_le hi h.2.2.2.1) hr).trans (h.2.2.2.2 i hi hr)⟩
theorem Mid.below (h : Mid lo hi w w') (hl : lo ≤ w.heap.size) : Below lo w w' := ⟨h.1, h.2.1, h.2.2.1, h.2.2.2.1, fun k hk => h.2.2.2.2 k (by omega) (.inl hk)⟩
theorem Below.mid (h : Below w.heap.size w w') : Mid lo hi w w' := ⟨h.os, h.tape, h.output, h.size, fun k hk _ => h.block k hk⟩
theorem Mid.set (h : Mid lo hi w w1) {p : Addr} (hp : lo ≤ p.block ∧ p.block < hi) (u : Value) : Mid lo hi w (w1.setCell p u) :=
  h.trans ⟨rfl, rfl, rfl, by simp [World.setCell], fun k hk hr => Below.heap_setCell _ _ _ _ (by omega)⟩
theorem Own.below (h : Own w lo hi t sz A cap L) (hb : Below hi w w') : Own w' lo hi t sz A cap L := by
  rcases h with h | ⟨g, cur, hA, h1, h2, h3, h4⟩
  · exact .inl h
  · exact .inr ⟨g, cur, hA, h1, h2, (hb.block g h2).trans h3, h4⟩
theorem Own.mid (h : Own w lo hi t sz A cap L) (hm : Mid lo' hi' w w') (hd : hi' ≤ lo ∨ hi ≤ lo') : Own w' lo hi t sz A cap L := by
  rcases h with h | ⟨g, cur, hA, h1, h2, h3, h4⟩
  · exact .inl h
  · exact .inr ⟨g, cur, hA, h1, h2, (hm.2.2.2.2 g (lt_blk h3) (by omega)).trans h3, h4⟩
theorem Own.wider (h : Own w lo hi t sz A cap L) (h1 : lo' ≤ lo) (h2 : hi ≤ hi') : Own w lo' hi' t sz A cap L := by
  rcases h with h | ⟨g, cur, hA, h3, h4, h5⟩
  · exact .inl h
  · exact .inr ⟨g, cur, hA, by omega, by omega, h5⟩
theorem Own.row (h : Own w lo hi t sz A cap L) : RowB w hi A sz L := by
  rcases h with ⟨h, _⟩ | ⟨g, cur, hA, h1, h2, h3, h4, h5, h6, h7⟩
  · exact .inl h
  · refine .inr ⟨g, 0, hA, h2, fun k hk i hi' => ?_⟩
    rw [cell_of_row w g _ cur t (0, 0) h3, Nat.zero_add]
    exact h7 k hk i hi'
/-- The block of a row that is not empty. -/
theorem Own.form (h : Own w lo hi t sz A cap L) (hn : 0 < L.length) : ∃ (g : Nat) (cur : Array Value), A = some ⟨g, 0, none⟩ ∧ lo ≤ g ∧ g < hi ∧ w.heap[g]? = some (.cells cur t (0, 0)) ∧ L.length ≤ cap ∧ cur.size = cap * sz := by
  rcases h with ⟨h, _⟩ | ⟨g, cur, hA, h1, h2, h3, h4, h5, h6, h7⟩
  · subst h; simp at hn
  · exact ⟨g, cur, hA, h1, h2, h3, h4, h6⟩
/-- A store of one cell of element j. -/
theorem Own.put {g : Nat} (h : Own w lo hi t sz (some ⟨g, 0, none⟩) cap L) (j i : Nat) (hj : j < L.length) (hi' : i < sz) (hl : L[j].length = sz) (u : Value) :
    Own (w.setCell ⟨g, j * sz + i, none⟩ u) lo hi t sz (some ⟨g, 0, none⟩) cap (L.set j (L[j].set i u)) := by
  rcases h with ⟨_, h, _⟩ | ⟨g', cur, hA, h1, h2, h3, h4, h5, h6, h7⟩
  · cases h
  · injection hA with hA
    injection hA with hg
    subst hg
    refine .inr ⟨g, cur.setIfInBounds (j * sz + i) u, rfl, h1, h2, ?_, by simpa using h4, h5, by simpa using h6, fun k hk q hq => ?_⟩
    · simp [World.setCell, Array.getElem?_modify, h3]
    · have hkL : k < L.length := by simpa using hk
      have hbnd : j * sz + i < cap * sz := fill_idx j sz cap i (by omega) hi'
      by_cases hkj : k = j
      · subst hkj
        simp only [List.getElem_set_self]
        by_cases hqi : q = i
        · subst hqi
          rw [Array.getElem?_setIfInBounds_self_of_lt (by omega), List.getElem?_set_self (by omega)]
        · rw [Array.getElem?_setIfInBounds_ne (by omega), List.getElem?_set_ne (by omega)]
          exact h7 k hkL q hq
      · rw [List.getElem_set_ne (by omega)]
        have hne : j * sz + i ≠ k * sz + q := by
          rcases Nat.lt_or_ge k j with hlt | hge
          · have h8 : (k + 1) * sz ≤ j * sz := Nat.mul_le_mul_right _ hlt
            rw [Nat.add_mul, Nat.one_mul] at h8
            omega
          · have h8 : (j + 1) * sz ≤ k * sz := Nat.mul_le_mul_right _ (by omega)
            rw [Nat.add_mul, Nat.one_mul] at h8
            omega
        rw [Array.getElem?_setIfInBounds_ne hne]
        exact h7 k hkL q hq
/-- A store into another block. -/
theorem Own.other (h : Own w lo hi t sz A cap L) {p : Addr} (hp : ∀ x, A = some x → x.block ≠ p.block) (u : Value) : Own (w.setCell p u) lo hi t sz A cap L := by
  rcases h with h | ⟨g, cur, hA, h1, h2, h3, h4⟩
  · exact .inl h
  · exact .inr ⟨g, cur, hA, h1, h2, (Below.heap_setCell _ _ _ _ (hp _ hA)).trans h3, h4⟩
/-- A store into a block of another type. -/
theorem Own.otherT (h : Own w lo hi t sz A cap L) {p : Addr} {t' : TypeId} {cur' : Array Value} {fz : Nat × Nat} (hp : w.heap[p.block]? = some (.cells cur' t' fz)) (hne : t ≠ t') (u : Value) : Own (w.setCell p u) lo hi t sz A cap L := by
  rcases h with h | ⟨g, cur, hA, h1, h2, h3, h4⟩
  · exact .inl h
  · refine .inr ⟨g, cur, hA, h1, h2, (Below.heap_setCell _ _ _ _ (fun e => ?_)).trans h3, h4⟩
    subst e
    rw [h3] at hp
    simp only [Option.some.injEq, Obj.cells.injEq] at hp
    exact hne hp.2.1
theorem Own.block (h : Own w lo hi t sz A cap L) (x : Addr) (hx : A = some x) : lo ≤ x.block ∧ x.block < hi ∧ ∃ cur, w.heap[x.block]? = some (.cells cur t (0, 0)) := by
  rcases h with ⟨_, h, _⟩ | ⟨g, cur, hA, h1, h2, h3, h4⟩
  · rw [h] at hx; cases hx
  · rw [hA] at hx; injection hx with hx; subst hx; exact ⟨h1, h2, cur, h3⟩
/-- A filled block. -/
theorem Fill.own {g n : Nat} (h : Fill w g n sz t L L.length) (hn : L.length = n) (hm : n ≤ maxLen) (h1 : lo ≤ g) (h2 : g < hi) : Own w lo hi t sz (some ⟨g, 0, none⟩) n L := by
  obtain ⟨cur, hh, hs, hc⟩ := h
  exact .inr ⟨g, cur, rfl, h1, h2, hh, by omega, hm, hs, fun j hj i hi' => hc j hj hj i hi'⟩
/-- To the library's own word for such a row, and back. -/
theorem flat_len (hL : ∀ x ∈ L, x.length = sz) : L.flatten.length = L.length * sz := by
  induction L with
  | nil => simp
  | cons a l ih => rw [List.flatten_cons, List.length_append, ih fun x hx => hL x (List.mem_cons_of_mem _ hx), hL a (by simp), List.length_cons, Nat.add_mul]; omega
theorem flat_at (hL : ∀ x ∈ L, x.length = sz) (k : Nat) (hk : k < L.length) (i : Nat) (hi' : i < sz) : L.flatten[k * sz + i]? = L[k][i]? := by
  induction L generalizing k with
  | nil => simp at hk
  | cons a l ih =>
    have ha := hL a (by simp)
    cases k with
    | zero =>
      rw [List.flatten_cons, Nat.zero_mul, Nat.zero_add, List.getElem?_append_left (by omega)]
      rfl
    | succ k =>
      rw [List.flatten_cons, List.getElem?_append_right (by rw [ha, Nat.add_mul, Nat.one_mul]; omega), ha]
      have e2 : (k + 1) * sz + i - sz = k * sz + i := by rw [Nat.add_mul, Nat.one_mul]; omega
      rw [e2]
      exact ih (fun x hx => hL x (List.mem_cons_of_mem _ hx)) k (by simpa using hk)
theorem Own.toRow (h : Own w lo hi t sz A cap L) (hL : ∀ x ∈ L, x.length = sz) (hsz : 0 < sz) : w.ownsRow lo t sz (.slice A L.length cap) L.length L.flatten := by
  refine ⟨flat_len hL, ?_⟩
  rcases h with ⟨rfl, rfl, rfl⟩ | ⟨g, cur, rfl, h1, h2, h3, h4, h5, h6, h7⟩
  · exact .inl ⟨rfl, rfl⟩
  · refine .inr ⟨g, cap, cur, rfl, h1, h3, h4, h5, h6, ?_⟩
    have hle : L.length * sz ≤ cur.size := by rw [h6]; exact Nat.mul_le_mul_right _ h4
    refine List.ext_getElem? fun m => ?_
    by_cases hm : m < L.length * sz
    · rw [List.getElem?_take_of_lt hm, Array.getElem?_toList]
      have hd : m / sz < L.length := (Nat.div_lt_iff_lt_mul hsz).2 hm
      have e : m / sz * sz + m % sz = m := by rw [Nat.mul_comm]; exact Nat.div_add_mod m sz
      have e1 := h7 (m / sz) hd (m % sz) (Nat.mod_lt _ hsz)
      have e2 := flat_at hL (m / sz) hd (m % sz) (Nat.mod_lt _ hsz)
      rw [e] at e1 e2
      rw [e1, e2]
    · rw [List.getElem?_eq_none (by rw [List.length_take]; omega), List.getElem?_eq_none (by rw [flat_len hL]; omega)]
theorem Own.ofRow {n : Nat} {v : Value} (h : w.ownsRow lo t sz v n L.flatten) (hL : ∀ x ∈ L, x.length = sz) (hsz : 0 < sz) (hhi : ∀ k, v.ownBlock = some k → k < hi) : ∃ A cap, v = .slice A L.length cap ∧ L.length = n ∧ Own w lo hi t sz A cap L := by
  have hn : L.length = n := by
    have h1 := h.1
    rw [flat_len hL] at h1
    exact Nat.eq_of_mul_eq_mul_right hsz h1
  rcases h.2 with ⟨rfl, h0⟩ | ⟨g, cap, cur, rfl, hb, hh, hle, hm, hs, ht⟩
  · exact ⟨none, 0, by rw [hn, h0], hn, .inl ⟨List.eq_nil_of_length_eq_zero (by omega), rfl, rfl⟩⟩
  · refine ⟨_, cap, by rw [hn], hn, .inr ⟨g, cur, rfl, hb, hhi g rfl, hh, by omega, hm, hs, fun k hk i hi' => ?_⟩⟩
    have hidx : k * sz + i < n * sz := fill_idx k sz n i (by omega) hi'
    rw [← flat_at hL k hk i hi', ← ht, List.getElem?_take_of_lt hidx, Array.getElem?_toList]
end

section
variable {w w' : World} {lo hi lo' hi' : Nat} {hs : List (ByteArray × Option Addr × Nat × List (Int × ByteArray × Bool))}
end
section
variable {w w' : World} {lo hi lo' hi' cap : Nat} {A : Option Addr} {hs : List (ByteArray × Option Addr × Nat × List (Int × ByteArray × Bool))} {ws : List (ByteArray × ByteArray × Bool)}
theorem verCs_len (vs : List (Int × ByteArray × Bool)) : ∀ x ∈ vs.map verCs, x.length = 3 := by
  intro x hx; obtain ⟨v, _, rfl⟩ := List.mem_map.1 hx; rfl
theorem wrCs_len (ws : List (ByteArray × ByteArray × Bool)) : ∀ x ∈ ws.map wrCs, x.length = 3 := by
  intro x hx; obtain ⟨v, _, rfl⟩ := List.mem_map.1 hx; rfl
theorem cellCs_len (hs : List (ByteArray × Option Addr × Nat × List (Int × ByteArray × Bool))) : ∀ x ∈ hs.map cellCs, x.length = 2 := by
  intro x hx; obtain ⟨v, _, rfl⟩ := List.mem_map.1 hx; rfl
end
end Go.Proofs.Ytpppgihoekfmoaa
