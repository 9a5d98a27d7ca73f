/-
  Rows whose elements own memory of their own, at any depth: what reads as a list; what a call owns. General: no number of the seat.
-/
import Derived.Test.YtkhndofplebcaaaMark
namespace Go.Proofs.Ytkhndofplebcaaa.Gr
open Go.RowKit
set_option linter.unusedVariables false

/-- The blocks from lo to hi stand as they were. -/
def Keep (lo hi : Nat) (w w' : World) : Prop := ∀ b, lo ≤ b → b < hi → b < w.heap.size → w'.heap[b]? = w.heap[b]?
section
variable {w w' w1 w2 : World} {lo hi lo' hi' : Nat}
theorem Keep.refl (lo hi : Nat) (w : World) : Keep lo hi w w := fun _ _ _ _ => rfl
theorem Keep.trans (h : Keep lo hi w w1) (k : Keep lo hi w1 w2) (hs : w.heap.size ≤ w1.heap.size) : Keep lo hi w w2 :=
  fun b h1 h2 h3 => (k b h1 h2 (Nat.lt_of_lt_of_le h3 hs)).trans (h b h1 h2 h3)
theorem Keep.wider (h : Keep lo hi w w') (h1 : lo ≤ lo') (h2 : hi' ≤ hi) : Keep lo' hi' w w' := fun b hb1 hb2 hb3 => h b (by omega) (by omega) hb3
theorem keep_below (hb : Below hi w w') : Keep lo hi w w' := fun b _ h2 _ => hb.block b h2
theorem keep_since (hb : Below w.heap.size w w') : Keep lo hi w w' := fun b _ _ h3 => hb.block b h3
theorem keep_mid (hm : Mid lo' hi' w w') (hd : hi' ≤ lo ∨ hi ≤ lo') : Keep lo hi w w' := fun b h1 h2 h3 => hm.2.2.2.2 b h3 (by omega)
theorem keep_midA {A : Option Addr} (hm : MidA A w w') (hd : ∀ x, A = some x → x.block < lo ∨ hi ≤ x.block) : Keep lo hi w w' :=
  fun b h1 h2 h3 => hm.2.2.2.2 b h3 fun x hx e => by have := hd x hx; omega
theorem keep_set {p : Addr} (hp : p.block < lo ∨ hi ≤ p.block) (u : Value) : Keep lo hi w (w.setCell p u) := fun b h1 h2 h3 => Below.heap_setCell _ _ _ _ (by omega)
theorem keep_alloc (o : Obj) : Keep lo hi w (w.alloc o) := fun b h1 h2 h3 => Below.heap_alloc _ _ _ h3
theorem Own.keep {t : TypeId} {sz cap : Nat} {A : Option Addr} {L : List (List Value)} (h : Own w lo hi t sz A cap L) (hk : Keep lo hi w w') : Own w' lo hi t sz A cap L := by
  rcases h with h | ⟨g, cur, hA, h1, h2, h3, h4⟩
  · exact .inl h
  · exact .inr ⟨g, cur, hA, h1, h2, (hk g h1 h2 (lt_blk h3)).trans h3, h4⟩
theorem Own.keepB {t : TypeId} {sz cap : Nat} {A : Option Addr} {L : List (List Value)} (h : Own w lo hi t sz A cap L) (hk : ∀ x, A = some x → x.block < w.heap.size → w'.heap[x.block]? = w.heap[x.block]?) : Own w' lo hi t sz A cap L := by
  rcases h with h | ⟨g, cur, hA, h1, h2, h3, h4⟩
  · exact .inl h
  · exact .inr ⟨g, cur, hA, h1, h2, (hk _ hA (lt_blk h3)).trans h3, h4⟩
end

/-- A kind of elements: their cells, what reads below a bound, what is owned from lo to hi. -/
structure Kd (α : Type) where
  t : TypeId
  sz : Nat
  cs : α → List Value
  len : ∀ x, (cs x).length = sz
  rd : World → Nat → α → Prop
  ow : World → α → Prop
  lo : α → Nat
  hi : α → Nat
  rd_below : ∀ {w w' : World} {B : Nat} {x : α}, rd w B x → Below B w w' → rd w' B x
  rd_mono : ∀ {w : World} {B B' : Nat} {x : α}, rd w B x → B ≤ B' → rd w B' x
  ow_keep : ∀ {w w' : World} {x : α}, ow w x → Keep (lo x) (hi x) w w' → ow w' x
  ow_le : ∀ {w : World} {x : α}, ow w x → lo x ≤ hi x
  ow_rd : ∀ {w : World} {x : α}, ow w x → rd w (hi x) x

def RowsB {α : Type} (K : Kd α) (w : World) (B : Nat) (A : Option Addr) (xs : List α) : Prop := RowB w B A K.sz (xs.map K.cs) ∧ ∀ x ∈ xs, K.rd w B x
/-- The elements' own blocks: no two touch, none is the row's. -/
def Nst {α : Type} (K : Kd α) (w : World) (lo hi : Nat) (A : Option Addr) (xs : List α) : Prop :=
  (∀ x ∈ xs, K.ow w x ∧ lo ≤ K.lo x ∧ K.hi x ≤ hi ∧ ∀ p, A = some p → p.block < K.lo x ∨ K.hi x ≤ p.block) ∧ xs.Pairwise fun a b => K.hi a ≤ K.lo b ∨ K.hi b ≤ K.lo a
def OwnK {α : Type} (K : Kd α) (w : World) (lo hi : Nat) (A : Option Addr) (cap : Nat) (xs : List α) : Prop := Own w lo hi K.t K.sz A cap (xs.map K.cs) ∧ Nst K w lo hi A xs

section
variable {α : Type} {K : Kd α} {w w' : World} {B B' lo hi lo' hi' cap : Nat} {A : Option Addr} {xs ms rs : List α}
theorem cs_len (K : Kd α) (xs : List α) : ∀ l ∈ xs.map K.cs, l.length = K.sz := by
  intro l hl; obtain ⟨v, _, rfl⟩ := List.mem_map.1 hl; exact K.len v
theorem RowsB.below (h : RowsB K w B A xs) (hb : Below B w w') : RowsB K w' B A xs := ⟨h.1.below hb, fun x hx => K.rd_below (h.2 x hx) hb⟩
theorem RowsB.mono (h : RowsB K w B A xs) (hB : B ≤ B') : RowsB K w B' A xs := ⟨h.1.mono hB, fun x hx => K.rd_mono (h.2 x hx) hB⟩
theorem RowsB.nil : RowsB K w B A [] := ⟨.inl rfl, by simp⟩
theorem RowsB.at (h : RowsB K w B A xs) (k : Nat) (hk : k < xs.length) : K.rd w B xs[k] := h.2 _ (List.getElem_mem hk)
theorem RowsB.get (h : RowsB K w B A xs) (hn : 0 < xs.length) : ∃ b off, A = some ⟨b, off, none⟩ ∧ b < B ∧ ∀ k (h : k < xs.length) i, i < K.sz → w.cell? ⟨b, off + k * K.sz + i, none⟩ = (K.cs xs[k])[i]? := by
  rcases h.1 with h | ⟨b, off, hA, hlt, hc⟩
  · rw [List.map_eq_nil_iff] at h; subst h; simp at hn
  · refine ⟨b, off, hA, hlt, fun k hk i hi => ?_⟩
    have := hc k (by simpa using hk) i hi
    simpa only [List.getElem_map] using this
/-- A part of a row from its start. -/
theorem RowsB.take (h : RowsB K w B A xs) (n : Nat) : RowsB K w B A (xs.take n) := by
  refine ⟨?_, fun x hx => h.2 x (List.mem_of_mem_take hx)⟩
  rcases h.1 with h | ⟨b, off, hA, hlt, hc⟩
  · rw [List.map_eq_nil_iff] at h; subst h; exact .inl (by simp)
  · refine .inr ⟨b, off, hA, hlt, fun k hk i hi => ?_⟩
    have hk' : k < xs.length := by simp at hk; omega
    have h1 := hc k (by simpa using hk') i hi
    simp only [List.getElem_map, List.getElem_take] at h1 ⊢
    exact h1
theorem Nst.keep (h : Nst K w lo hi A xs) (hk : Keep lo hi w w') : Nst K w' lo hi A xs :=
  ⟨fun x hx => ⟨K.ow_keep (h.1 x hx).1 (hk.wider (h.1 x hx).2.1 (h.1 x hx).2.2.1), (h.1 x hx).2⟩, h.2⟩
theorem Nst.below (h : Nst K w lo hi A xs) (hb : Below hi w w') : Nst K w' lo hi A xs := h.keep (keep_below hb)
theorem Nst.since (h : Nst K w lo hi A xs) (hb : Below w.heap.size w w') : Nst K w' lo hi A xs := h.keep (keep_since hb)
theorem Nst.wider (h : Nst K w lo hi A xs) (h1 : lo' ≤ lo) (h2 : hi ≤ hi') : Nst K w lo' hi' A xs :=
  ⟨fun x hx => ⟨(h.1 x hx).1, Nat.le_trans h1 (h.1 x hx).2.1, Nat.le_trans (h.1 x hx).2.2.1 h2, (h.1 x hx).2.2.2⟩, h.2⟩
theorem Nst.nil : Nst K w lo hi A [] := ⟨by simp, List.Pairwise.nil⟩
/-- A store into a block below all of them. -/
theorem Nst.low (h : Nst K w lo hi A xs) {p : Addr} (hp : p.block < lo) (u : Value) : Nst K (w.setCell p u) lo hi A xs := h.keep (keep_set (.inl hp) u)
/-- Another row's address: it lies below all of them. -/
theorem Nst.addr {A' : Option Addr} (h : Nst K w lo hi A xs) (hp : ∀ p, A' = some p → p.block < lo) : Nst K w lo hi A' xs :=
  ⟨fun x hx => ⟨(h.1 x hx).1, (h.1 x hx).2.1, (h.1 x hx).2.2.1, fun p hpp => .inl (Nat.lt_of_lt_of_le (hp p hpp) (h.1 x hx).2.1)⟩, h.2⟩
/-- An element more, in newer blocks. -/
theorem Nst.snoc {m : Nat} (h : Nst K w lo m A xs) (x : α) (hx : K.ow w x) (h1 : m ≤ K.lo x) (h2 : K.hi x ≤ hi) (hlo : lo ≤ m) (hA : ∀ p, A = some p → p.block < lo) : Nst K w lo hi A (xs ++ [x]) := by
  have hle := K.ow_le hx
  refine ⟨fun y hy => ?_, List.pairwise_append.2 ⟨h.2, List.pairwise_singleton _ _, fun a ha b hb => ?_⟩⟩
  · rcases List.mem_append.1 hy with hy | hy
    · have := h.1 y hy
      exact ⟨this.1, this.2.1, by omega, this.2.2.2⟩
    · rw [List.mem_singleton.1 hy]
      exact ⟨hx, by omega, h2, fun p hp => .inl (by have := hA p hp; omega)⟩
  · rw [List.mem_singleton.1 hb]
    exact .inl (by have := (h.1 a ha).2.2.1; omega)
theorem OwnK.keep (h : OwnK K w lo hi A cap xs) (hk : Keep lo hi w w') : OwnK K w' lo hi A cap xs := ⟨Own.keep h.1 hk, h.2.keep hk⟩
theorem OwnK.below (h : OwnK K w lo hi A cap xs) (hb : Below hi w w') : OwnK K w' lo hi A cap xs := h.keep (keep_below hb)
theorem OwnK.since (h : OwnK K w lo hi A cap xs) (hb : Below w.heap.size w w') : OwnK K w' lo hi A cap xs := h.keep (keep_since hb)
theorem OwnK.mid (h : OwnK K w lo hi A cap xs) (hm : Mid lo' hi' w w') (hd : hi' ≤ lo ∨ hi ≤ lo') : OwnK K w' lo hi A cap xs := h.keep (keep_mid hm hd)
theorem OwnK.wider (h : OwnK K w lo hi A cap xs) (h1 : lo' ≤ lo) (h2 : hi ≤ hi') : OwnK K w lo' hi' A cap xs := ⟨h.1.wider h1 h2, h.2.wider h1 h2⟩
theorem OwnK.low (h : OwnK K w lo hi A cap xs) {p : Addr} (hp : p.block < lo) (u : Value) : OwnK K (w.setCell p u) lo hi A cap xs := h.keep (keep_set (.inl hp) u)
theorem OwnK.rows (h : OwnK K w lo hi A cap xs) : RowsB K w hi A xs := ⟨h.1.row, fun x hx => K.rd_mono (K.ow_rd (h.2.1 x hx).1) (h.2.1 x hx).2.2.1⟩
theorem OwnK.nil : OwnK K w lo hi none 0 [] := ⟨.inl ⟨rfl, rfl, rfl⟩, Nst.nil⟩
/-- The block of a row that is not empty. -/
theorem OwnK.form (h : OwnK K w lo hi A cap xs) (hn : 0 < xs.length) : ∃ (g : Nat) (cur : Array Value), A = some ⟨g, 0, none⟩ ∧ lo ≤ g ∧ g < hi ∧ w.heap[g]? = some (.cells cur K.t (0, 0)) ∧ xs.length ≤ cap ∧ cur.size = cap * K.sz := by
  obtain ⟨g, cur, h1, h2, h3, h4, h5, h6⟩ := h.1.form (by simpa using hn)
  exact ⟨g, cur, h1, h2, h3, h4, by simpa using h5, h6⟩
/-- A cell of an element's. -/
theorem OwnK.cell {g : Nat} (h : OwnK K w lo hi (some ⟨g, 0, none⟩) cap xs) (k : Nat) (hk : k < xs.length) (i : Nat) (hi' : i < K.sz) : w.cell? ⟨g, k * K.sz + i, none⟩ = (K.cs xs[k])[i]? := by
  obtain ⟨b, off, hA, _, hc⟩ := h.rows.get (by omega)
  injection hA with hA
  injection hA with hb ho
  subst hb ho
  have := hc k hk i hi'
  rwa [Nat.zero_add] at this
theorem OwnK.free {g : Nat} (h : OwnK K w lo hi (some ⟨g, 0, none⟩) cap xs) (hn : 0 < xs.length) (i : Nat) : w.frozen? ⟨g, i, none⟩ = false := by
  obtain ⟨g', cur, hA, _, _, hh, _⟩ := h.form hn
  injection hA with hA
  injection hA with hg
  subst hg
  simp [World.frozen?, hh]
theorem OwnK.bounds {g : Nat} (h : OwnK K w lo hi (some ⟨g, 0, none⟩) cap xs) : lo ≤ g ∧ g < hi ∧ g < w.heap.size := by
  obtain ⟨h1, h2, cur, h3⟩ := h.1.block _ rfl
  exact ⟨h1, h2, lt_blk h3⟩
theorem OwnK.room (h : OwnK K w lo hi A cap xs) (hn : 0 < xs.length) : xs.length ≤ cap := by
  obtain ⟨g', cur, hA, _, _, hh, h1, _⟩ := h.form hn
  exact h1
/-- One cell of an element stored. -/
theorem OwnK.cellAt {g : Nat} {x : α} (h : OwnK K w lo hi (some ⟨g, 0, none⟩) cap (ms ++ x :: rs)) (y : α) (i : Nat) (hi' : i < K.sz) (u : Value) (hu : K.cs y = (K.cs x).set i u) (hlo : K.lo y = K.lo x) (hhi : K.hi y = K.hi x) (how : ∀ W, K.ow W x → K.ow W y) (m : Nat) (hm : m = ms.length * K.sz + i) : OwnK K (w.setCell ⟨g, m, none⟩ u) lo hi (some ⟨g, 0, none⟩) cap (ms ++ y :: rs) := by
  obtain ⟨h1, h2, h3⟩ := h
  refine ⟨?_, fun z hz => ?_, ?_⟩
  · have h4 := h1.put ms.length i (by simp) hi' (by simp [K.len]) u
    rw [← hm] at h4
    have e : ((ms ++ x :: rs).map K.cs).set ms.length ((((ms ++ x :: rs).map K.cs)[ms.length]'(by simp)).set i u) = (ms ++ y :: rs).map K.cs := by
      simp [List.map_append, hu]
    rw [e] at h4
    exact h4
  · have hkx : ∀ v, v ∈ ms ++ x :: rs → K.ow (w.setCell ⟨g, m, none⟩ u) v := fun v hv => K.ow_keep (h2 v hv).1 (keep_set (p := ⟨g, m, none⟩) ((h2 v hv).2.2.2 ⟨g, 0, none⟩ rfl) u)
    rcases List.mem_append.1 hz with hz | hz
    · exact ⟨hkx z (by simp [hz]), (h2 z (by simp [hz])).2⟩
    · rcases List.mem_cons.1 hz with rfl | hz
      · refine ⟨how _ (hkx x (by simp)), ?_⟩
        rw [hlo, hhi]
        exact (h2 x (by simp)).2
      · exact ⟨hkx z (by simp [hz]), (h2 z (by simp [hz])).2⟩
  · rw [List.pairwise_append, List.pairwise_cons] at h3 ⊢
    obtain ⟨p1, ⟨p2, p3⟩, p4⟩ := h3
    refine ⟨p1, ⟨fun b hb => by rw [hlo, hhi]; exact p2 b hb, p3⟩, fun a ha b hb => ?_⟩
    rcases List.mem_cons.1 hb with rfl | hb
    · rw [hlo, hhi]; exact p4 a ha x (by simp)
    · exact p4 a ha b (by simp [hb])
/-- One element's own blocks written. -/
theorem OwnK.inAt {x : α} (h : OwnK K w lo hi A cap (ms ++ x :: rs)) (y : α) (hm : Mid (K.lo x) (K.hi x) w w') (hy : K.ow w' y) (hcs : K.cs y = K.cs x) (hlo : K.lo y = K.lo x) (hhi : K.hi y = K.hi x) : OwnK K w' lo hi A cap (ms ++ y :: rs) := by
  obtain ⟨h1, h2, h3⟩ := h
  have hx := h2 x (by simp)
  have hpp := h3
  rw [List.pairwise_append, List.pairwise_cons] at hpp
  obtain ⟨p1, ⟨p2, p3⟩, p4⟩ := hpp
  refine ⟨?_, fun z hz => ?_, ?_⟩
  · have e : (ms ++ y :: rs).map K.cs = (ms ++ x :: rs).map K.cs := by simp [hcs]
    rw [e]
    exact Own.keepB h1 fun p hp hlt => hm.2.2.2.2 _ hlt (by have := hx.2.2.2 p hp; omega)
  · rcases List.mem_append.1 hz with hz | hz
    · have hd := p4 z hz x (by simp)
      exact ⟨K.ow_keep (h2 z (by simp [hz])).1 (keep_mid hm (by omega)), (h2 z (by simp [hz])).2⟩
    · rcases List.mem_cons.1 hz with rfl | hz
      · refine ⟨hy, ?_⟩
        rw [hlo, hhi]
        exact hx.2
      · have hd := p2 z hz
        exact ⟨K.ow_keep (h2 z (by simp [hz])).1 (keep_mid hm (by omega)), (h2 z (by simp [hz])).2⟩
  · rw [List.pairwise_append, List.pairwise_cons]
    refine ⟨p1, ⟨fun b hb => by rw [hlo, hhi]; exact p2 b hb, p3⟩, fun a ha b hb => ?_⟩
    rcases List.mem_cons.1 hb with rfl | hb
    · rw [hlo, hhi]; exact p4 a ha x (by simp)
    · exact p4 a ha b (by simp [hb])
end

/-! ### All cells of an element stored -/
def putN (w : World) (g : Nat) : Nat → List Value → World
  | _, [] => w
  | m, u :: us => putN (w.setCell ⟨g, m, none⟩ u) g (m + 1) us
def putA (cur : Array Value) : Nat → List Value → Array Value
  | _, [] => cur
  | m, u :: us => putA (cur.setIfInBounds m u) (m + 1) us
theorem putA_size (cur : Array Value) (m : Nat) (us : List Value) : (putA cur m us).size = cur.size := by
  induction us generalizing cur m with
  | nil => rfl
  | cons u t ih => simp [putA, ih]
theorem putA_low (cur : Array Value) (m : Nat) (us : List Value) (i : Nat) (h : i < m ∨ m + us.length ≤ i) : (putA cur m us)[i]? = cur[i]? := by
  induction us generalizing cur m with
  | nil => rfl
  | cons u t ih =>
    simp only [putA]
    rw [ih _ _ (by simp only [List.length_cons] at h; omega), Array.getElem?_setIfInBounds_ne (by simp only [List.length_cons] at h; omega)]
theorem putA_at (cur : Array Value) (m : Nat) (us : List Value) (i : Nat) (hi : i < us.length) (h : m + us.length ≤ cur.size) : (putA cur m us)[m + i]? = us[i]? := by
  induction us generalizing cur m i with
  | nil => simp at hi
  | cons u t ih =>
    simp only [putA]
    simp only [List.length_cons] at h hi
    cases i with
    | zero =>
      rw [putA_low _ _ _ _ (.inl (by omega))]
      show (cur.setIfInBounds m u)[m]? = some u
      rw [Array.getElem?_setIfInBounds_self_of_lt (show m < cur.size by omega)]
    | succ i =>
      have := ih (cur.setIfInBounds m u) (m + 1) i (by omega) (by simp; omega)
      rw [show m + (i + 1) = m + 1 + i by omega, this]
      rfl
theorem putN_blk {w : World} {g : Nat} {cur : Array Value} {t : TypeId} {fz : Nat × Nat} (h : w.heap[g]? = some (.cells cur t fz)) (m : Nat) (us : List Value) : (putN w g m us).heap[g]? = some (.cells (putA cur m us) t fz) := by
  induction us generalizing w cur m with
  | nil => exact h
  | cons u r ih => exact ih (by simp [World.setCell, Array.getElem?_modify, h]) (m + 1)
theorem putN_size (w : World) (g m : Nat) (us : List Value) : (putN w g m us).heap.size = w.heap.size := by
  induction us generalizing w m with
  | nil => rfl
  | cons u r ih => rw [putN, ih]; simp [World.setCell]
theorem putN_other (w : World) (g m : Nat) (us : List Value) (b : Nat) (hb : b ≠ g) : (putN w g m us).heap[b]? = w.heap[b]? := by
  induction us generalizing w m with
  | nil => rfl
  | cons u r ih => rw [putN, ih]; exact Below.heap_setCell _ _ _ _ hb
theorem keep_putN {lo hi : Nat} {w : World} {g : Nat} (hg : g < lo ∨ hi ≤ g) (m : Nat) (us : List Value) : Keep lo hi w (putN w g m us) := fun b h1 h2 _ => putN_other w g m us b (by omega)
theorem below_putN {B : Nat} {w w1 : World} {g : Nat} (h : Below B w w1) (hg : B ≤ g) (m : Nat) (us : List Value) : Below B w (putN w1 g m us) := by
  induction us generalizing w1 m with
  | nil => exact h
  | cons u r ih => exact ih (h.setCell (p := ⟨g, m, none⟩) hg u) (m + 1)
theorem mid_putN {lo hi : Nat} {w w1 : World} {g : Nat} (h : Mid lo hi w w1) (hg : lo ≤ g ∧ g < hi) (m : Nat) (us : List Value) : Mid lo hi w (putN w1 g m us) := by
  induction us generalizing w1 m with
  | nil => exact h
  | cons u r ih => exact ih (h.set (p := ⟨g, m, none⟩) hg u) (m + 1)
theorem Fill.snocU {w : World} {g n sz k : Nat} {t : TypeId} {L : List (List Value)} (h : Fill w g n sz t L k) (hk : L.length = k) (hn : k < n) (us : List Value) (hu : us.length = sz) : Fill (putN w g (k * sz) us) g n sz t (L ++ [us]) (k + 1) := by
  subst hk
  obtain ⟨cur, hh, hs, hc⟩ := h
  have hb : L.length * sz + sz ≤ n * sz := by
    have h1 : (L.length + 1) * sz ≤ n * sz := Nat.mul_le_mul_right _ hn
    rw [Nat.add_mul, Nat.one_mul] at h1
    exact h1
  refine ⟨putA cur (L.length * sz) us, putN_blk hh _ _, by rw [putA_size]; exact hs, fun j hj hjk i hi => ?_⟩
  rcases Nat.lt_or_ge j L.length with h1 | h1
  · rw [List.getElem_append_left h1, putA_low _ _ _ _ (.inl (fill_idx j sz L.length i h1 hi))]
    exact hc j h1 h1 i hi
  · have hjl : j = L.length := by omega
    subst hjl
    rw [putA_at _ _ _ _ (by omega) (by omega)]
    simp
theorem Fill.snocK {α : Type} {K : Kd α} {w : World} {g n k : Nat} {t : TypeId} {xs : List α} (h : Fill w g n K.sz t (xs.map K.cs) k) (hk : xs.length = k) (hn : k < n) (x : α) : Fill (putN w g (k * K.sz) (K.cs x)) g n K.sz t ((xs ++ [x]).map K.cs) (k + 1) := by
  rw [List.map_append]
  exact Fill.snocU h (by simpa using hk) hn _ (K.len x)
/-- An element stored whole, its memory newer than all the rest. -/
theorem OwnK.setAt {α : Type} {K : Kd α} {w : World} {lo hi hi2 cap g : Nat} {ms rs : List α} {x : α} (h : OwnK K w lo hi (some ⟨g, 0, none⟩) cap (ms ++ x :: rs)) (y : α) (hy : K.ow (putN w g (ms.length * K.sz) (K.cs y)) y) (h1 : hi ≤ K.lo y) (h2 : K.hi y ≤ hi2) : OwnK K (putN w g (ms.length * K.sz) (K.cs y)) lo hi2 (some ⟨g, 0, none⟩) cap (ms ++ y :: rs) := by
  have hle := K.ow_le hy
  obtain ⟨ho, h3, h4⟩ := h
  obtain ⟨hg1, hg2, _⟩ := ho.block _ rfl
  simp only at hg1 hg2
  refine ⟨?_, fun z hz => ?_, ?_⟩
  · rcases ho with ⟨he, _⟩ | ⟨g', cur, hA, b1, b2, b3, b4, b5, b6, b7⟩
    · simp at he
    · injection hA with hA
      injection hA with hg
      subst hg
      have hsz : ms.length * K.sz + K.sz ≤ cap * K.sz := by
        have h1 : (ms.length + 1) * K.sz ≤ cap * K.sz := Nat.mul_le_mul_right _ (by simp at b4; omega)
        rw [Nat.add_mul, Nat.one_mul] at h1
        exact h1
      refine .inr ⟨g, putA cur (ms.length * K.sz) (K.cs y), rfl, b1, by omega, putN_blk b3 _ _, by simpa using b4, b5, by rw [putA_size]; exact b6, fun j hj i hi' => ?_⟩
      have hj' : j < ((ms ++ x :: rs).map K.cs).length := by simpa using hj
      by_cases hjm : j = ms.length
      · subst hjm
        rw [putA_at _ _ _ _ (by rw [K.len]; exact hi') (by rw [K.len]; omega)]
        simp
      · have h8 := b7 j hj' i hi'
        have hout : j * K.sz + i < ms.length * K.sz ∨ ms.length * K.sz + (K.cs y).length ≤ j * K.sz + i := by
          rw [K.len]
          rcases Nat.lt_or_ge j ms.length with hl | hl
          · exact .inl (fill_idx j K.sz ms.length i hl hi')
          · right
            have h9 : (ms.length + 1) * K.sz ≤ j * K.sz := Nat.mul_le_mul_right _ (by omega)
            rw [Nat.add_mul, Nat.one_mul] at h9
            omega
        rw [putA_low _ _ _ _ hout, h8]
        simp only [List.getElem_map]
        rcases Nat.lt_or_ge j ms.length with hl | hl
        · rw [List.getElem_append_left hl, List.getElem_append_left hl]
        · rw [List.getElem_append_right hl, List.getElem_append_right hl]
          obtain ⟨q, hq⟩ : ∃ q, j - ms.length = q + 1 := ⟨j - ms.length - 1, by omega⟩
          simp only [hq, List.getElem_cons_succ]
  · have hk : ∀ v, v ∈ ms ++ x :: rs → K.ow (putN w g (ms.length * K.sz) (K.cs y)) v := fun v hv => K.ow_keep (h3 v hv).1 (keep_putN ((h3 v hv).2.2.2 _ rfl) _ _)
    have hb : ∀ v, v ∈ ms ++ x :: rs → lo ≤ K.lo v ∧ K.hi v ≤ hi2 := fun v hv => by have := h3 v hv; omega
    rcases List.mem_append.1 hz with hz | hz
    · exact ⟨hk z (by simp [hz]), (hb z (by simp [hz])).1, (hb z (by simp [hz])).2, (h3 z (by simp [hz])).2.2.2⟩
    · rcases List.mem_cons.1 hz with rfl | hz
      · refine ⟨hy, by omega, h2, fun p hp => ?_⟩
        injection hp with hp
        subst hp
        exact .inl (by simp only; omega)
      · exact ⟨hk z (by simp [hz]), (hb z (by simp [hz])).1, (hb z (by simp [hz])).2, (h3 z (by simp [hz])).2.2.2⟩
  · rw [List.pairwise_append, List.pairwise_cons] at h4 ⊢
    obtain ⟨p1, ⟨p2, p3⟩, p4⟩ := h4
    refine ⟨p1, ⟨fun b hb => .inr (by have := h3 b (by simp [hb]); omega), p3⟩, fun a ha b hb => ?_⟩
    rcases List.mem_cons.1 hb with rfl | hb
    · exact .inl (by have := h3 a (by simp [ha]); omega)
    · exact p4 a ha b (by simp [hb])

/-! ### Numbers that the laws lay -/
section
variable {α : Type} (mk : Nat → α → α) (nx : Nat → α → Nat)
def mkAll : Nat → List α → List α
  | _, [] => []
  | k, x :: t => mk k x :: mkAll (nx k x) t
def aft : Nat → List α → Nat
  | k, [] => k
  | k, x :: t => aft (nx k x) t
variable {mk nx}
theorem mkAll_append (k : Nat) (ds rs : List α) : mkAll mk nx k (ds ++ rs) = mkAll mk nx k ds ++ mkAll mk nx (aft nx k ds) rs := by
  induction ds generalizing k with
  | nil => rfl
  | cons a t ih => simp [mkAll, aft, ih]
theorem aft_append (k : Nat) (ds rs : List α) : aft nx k (ds ++ rs) = aft nx (aft nx k ds) rs := by
  induction ds generalizing k with
  | nil => rfl
  | cons a t ih => simp [aft, ih]
theorem mkAll_snoc (k : Nat) (ds : List α) (x : α) : mkAll mk nx k (ds ++ [x]) = mkAll mk nx k ds ++ [mk (aft nx k ds) x] := by rw [mkAll_append]; rfl
theorem aft_snoc (k : Nat) (ds : List α) (x : α) : aft nx k (ds ++ [x]) = nx (aft nx k ds) x := by rw [aft_append]; rfl
theorem mkAll_len (k : Nat) (ds : List α) : (mkAll mk nx k ds).length = ds.length := by
  induction ds generalizing k with
  | nil => rfl
  | cons a t ih => simp [mkAll, ih]
theorem aft_up (hnx : ∀ k x, k ≤ nx k x) (k : Nat) (ds : List α) : k ≤ aft nx k ds := by
  induction ds generalizing k with
  | nil => exact Nat.le_refl _
  | cons a t ih => exact Nat.le_trans (hnx k a) (ih _)
theorem aft_len (hnx : ∀ k x, k + 1 ≤ nx k x) (k : Nat) (ds : List α) : k + ds.length ≤ aft nx k ds := by
  induction ds generalizing k with
  | nil => exact Nat.le_refl _
  | cons a t ih => have h1 := hnx k a; have h2 := ih (nx k a); simp only [aft, List.length_cons]; omega
/-- How far the numbers go. -/
theorem aft_sz {sz : α → Nat} {C : Nat} (hnx : ∀ k x, nx k x ≤ k + C * (1 + sz x)) (k : Nat) (ds : List α) : aft nx k ds ≤ k + C * (ds.length + (ds.map sz).sum) := by
  induction ds generalizing k with
  | nil => simp [aft]
  | cons a t ih =>
    have h1 := hnx k a
    have h2 := ih (nx k a)
    simp only [aft, List.map_cons, List.sum_cons, List.length_cons]
    have e : C * (t.length + 1 + (sz a + (t.map sz).sum)) = C * (1 + sz a) + C * (t.length + (t.map sz).sum) := by rw [← Nat.mul_add]; congr 1; omega
    omega
theorem mkAll_at (k : Nat) (ds t : List α) (x : α) (j : Nat) (hj : j = ds.length) (h : j < (mkAll mk nx k (ds ++ x :: t)).length) : (mkAll mk nx k (ds ++ x :: t))[j] = mk (aft nx k ds) x := by
  subst hj
  simp only [mkAll_append]
  rw [List.getElem_append_right (by rw [mkAll_len]; exact Nat.le_refl _)]
  simp [mkAll_len, mkAll]
/-- Only the data matter. -/
theorem aft_dat {β : Type} {dat : α → β} (hnx : ∀ k x y, dat x = dat y → nx k x = nx k y) (k : Nat) (xs ys : List α) (h : xs.map dat = ys.map dat) : aft nx k xs = aft nx k ys := by
  induction ys generalizing k xs with
  | nil => simp at h; subst h; rfl
  | cons a t ih =>
    cases xs with
    | nil => simp at h
    | cons b s =>
      simp only [List.map_cons, List.cons.injEq] at h
      simp only [aft, hnx k b a h.1]
      exact ih _ _ h.2
end
section
variable {α β : Type} {dat : α → β} {xs ys gs : List α}
theorem dats_len (h : xs.map dat = ys.map dat) : xs.length = ys.length := by
  have := congrArg List.length h
  simpa using this
theorem dats_at (h : xs.map dat = ys.map dat) (k : Nat) (h1 : k < xs.length) (h2 : k < ys.length) : dat xs[k] = dat ys[k] := by
  have e : (xs.map dat)[k]'(by simpa using h1) = (ys.map dat)[k]'(by simpa using h2) := by simp only [h]
  simpa only [List.getElem_map] using e
theorem take_dats {k : Nat} (h : gs.map dat = (xs.map dat).take k) (hk : k < xs.length) (y : α) (hy : dat y = dat xs[k]) : (gs ++ [y]).map dat = (xs.map dat).take (k + 1) := by
  rw [List.take_succ_eq_append_getElem (by simpa using hk), List.map_append, h]
  simp [hy]
end
/-- Sizes. -/
def szAll {α : Type} (f : α → Nat) (xs : List α) : Nat := xs.length + (xs.map f).sum
theorem szAll_mem {α : Type} (f : α → Nat) (xs : List α) (x : α) (h : x ∈ xs) : f x ≤ szAll f xs := by
  have := le_sum f xs x h; unfold szAll; omega
theorem szAll_len {α : Type} (f : α → Nat) (xs : List α) : xs.length ≤ szAll f xs := by unfold szAll; omega
end Go.Proofs.Ytkhndofplebcaaa.Gr
