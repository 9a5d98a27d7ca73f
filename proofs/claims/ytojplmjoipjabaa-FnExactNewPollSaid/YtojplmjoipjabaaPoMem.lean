/-
  Voters, winners and polls in memory: what reads as a list; what a call owns.
-/
import Derived.Test.YtojplmjoipjabaaNtMem
namespace Go.Proofs.Ytojplmjoipjabaa.Po
open Go.RowKit Nt
set_option linter.unusedVariables false

def vtCs (v : ((Bool × Int × Int × Bool) × Option Addr × Nat × List Int)) : List Value := [.bool v.1.1, .int .i64 v.1.2.1, .int .i64 v.1.2.2.1, .slice v.2.1 v.2.2.2.length v.2.2.1, .bool v.1.2.2.2]
def wonCs (x : Int × Int) : List Value := [.int .i64 x.1, .int .i64 x.2]
theorem vtCs_len (hs : List ((Bool × Int × Int × Bool) × Option Addr × Nat × List Int)) : ∀ x ∈ hs.map vtCs, x.length = 5 := by
  intro x hx; obtain ⟨v, _, rfl⟩ := List.mem_map.1 hx; rfl
theorem wonCs_len (ws : List (Int × Int)) : ∀ x ∈ ws.map wonCs, x.length = 2 := by
  intro x hx; obtain ⟨v, _, rfl⟩ := List.mem_map.1 hx; rfl
theorem wonCs_one (ws : List (Int × Int)) : ∀ u ∈ (ws.map wonCs).flatten, u.oneCell' = true := by
  intro u hu
  obtain ⟨l, hl, hu⟩ := List.mem_flatten.1 hu
  obtain ⟨v, _, rfl⟩ := List.mem_map.1 hl
  simp [wonCs] at hu
  rcases hu with rfl | rfl <;> rfl
theorem vtCs_one (hs : List ((Bool × Int × Int × Bool) × Option Addr × Nat × List Int)) : ∀ u ∈ (hs.map vtCs).flatten, u.oneCell' = true := by
  intro u hu
  obtain ⟨l, hl, hu⟩ := List.mem_flatten.1 hu
  obtain ⟨v, _, rfl⟩ := List.mem_map.1 hl
  simp [vtCs] at hu
  rcases hu with rfl | rfl | rfl | rfl | rfl <;> rfl
theorem infoVot : (Try.prog.info? 81).map (fun i => (i.zero, i.size, i.bytes)) = some (some (.agg #[.bool false, .int .i64 0, .int .i64 0, .slice none 0 0, .bool false]), 5, 56) := by kernel_rfl
theorem infoWon : (Try.prog.info? 89).map (fun i => (i.zero, i.size, i.bytes)) = some (some (.agg #[.int .i64 0, .int .i64 0]), 2, 16) := by kernel_rfl
/-- A voter as data. -/
def vdat (h : ((Bool × Int × Int × Bool) × Option Addr × Nat × List Int)) : ((Bool × Int × Int × Bool) × List Int) := (h.1, h.2.2.2)

def WonB (w : World) (B : Nat) (A : Option Addr) (ws : List (Int × Int)) : Prop := RowB w B A 2 (ws.map wonCs)
def VotB (w : World) (B : Nat) (A : Option Addr) (hs : List ((Bool × Int × Int × Bool) × Option Addr × Nat × List Int)) : Prop := RowB w B A 5 (hs.map vtCs) ∧ ∀ h ∈ hs, IntsB w B h.2.1 h.2.2.2
section
variable {w w' : World} {B B' : Nat} {A A' : Option Addr} {hs : List ((Bool × Int × Int × Bool) × Option Addr × Nat × List Int)} {ws : List (Int × Int)}
theorem WonB.below (h : WonB w B A ws) (hb : Below B w w') : WonB w' B A ws := RowB.below h hb
theorem WonB.mono (h : WonB w B A ws) (hB : B ≤ B') : WonB w B' A ws := RowB.mono h hB
theorem VotB.below (h : VotB w B A hs) (hb : Below B w w') : VotB w' B A hs := ⟨h.1.below hb, fun x hx => (h.2 x hx).below hb⟩
theorem VotB.mono (h : VotB w B A hs) (hB : B ≤ B') : VotB w B' A hs := ⟨h.1.mono hB, fun x hx => (h.2 x hx).mono hB⟩
theorem WonB.get (h : WonB w B A ws) (hn : 0 < ws.length) : ∃ b off, A = some ⟨b, off, none⟩ ∧ b < B ∧ ∀ k (h : k < ws.length), w.cell? ⟨b, off + k * 2, none⟩ = some (.int .i64 ws[k].1) ∧ w.cell? ⟨b, off + k * 2 + 1, none⟩ = some (.int .i64 ws[k].2) := by
  rcases h with h | ⟨b, off, hA, hlt, hc⟩
  · rw [List.map_eq_nil_iff] at h; subst h; simp at hn
  · refine ⟨b, off, hA, hlt, fun k hk => ?_⟩
    have hk' : k < (ws.map wonCs).length := by simpa using hk
    have h0 := hc k hk' 0 (by omega)
    have h1 := hc k hk' 1 (by omega)
    simp only [List.getElem_map] at h0 h1
    exact ⟨h0, h1⟩
theorem VotB.get (h : VotB w B A hs) (hn : 0 < hs.length) : ∃ b off, A = some ⟨b, off, none⟩ ∧ b < B ∧ ∀ k (h : k < hs.length), w.cell? ⟨b, off + k * 5, none⟩ = some (.bool hs[k].1.1) ∧ w.cell? ⟨b, off + k * 5 + 1, none⟩ = some (.int .i64 hs[k].1.2.1) ∧ w.cell? ⟨b, off + k * 5 + 2, none⟩ = some (.int .i64 hs[k].1.2.2.1) ∧ w.cell? ⟨b, off + k * 5 + 3, none⟩ = some (.slice hs[k].2.1 hs[k].2.2.2.length hs[k].2.2.1) ∧ w.cell? ⟨b, off + k * 5 + 4, none⟩ = some (.bool hs[k].1.2.2.2) := by
  rcases h.1 with h | ⟨b, off, hA, hlt, hc⟩
  · rw [List.map_eq_nil_iff] at h; subst h; simp at hn
  · refine ⟨b, off, hA, hlt, fun k hk => ?_⟩
    have hk' : k < (hs.map vtCs).length := by simpa using hk
    have h0 := hc k hk' 0 (by omega)
    have h1 := hc k hk' 1 (by omega)
    have h2 := hc k hk' 2 (by omega)
    have h3 := hc k hk' 3 (by omega)
    have h4 := hc k hk' 4 (by omega)
    simp only [List.getElem_map] at h0 h1 h2 h3 h4
    exact ⟨h0, h1, h2, h3, h4⟩
theorem VotB.yes (h : VotB w B A hs) (k : Nat) (hk : k < hs.length) : IntsB w B hs[k].2.1 hs[k].2.2.2 := h.2 _ (List.getElem_mem hk)
end

/-- Blocks for what the voters said, no two the same. -/
def YesOwn (w : World) (lo hi : Nat) (hs : List ((Bool × Int × Int × Bool) × Option Addr × Nat × List Int)) : Prop :=
  (∀ h ∈ hs, OwnI w lo hi h.2.1 h.2.2.1 h.2.2.2) ∧ hs.Pairwise fun a b => ∀ x y, a.2.1 = some x → b.2.1 = some y → x.block ≠ y.block
/-- Voters that a call owns: the outer block, and a block for what each has been told. -/
def OwnV (w : World) (lo hi : Nat) (A : Option Addr) (cap : Nat) (hs : List ((Bool × Int × Int × Bool) × Option Addr × Nat × List Int)) : Prop :=
  Own w lo hi 81 5 A cap (hs.map vtCs) ∧ YesOwn w lo hi hs
def OwnN (w : World) (lo hi : Nat) (A : Option Addr) (cap : Nat) (ws : List (Int × Int)) : Prop := Own w lo hi 89 2 A cap (ws.map wonCs)
section
variable {w w' : World} {lo hi lo' hi' cap : Nat} {A : Option Addr} {hs : List ((Bool × Int × Int × Bool) × Option Addr × Nat × List Int)} {ws : List (Int × Int)}
theorem YesOwn.below (h : YesOwn w lo hi hs) (hb : Below hi w w') : YesOwn w' lo hi hs := ⟨fun x hx => (h.1 x hx).below hb, h.2⟩
theorem YesOwn.mid (h : YesOwn w lo hi hs) (hm : Mid lo' hi' w w') (hd : hi' ≤ lo ∨ hi ≤ lo') : YesOwn w' lo hi hs := ⟨fun x hx => (h.1 x hx).mid hm hd, h.2⟩
theorem YesOwn.wider (h : YesOwn w lo hi hs) (h1 : lo' ≤ lo) (h2 : hi ≤ hi') : YesOwn w lo' hi' hs := ⟨fun x hx => (h.1 x hx).wider h1 h2, h.2⟩
theorem YesOwn.nil : YesOwn w lo hi [] := ⟨by simp, List.Pairwise.nil⟩
theorem YesOwn.low (h : YesOwn w lo hi hs) {p : Addr} (hp : p.block < lo) (u : Value) : YesOwn (w.setCell p u) lo hi hs :=
  ⟨fun x hx => (h.1 x hx).low hp u, h.2⟩
theorem YesOwn.high (h : YesOwn w lo hi hs) {p : Addr} (hp : hi ≤ p.block) (u : Value) : YesOwn (w.setCell p u) lo hi hs :=
  ⟨fun x hx => (h.1 x hx).high hp u, h.2⟩
/-- A store into a block of another type. -/
theorem YesOwn.storeT (h : YesOwn w lo hi hs) {p : Addr} {t' : TypeId} {cur' : Array Value} {fz : Nat × Nat} (hp : w.heap[p.block]? = some (.cells cur' t' fz)) (hne : 3 ≠ t') (u : Value) : YesOwn (w.setCell p u) lo hi hs :=
  ⟨fun x hx => Own.otherT (h.1 x hx) hp hne u, h.2⟩
/-- A voter more, told by a newer block. -/
theorem YesOwn.snoc {m : Nat} (h : YesOwn w lo m hs) (x : ((Bool × Int × Int × Bool) × Option Addr × Nat × List Int)) (hx : OwnI w m hi x.2.1 x.2.2.1 x.2.2.2) (h1 : lo ≤ m) (h2 : m ≤ hi) : YesOwn w lo hi (hs ++ [x]) := by
  refine ⟨fun y hy => ?_, List.pairwise_append.2 ⟨h.2, List.pairwise_singleton _ _, fun a ha b hb p q hp hq => ?_⟩⟩
  · rcases List.mem_append.1 hy with hy | hy
    · exact (h.1 y hy).wider (Nat.le_refl _) h2
    · rw [List.mem_singleton.1 hy]
      exact hx.wider h1 (Nat.le_refl _)
  · rw [List.mem_singleton.1 hb] at hq
    have e1 := (Own.block (h.1 a ha) p hp).2.1
    have e2 := (Own.block hx q hq).1
    omega
/-- Only the blocks matter. -/
theorem YesOwn.congr {hs' : List ((Bool × Int × Int × Bool) × Option Addr × Nat × List Int)} (h : YesOwn w lo hi hs) (he : hs'.map Prod.snd = hs.map Prod.snd) : YesOwn w lo hi hs' := by
  have e : ∀ l : List ((Bool × Int × Int × Bool) × Option Addr × Nat × List Int), YesOwn w lo hi l ↔ (∀ y ∈ l.map Prod.snd, OwnI w lo hi y.1 y.2.1 y.2.2) ∧ (l.map Prod.snd).Pairwise fun a b => ∀ x y, a.1 = some x → b.1 = some y → x.block ≠ y.block := fun l => by
    unfold YesOwn
    rw [List.pairwise_map]
    simp only [List.mem_map, forall_exists_index, and_imp, forall_apply_eq_imp_iff₂]
  rw [e, he, ← e]
  exact h
theorem OwnV.below (h : OwnV w lo hi A cap hs) (hb : Below hi w w') : OwnV w' lo hi A cap hs := ⟨h.1.below hb, h.2.below hb⟩
theorem OwnV.mid (h : OwnV w lo hi A cap hs) (hm : Mid lo' hi' w w') (hd : hi' ≤ lo ∨ hi ≤ lo') : OwnV w' lo hi A cap hs := ⟨h.1.mid hm hd, h.2.mid hm hd⟩
theorem OwnV.wider (h : OwnV w lo hi A cap hs) (h1 : lo' ≤ lo) (h2 : hi ≤ hi') : OwnV w lo' hi' A cap hs := ⟨h.1.wider h1 h2, h.2.wider h1 h2⟩
theorem OwnV.vots (h : OwnV w lo hi A cap hs) : VotB w hi A hs := ⟨h.1.row, fun x hx => (h.2.1 x hx).ints⟩
theorem OwnV.since (h : OwnV w lo hi A cap hs) (hb : Below w.heap.size w w') (hh : hi ≤ w.heap.size) : OwnV w' lo hi A cap hs := h.below (hb.mono hh)
theorem OwnV.low (h : OwnV w lo hi A cap hs) {p : Addr} (hp : p.block < lo) (u : Value) : OwnV (w.setCell p u) lo hi A cap hs :=
  ⟨Own.other h.1 (fun x hx e => by have := (Own.block h.1 x hx).1; omega) u, h.2.low hp u⟩
theorem OwnV.high (h : OwnV w lo hi A cap hs) {p : Addr} (hp : hi ≤ p.block) (u : Value) : OwnV (w.setCell p u) lo hi A cap hs :=
  ⟨Own.other h.1 (fun x hx e => by have := (Own.block h.1 x hx).2.1; omega) u, h.2.high hp u⟩
theorem OwnN.below (h : OwnN w lo hi A cap ws) (hb : Below hi w w') : OwnN w' lo hi A cap ws := Own.below h hb
theorem OwnN.mid (h : OwnN w lo hi A cap ws) (hm : Mid lo' hi' w w') (hd : hi' ≤ lo ∨ hi ≤ lo') : OwnN w' lo hi A cap ws := Own.mid h hm hd
theorem OwnN.wider (h : OwnN w lo hi A cap ws) (h1 : lo' ≤ lo) (h2 : hi ≤ hi') : OwnN w lo' hi' A cap ws := Own.wider h h1 h2
theorem OwnN.wons (h : OwnN w lo hi A cap ws) : WonB w hi A ws := Own.row h
theorem OwnN.since (h : OwnN w lo hi A cap ws) (hb : Below w.heap.size w w') (hh : hi ≤ w.heap.size) : OwnN w' lo hi A cap ws := h.below (hb.mono hh)
theorem OwnN.low {p : Addr} (h : OwnN w lo hi A cap ws) (hp : p.block < lo) (u : Value) : OwnN (w.setCell p u) lo hi A cap ws := Own.other h (fun x hx e => by have := (Own.block h x hx).1; omega) u
theorem OwnN.high {p : Addr} (h : OwnN w lo hi A cap ws) (hp : hi ≤ p.block) (u : Value) : OwnN (w.setCell p u) lo hi A cap ws := Own.other h (fun x hx e => by have := (Own.block h x hx).2.1; omega) u
end

/-! ### Sizes -/
def szVt (hs : List ((Bool × Int × Int × Bool) × Option Addr × Nat × List Int)) : Nat := hs.length + (hs.map fun h => h.2.2.2.length).sum
def VtMax (hs : List ((Bool × Int × Int × Bool) × Option Addr × Nat × List Int)) : Prop := hs.length ≤ maxLen ∧ ∀ h ∈ hs, h.2.2.2.length ≤ maxLen
def VtSmall (hs : List ((Bool × Int × Int × Bool) × Option Addr × Nat × List Int)) : Prop := hs.length ≤ 1048576 ∧ ∀ h ∈ hs, h.2.2.2.length ≤ 1048576
theorem vtsmall_of {hs : List ((Bool × Int × Int × Bool) × Option Addr × Nat × List Int)} (h : szVt hs ≤ 1048576) : VtSmall hs := by
  unfold szVt at h
  exact ⟨by omega, fun v hv => by have := le_sum (fun h : ((Bool × Int × Int × Bool) × Option Addr × Nat × List Int) => h.2.2.2.length) hs v hv; omega⟩
theorem vdats_len {hs gs : List ((Bool × Int × Int × Bool) × Option Addr × Nat × List Int)} (h : gs.map vdat = hs.map vdat) : gs.length = hs.length := by
  have := congrArg List.length h
  simpa using this
theorem vdats_at {hs gs : List ((Bool × Int × Int × Bool) × Option Addr × Nat × List Int)} (h : gs.map vdat = hs.map vdat) (k : Nat) (h1 : k < gs.length) (h2 : k < hs.length) : gs[k].1 = hs[k].1 ∧ gs[k].2.2.2 = hs[k].2.2.2 := by
  have e : (gs.map vdat)[k]'(by simpa using h1) = (hs.map vdat)[k]'(by simpa using h2) := by simp only [h]
  simp only [List.getElem_map, vdat, Prod.mk.injEq] at e
  exact e
theorem vtake_dats {hs gs : List ((Bool × Int × Int × Bool) × Option Addr × Nat × List Int)} {k : Nat} (h : gs.map vdat = (hs.map vdat).take k) (hk : k < hs.length) (a : Option Addr) (c : Nat) : (gs ++ [(hs[k].1, a, c, hs[k].2.2.2)]).map vdat = (hs.map vdat).take (k + 1) := by
  rw [List.take_succ_eq_append_getElem (by simpa using hk), List.map_append, h]
  simp [vdat]
theorem vsmall_dats {hs gs : List ((Bool × Int × Int × Bool) × Option Addr × Nat × List Int)} (h : gs.map vdat = hs.map vdat) (hh : VtSmall hs) : VtSmall gs := by
  refine ⟨by rw [vdats_len h]; exact hh.1, fun g hg => ?_⟩
  obtain ⟨k, hk, rfl⟩ := List.mem_iff_getElem.1 hg
  have hk2 : k < hs.length := by rw [← vdats_len h]; exact hk
  obtain ⟨e1, e2⟩ := vdats_at h k hk hk2
  rw [e2]
  exact hh.2 _ (List.getElem_mem hk2)

section
variable {w : World} {g n k : Nat} {t : TypeId}
theorem Fill.snoc5 {L : List (List Value)} {u v x y z : Value} (h : Fill w g n 5 t L L.length) (hk : L.length < n) :
    Fill (((((w.setCell ⟨g, L.length * 5, none⟩ u).setCell ⟨g, L.length * 5 + 1, none⟩ v).setCell ⟨g, L.length * 5 + 2, none⟩ x).setCell ⟨g, L.length * 5 + 3, none⟩ y).setCell ⟨g, L.length * 5 + 4, none⟩ z) g n 5 t (L ++ [[u, v, x, y, z]]) (L ++ [[u, v, x, y, z]]).length := by
  obtain ⟨cur, hh, hs, hc⟩ := h
  refine ⟨((((cur.setIfInBounds (L.length * 5) u).setIfInBounds (L.length * 5 + 1) v).setIfInBounds (L.length * 5 + 2) x).setIfInBounds (L.length * 5 + 3) y).setIfInBounds (L.length * 5 + 4) z, ?_, by simp [hs], fun j hj hjk i hi => ?_⟩
  · simp [World.setCell, Array.getElem?_modify, hh]
  · rcases Nat.lt_or_ge j L.length with h1 | h1
    · rw [Array.getElem?_setIfInBounds_ne (by omega), Array.getElem?_setIfInBounds_ne (by omega), Array.getElem?_setIfInBounds_ne (by omega), Array.getElem?_setIfInBounds_ne (by omega), Array.getElem?_setIfInBounds_ne (by omega), List.getElem_append_left h1]
      exact hc j h1 h1 i hi
    · have hjl : j = L.length := by simp at hj; omega
      subst hjl
      have hi' : i = 0 ∨ i = 1 ∨ i = 2 ∨ i = 3 ∨ i = 4 := by omega
      rcases hi' with rfl | rfl | rfl | rfl | rfl
      · rw [Array.getElem?_setIfInBounds_ne (by omega), Array.getElem?_setIfInBounds_ne (by omega), Array.getElem?_setIfInBounds_ne (by omega), Array.getElem?_setIfInBounds_ne (by omega), Nat.add_zero, Array.getElem?_setIfInBounds_self_of_lt (by omega)]
        simp
      · rw [Array.getElem?_setIfInBounds_ne (by omega), Array.getElem?_setIfInBounds_ne (by omega), Array.getElem?_setIfInBounds_ne (by omega), Array.getElem?_setIfInBounds_self_of_lt (by simp; omega)]
        simp
      · rw [Array.getElem?_setIfInBounds_ne (by omega), Array.getElem?_setIfInBounds_ne (by omega), Array.getElem?_setIfInBounds_self_of_lt (by simp; omega)]
        simp
      · rw [Array.getElem?_setIfInBounds_ne (by omega), Array.getElem?_setIfInBounds_self_of_lt (by simp; omega)]
        simp
      · rw [Array.getElem?_setIfInBounds_self_of_lt (by simp; omega)]
        simp
theorem Fill.snocVt {gs : List ((Bool × Int × Int × Bool) × Option Addr × Nat × List Int)} (h : Fill w g n 5 t (gs.map vtCs) k) (hk : gs.length = k) (hn : k < n) (x : Bool × Int × Int × Bool) (A : Option Addr) (c : Nat) (is : List Int) :
    Fill (((((w.setCell ⟨g, k * 5, none⟩ (.bool x.1)).setCell ⟨g, k * 5 + 1, none⟩ (.int .i64 x.2.1)).setCell ⟨g, k * 5 + 2, none⟩ (.int .i64 x.2.2.1)).setCell ⟨g, k * 5 + 3, none⟩ (.slice A is.length c)).setCell ⟨g, k * 5 + 4, none⟩ (.bool x.2.2.2)) g n 5 t ((gs ++ [(x, A, c, is)]).map vtCs) (k + 1) := by
  subst hk
  have hl : (gs.map vtCs).length = gs.length := by simp
  have h1 := Fill.snoc5 (u := .bool x.1) (v := .int .i64 x.2.1) (x := .int .i64 x.2.2.1) (y := .slice A is.length c) (z := .bool x.2.2.2) (L := gs.map vtCs) (by rw [hl]; exact h) (by omega)
  have e : (gs ++ [(x, A, c, is)]).map vtCs = gs.map vtCs ++ [[.bool x.1, .int .i64 x.2.1, .int .i64 x.2.2.1, .slice A is.length c, .bool x.2.2.2]] := by
    rw [List.map_append]; rfl
  rw [e]
  rw [List.length_append, hl] at h1
  exact h1
theorem Fill.snocN {ws : List (Int × Int)} (h : Fill w g n 2 t ((ws.take k).map wonCs) k) (hk : k < ws.length) (hn : k < n) :
    Fill ((w.setCell ⟨g, k * 2, none⟩ (.int .i64 ws[k].1)).setCell ⟨g, k * 2 + 1, none⟩ (.int .i64 ws[k].2)) g n 2 t ((ws.take (k + 1)).map wonCs) (k + 1) := by
  have hl : ((ws.take k).map wonCs).length = k := by simp; omega
  have e : (ws.take (k + 1)).map wonCs = (ws.take k).map wonCs ++ [[.int .i64 ws[k].1, .int .i64 ws[k].2]] := by
    rw [List.take_succ_eq_append_getElem hk, List.map_append]; rfl
  have h1 := Fill.snoc2 (u := .int .i64 ws[k].1) (v := .int .i64 ws[k].2) (L := (ws.take k).map wonCs) (by rw [hl]; exact h) (by omega)
  rw [e]
  rw [List.length_append, hl] at h1
  exact h1
end
end Go.Proofs.Ytojplmjoipjabaa.Po
