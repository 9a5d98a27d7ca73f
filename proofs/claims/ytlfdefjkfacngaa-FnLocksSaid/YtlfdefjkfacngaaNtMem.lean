/-
  Homes, letters and nets in memory: what reads as a list; what a call owns.
-/
import Derived.Test.YtlfdefjkfacngaaNtM
import Derived.Test.YtlfdefjkfacngaaMark
import Derived.Test.YtlfdefjkfacngaaApp
namespace Go.Proofs.Ytlfdefjkfacngaa.Nt
open Go.RowKit
set_option linter.unusedVariables false

def intCs (x : Int) : List Value := [.int .i64 x]
def ltCs (x : (Int × Int × Int × ByteArray)) : List Value := [.int .i64 x.1, .int .i64 x.2.1, .int .i64 x.2.2.1, .string x.2.2.2]
theorem intCs_len (is : List Int) : ∀ x ∈ is.map intCs, x.length = 1 := by
  intro x hx; obtain ⟨v, _, rfl⟩ := List.mem_map.1 hx; rfl
theorem ltCs_len (ls : List (Int × Int × Int × ByteArray)) : ∀ x ∈ ls.map ltCs, x.length = 4 := by
  intro x hx; obtain ⟨v, _, rfl⟩ := List.mem_map.1 hx; rfl
theorem intCs_one (is : List Int) : ∀ u ∈ (is.map intCs).flatten, u.oneCell' = true := by
  intro u hu
  obtain ⟨l, hl, hu⟩ := List.mem_flatten.1 hu
  obtain ⟨v, _, rfl⟩ := List.mem_map.1 hl
  simp [intCs] at hu
  subst hu; rfl
theorem ltCs_one (ls : List (Int × Int × Int × ByteArray)) : ∀ u ∈ (ls.map ltCs).flatten, u.oneCell' = true := by
  intro u hu
  obtain ⟨l, hl, hu⟩ := List.mem_flatten.1 hu
  obtain ⟨v, _, rfl⟩ := List.mem_map.1 hl
  simp [ltCs] at hu
  rcases hu with rfl | rfl | rfl | rfl <;> rfl
theorem infoInt : (Try.prog.info? 3).map (fun i => (i.zero, i.size, i.bytes)) = some (some (.int .i64 0), 1, 8) := by kernel_rfl
def IntsB (w : World) (B : Nat) (A : Option Addr) (is : List Int) : Prop := RowB w B A 1 (is.map intCs)
def LetsB (w : World) (B : Nat) (A : Option Addr) (ls : List (Int × Int × Int × ByteArray)) : Prop := RowB w B A 4 (ls.map ltCs)
def OwnI (w : World) (lo hi : Nat) (A : Option Addr) (cap : Nat) (is : List Int) : Prop := Own w lo hi 3 1 A cap (is.map intCs)
section
variable {w w' : World} {B B' lo hi lo' hi' cap : Nat} {A A' : Option Addr} {is : List Int} {ls : List (Int × Int × Int × ByteArray)}
theorem IntsB.below (h : IntsB w B A is) (hb : Below B w w') : IntsB w' B A is := RowB.below h hb
theorem LetsB.below (h : LetsB w B A ls) (hb : Below B w w') : LetsB w' B A ls := RowB.below h hb
theorem IntsB.mono (h : IntsB w B A is) (hB : B ≤ B') : IntsB w B' A is := RowB.mono h hB
theorem LetsB.mono (h : LetsB w B A ls) (hB : B ≤ B') : LetsB w B' A ls := RowB.mono h hB
theorem OwnI.below (h : OwnI w lo hi A cap is) (hb : Below hi w w') : OwnI w' lo hi A cap is := Own.below h hb
theorem OwnI.wider (h : OwnI w lo hi A cap is) (h1 : lo' ≤ lo) (h2 : hi ≤ hi') : OwnI w lo' hi' A cap is := Own.wider h h1 h2
theorem OwnI.mid (h : OwnI w lo hi A cap is) (hm : Mid lo' hi' w w') (hd : hi' ≤ lo ∨ hi ≤ lo') : OwnI w' lo hi A cap is := Own.mid h hm hd
theorem OwnI.ints (h : OwnI w lo hi A cap is) : IntsB w hi A is := Own.row h
/-- A store into a block below. -/
theorem OwnI.low {p : Addr} (h : OwnI w lo hi A cap is) (hp : p.block < lo) (u : Value) : OwnI (w.setCell p u) lo hi A cap is := Own.other h (fun x hx e => by have := (Own.block h x hx).1; omega) u
/-- A store into a block behind. -/
theorem OwnI.high {p : Addr} (h : OwnI w lo hi A cap is) (hp : hi ≤ p.block) (u : Value) : OwnI (w.setCell p u) lo hi A cap is := Own.other h (fun x hx e => by have := (Own.block h x hx).2.1; omega) u
/-- A net stored into a block below. -/
theorem OwnI.put4 {g : Nat} {a b c d : Value} (h : OwnI w lo hi A cap is) (hg : g < lo) : OwnI ((((w.setCell ⟨g, 0, none⟩ a).setCell ⟨g, 1, none⟩ b).setCell ⟨g, 2, none⟩ c).setCell ⟨g, 3, none⟩ d) lo hi A cap is :=
  (((h.low (p := ⟨g, 0, none⟩) hg a).low (p := ⟨g, 1, none⟩) hg b).low (p := ⟨g, 2, none⟩) hg c).low (p := ⟨g, 3, none⟩) hg d
theorem bel_put4 {g : Nat} {a b c d : Value} (h : Below B w w') (hg : B ≤ g) : Below B w ((((w'.setCell ⟨g, 0, none⟩ a).setCell ⟨g, 1, none⟩ b).setCell ⟨g, 2, none⟩ c).setCell ⟨g, 3, none⟩ d) :=
  (((h.setCell (p := ⟨g, 0, none⟩) hg a).setCell (p := ⟨g, 1, none⟩) hg b).setCell (p := ⟨g, 2, none⟩) hg c).setCell (p := ⟨g, 3, none⟩) hg d
/-- What was owned, behind a call. -/
theorem OwnI.since (h : OwnI w lo hi A cap is) (hb : Below w.heap.size w w') (hh : hi ≤ w.heap.size) : OwnI w' lo hi A cap is := h.below (hb.mono hh)
theorem IntsB.get (h : IntsB w B A is) (hn : 0 < is.length) : ∃ b off, A = some ⟨b, off, none⟩ ∧ b < B ∧ ∀ k (h : k < is.length), w.cell? ⟨b, off + k, none⟩ = some (.int .i64 is[k]) := by
  rcases h with h | ⟨b, off, hA, hlt, hc⟩
  · rw [List.map_eq_nil_iff] at h; subst h; simp at hn
  · refine ⟨b, off, hA, hlt, fun k hk => ?_⟩
    have hk' : k < (is.map intCs).length := by simpa using hk
    have h0 := hc k hk' 0 (by omega)
    simp only [List.getElem_map, Nat.mul_one, Nat.add_zero] at h0
    exact h0
theorem LetsB.get (h : LetsB w B A ls) (hn : 0 < ls.length) : ∃ b off, A = some ⟨b, off, none⟩ ∧ b < B ∧ ∀ k (h : k < ls.length), w.cell? ⟨b, off + k * 4, none⟩ = some (.int .i64 ls[k].1) ∧ w.cell? ⟨b, off + k * 4 + 1, none⟩ = some (.int .i64 ls[k].2.1) ∧ w.cell? ⟨b, off + k * 4 + 2, none⟩ = some (.int .i64 ls[k].2.2.1) ∧ w.cell? ⟨b, off + k * 4 + 3, none⟩ = some (.string ls[k].2.2.2) := by
  rcases h with h | ⟨b, off, hA, hlt, hc⟩
  · rw [List.map_eq_nil_iff] at h; subst h; simp at hn
  · refine ⟨b, off, hA, hlt, fun k hk => ?_⟩
    have hk' : k < (ls.map ltCs).length := by simpa using hk
    have h0 := hc k hk' 0 (by omega)
    have h1 := hc k hk' 1 (by omega)
    have h2 := hc k hk' 2 (by omega)
    have h3 := hc k hk' 3 (by omega)
    simp only [List.getElem_map] at h0 h1 h2 h3
    exact ⟨h0, h1, h2, h3⟩
/-- A part of the letters, from place k on. -/
theorem LetsB.part (h : LetsB w B A ls) (k : Nat) (hk : k ≤ ls.length) : LetsB w B (A.map fun p => ⟨p.block, p.off + k * 4, p.spot⟩) (ls.drop k) := by
  rcases h with h | ⟨b, off, hA, hlt, hc⟩
  · rw [List.map_eq_nil_iff] at h; subst h; exact .inl (by simp)
  · subst hA
    refine .inr ⟨b, off + k * 4, rfl, hlt, fun j hj i hi => ?_⟩
    have hj' : k + j < (ls.map ltCs).length := by simp at hj ⊢; omega
    have := hc (k + j) hj' i hi
    rw [show off + k * 4 + j * 4 + i = off + (k + j) * 4 + i by omega, this]
    simp
theorem LetsB.head (h : LetsB w B A ls) (k : Nat) : LetsB w B A (ls.take k) := by
  rcases h with h | ⟨b, off, hA, hlt, hc⟩
  · rw [List.map_eq_nil_iff] at h; subst h; exact .inl (by simp)
  · refine .inr ⟨b, off, hA, hlt, fun j hj i hi => ?_⟩
    have hj' : j < (ls.map ltCs).length := by simp at hj ⊢; omega
    rw [hc j hj' i hi]
    simp
end
/-- Lists that a law counts to at most 2^20. -/
def LSmall (ls : List (Int × Int × Int × ByteArray)) : Prop := ls.length ≤ 2000000 ∧ ∀ x ∈ ls, x.2.2.2.size ≤ 1048576
def LMax (ls : List (Int × Int × Int × ByteArray)) : Prop := ls.length ≤ maxLen ∧ ∀ x ∈ ls, x.2.2.2.size ≤ maxLen
def szLs (ls : List (Int × Int × Int × ByteArray)) : Nat := ls.length + (ls.map fun x => x.2.2.2.size).sum
theorem lsmall_of {ls : List (Int × Int × Int × ByteArray)} (h : szLs ls ≤ 1048576) : LSmall ls := by
  unfold szLs at h
  exact ⟨by omega, fun v hv => by have := le_sum (fun x : (Int × Int × Int × ByteArray) => x.2.2.2.size) ls v hv; omega⟩

section
variable {w : World} {g n k : Nat} {t : TypeId}
theorem Fill.snoc4 {L : List (List Value)} {u v x y : Value} (h : Fill w g n 4 t L L.length) (hk : L.length < n) :
    Fill ((((w.setCell ⟨g, L.length * 4, none⟩ u).setCell ⟨g, L.length * 4 + 1, none⟩ v).setCell ⟨g, L.length * 4 + 2, none⟩ x).setCell ⟨g, L.length * 4 + 3, none⟩ y) g n 4 t (L ++ [[u, v, x, y]]) (L ++ [[u, v, x, y]]).length := by
  obtain ⟨cur, hh, hs, hc⟩ := h
  refine ⟨(((cur.setIfInBounds (L.length * 4) u).setIfInBounds (L.length * 4 + 1) v).setIfInBounds (L.length * 4 + 2) x).setIfInBounds (L.length * 4 + 3) y, ?_, by simp [hs], fun j hj hjk i hi => ?_⟩
  · simp [World.setCell, Array.getElem?_modify, hh]
  · rcases Nat.lt_or_ge j L.length with h1 | h1
    · rw [Array.getElem?_setIfInBounds_ne (by omega), Array.getElem?_setIfInBounds_ne (by omega), Array.getElem?_setIfInBounds_ne (by omega), Array.getElem?_setIfInBounds_ne (by omega), List.getElem_append_left h1]
      exact hc j h1 h1 i hi
    · have hjl : j = L.length := by simp at hj; omega
      subst hjl
      have hi' : i = 0 ∨ i = 1 ∨ i = 2 ∨ i = 3 := by omega
      rcases hi' with rfl | rfl | rfl | rfl
      · rw [Array.getElem?_setIfInBounds_ne (by omega), Array.getElem?_setIfInBounds_ne (by omega), Array.getElem?_setIfInBounds_ne (by omega), Nat.add_zero, Array.getElem?_setIfInBounds_self_of_lt (by omega)]
        simp
      · rw [Array.getElem?_setIfInBounds_ne (by omega), Array.getElem?_setIfInBounds_ne (by omega), Array.getElem?_setIfInBounds_self_of_lt (by simp; omega)]
        simp
      · rw [Array.getElem?_setIfInBounds_ne (by omega), Array.getElem?_setIfInBounds_self_of_lt (by simp; omega)]
        simp
      · rw [Array.getElem?_setIfInBounds_self_of_lt (by simp; omega)]
        simp
theorem Fill.snocL {ls : List (Int × Int × Int × ByteArray)} (h : Fill w g n 4 t ((ls.take k).map ltCs) k) (hk : k < ls.length) (hn : k < n) :
    Fill ((((w.setCell ⟨g, k * 4, none⟩ (.int .i64 ls[k].1)).setCell ⟨g, k * 4 + 1, none⟩ (.int .i64 ls[k].2.1)).setCell ⟨g, k * 4 + 2, none⟩ (.int .i64 ls[k].2.2.1)).setCell ⟨g, k * 4 + 3, none⟩ (.string ls[k].2.2.2)) g n 4 t ((ls.take (k + 1)).map ltCs) (k + 1) := by
  have hl : ((ls.take k).map ltCs).length = k := by simp; omega
  have e : (ls.take (k + 1)).map ltCs = (ls.take k).map ltCs ++ [[.int .i64 ls[k].1, .int .i64 ls[k].2.1, .int .i64 ls[k].2.2.1, .string ls[k].2.2.2]] := by
    rw [List.take_succ_eq_append_getElem hk, List.map_append]
    rfl
  have h1 := Fill.snoc4 (u := .int .i64 ls[k].1) (v := .int .i64 ls[k].2.1) (x := .int .i64 ls[k].2.2.1) (y := .string ls[k].2.2.2) (L := (ls.take k).map ltCs) (by rw [hl]; exact h) (by omega)
  rw [hl] at h1
  rw [e]
  have hl2 : ((ls.take k).map ltCs ++ [[Value.int .i64 ls[k].1, .int .i64 ls[k].2.1, .int .i64 ls[k].2.2.1, .string ls[k].2.2.2]]).length = k + 1 := by rw [List.length_append, hl]; rfl
  rw [hl2] at h1
  exact h1
theorem Fill.snocI {is : List Int} (h : Fill w g n 1 t ((is.take k).map intCs) k) (hk : k < is.length) (hn : k < n) :
    Fill (w.setCell ⟨g, k, none⟩ (.int .i64 is[k])) g n 1 t ((is.take (k + 1)).map intCs) (k + 1) := by
  have hl : ((is.take k).map intCs).length = k := by simp; omega
  have e : (is.take (k + 1)).map intCs = (is.take k).map intCs ++ [[.int .i64 is[k]]] := by
    rw [List.take_succ_eq_append_getElem hk, List.map_append]
    rfl
  rw [e]
  obtain ⟨cur, hh, hs, hc⟩ := h
  refine ⟨cur.setIfInBounds k (.int .i64 is[k]), ?_, by simp [hs], fun j hj hjk i hi => ?_⟩
  · simp [World.setCell, Array.getElem?_modify, hh]
  · have hi0 : i = 0 := by omega
    subst hi0
    rcases Nat.lt_or_ge j k with h1 | h1
    · rw [Array.getElem?_setIfInBounds_ne (by omega), List.getElem_append_left (by rw [hl]; exact h1)]
      exact hc j (by rw [hl]; exact h1) h1 0 (by omega)
    · have hjl : j = k := by omega
      subst hjl
      rw [Nat.mul_one, Nat.add_zero, Array.getElem?_setIfInBounds_self_of_lt (by omega), List.getElem_append_right (by rw [hl]; exact Nat.le_refl _)]
      simp
end
end Go.Proofs.Ytlfdefjkfacngaa.Nt
