/-
  Locks in memory: what reads as a list; what a call owns.
-/
import Derived.Test.YtlfdefjkfacngaaMark
import Derived.Test.YtlfdefjkfacngaaHeld
import Derived.Test.YtlfdefjkfacngaaApp
import Derived.Test.YtlfdefjkfacngaaLkM
namespace Go.Proofs.Ytlfdefjkfacngaa.Lk
open Go.RowKit
set_option linter.unusedVariables false
set_option linter.unusedSimpArgs false

def lkCs (x : LK) : List Value := [.string x.1, .int .i64 x.2.1, .bool x.2.2]
theorem lkCs_len (ws : List LK) : ∀ x ∈ ws.map lkCs, x.length = 3 := by
  intro x hx; obtain ⟨v, _, rfl⟩ := List.mem_map.1 hx; rfl
theorem lkCs_one (ls : List LK) : ∀ u ∈ (ls.map lkCs).flatten, u.oneCell' = true := by
  intro u hu
  obtain ⟨l, hl, hu⟩ := List.mem_flatten.1 hu
  obtain ⟨v, _, rfl⟩ := List.mem_map.1 hl
  simp [lkCs] at hu
  rcases hu with rfl | rfl | rfl <;> rfl
theorem infoLock : (Try.prog.info? 27).map (fun i => (i.zero, i.size, i.bytes)) = some (some (.agg #[.string ⟨#[]⟩, .int .i64 0, .bool false]), 3, 32) := by kernel_rfl
def KMax (ls : List LK) : Prop := ls.length ≤ maxLen ∧ ∀ x ∈ ls, x.1.size ≤ maxLen
def KSmall (ls : List LK) : Prop := ls.length ≤ 1048576 ∧ ∀ x ∈ ls, x.1.size ≤ 1048576
def szKs (ls : List LK) : Nat := ls.length + (ls.map fun x => x.1.size).sum
theorem ksmall_of {ls : List LK} (h : szKs ls ≤ 1048576) : KSmall ls := by
  unfold szKs at h
  exact ⟨by omega, fun v hv => by have := le_sum (fun x : LK => x.1.size) ls v hv; omega⟩
def LksB (w : World) (B : Nat) (A : Option Addr) (ls : List LK) : Prop := RowB w B A 3 (ls.map lkCs)
def LksAt (w : World) (A : Option Addr) (ls : List LK) : Prop := LksB w w.heap.size A ls ∧ KMax ls
def OwnK (w : World) (lo hi : Nat) (A : Option Addr) (cap : Nat) (ls : List LK) : Prop := Own w lo hi 27 3 A cap (ls.map lkCs)
section
variable {w w' : World} {B B' lo hi lo' hi' cap : Nat} {A A' : Option Addr} {ls : List LK}
theorem LksB.below (h : LksB w B A ls) (hb : Below B w w') : LksB w' B A ls := RowB.below h hb
theorem LksB.mono (h : LksB w B A ls) (hB : B ≤ B') : LksB w B' A ls := RowB.mono h hB
theorem OwnK.below (h : OwnK w lo hi A cap ls) (hb : Below hi w w') : OwnK w' lo hi A cap ls := Own.below h hb
theorem OwnK.wider (h : OwnK w lo hi A cap ls) (h1 : lo' ≤ lo) (h2 : hi ≤ hi') : OwnK w lo' hi' A cap ls := Own.wider h h1 h2
theorem OwnK.mid (h : OwnK w lo hi A cap ls) (hm : Mid lo' hi' w w') (hd : hi' ≤ lo ∨ hi ≤ lo') : OwnK w' lo hi A cap ls := Own.mid h hm hd
theorem OwnK.lks (h : OwnK w lo hi A cap ls) : LksB w hi A ls := Own.row h
theorem OwnK.low {p : Addr} (h : OwnK w lo hi A cap ls) (hp : p.block < lo) (u : Value) : OwnK (w.setCell p u) lo hi A cap ls := Own.other h (fun x hx e => by have := (Own.block h x hx).1; omega) u
theorem OwnK.high {p : Addr} (h : OwnK w lo hi A cap ls) (hp : hi ≤ p.block) (u : Value) : OwnK (w.setCell p u) lo hi A cap ls := Own.other h (fun x hx e => by have := (Own.block h x hx).2.1; omega) u
theorem OwnK.since (h : OwnK w lo hi A cap ls) (hb : Below w.heap.size w w') (hh : hi ≤ w.heap.size) : OwnK w' lo hi A cap ls := h.below (hb.mono hh)
theorem LksB.get (h : LksB w B A ls) (hn : 0 < ls.length) : ∃ b off, A = some ⟨b, off, none⟩ ∧ b < B ∧ ∀ k (h : k < ls.length), w.cell? ⟨b, off + k * 3, none⟩ = some (.string ls[k].1) ∧ w.cell? ⟨b, off + k * 3 + 1, none⟩ = some (.int .i64 ls[k].2.1) ∧ w.cell? ⟨b, off + k * 3 + 2, none⟩ = some (.bool ls[k].2.2) := by
  rcases h with h | ⟨b, off, hA, hlt, hc⟩
  · rw [List.map_eq_nil_iff] at h; subst h; simp at hn
  · refine ⟨b, off, hA, hlt, fun k hk => ?_⟩
    have hk' : k < (ls.map lkCs).length := by simpa using hk
    have h0 := hc k hk' 0 (by omega)
    have h1 := hc k hk' 1 (by omega)
    have h2 := hc k hk' 2 (by omega)
    simp only [List.getElem_map] at h0 h1 h2
    exact ⟨h0, h1, h2⟩
/-- A part of a row: from element k on. -/
theorem LksB.part {b off : Nat} (h : LksB w B (some ⟨b, off, none⟩) ls) (k : Nat) (hk : k ≤ ls.length) : LksB w B (some ⟨b, off + k * 3, none⟩) (ls.drop k) := by
  rcases h with h | ⟨b', off', hA, hlt, hc⟩
  · rw [List.map_eq_nil_iff] at h; subst h; exact .inl (by simp)
  · injection hA with hA
    injection hA with e1 e2
    subst e1 e2
    refine .inr ⟨_, _, rfl, hlt, fun j hj i hi => ?_⟩
    have hj' : k + j < (ls.map lkCs).length := by simp at hj ⊢; omega
    have h0 := hc (k + j) hj' i hi
    rw [show off + k * 3 + j * 3 + i = off + (k + j) * 3 + i by omega, h0]
    simp
theorem LksB.head (h : LksB w B A ls) (k : Nat) : LksB w B A (ls.take k) := by
  rcases h with h | ⟨b, off, hA, hlt, hc⟩
  · rw [List.map_eq_nil_iff] at h; subst h; exact .inl (by simp)
  · refine .inr ⟨b, off, hA, hlt, fun j hj i hi => ?_⟩
    have hj' : j < (ls.map lkCs).length := by simp at hj ⊢; omega
    rw [hc j hj' i hi]
    simp
end
section
variable {w : World} {g n k : Nat} {t : TypeId}
theorem Fill.snocK {vs : List LK} (h : Fill w g n 3 t ((vs.take k).map lkCs) k) (hk : k < vs.length) (hn : k < n) :
    Fill (((w.setCell ⟨g, k * 3, none⟩ (.string vs[k].1)).setCell ⟨g, k * 3 + 1, none⟩ (.int .i64 vs[k].2.1)).setCell ⟨g, k * 3 + 2, none⟩ (.bool vs[k].2.2)) g n 3 t ((vs.take (k + 1)).map lkCs) (k + 1) := by
  have hl : ((vs.take k).map lkCs).length = k := by simp; omega
  have e : (vs.take (k + 1)).map lkCs = (vs.take k).map lkCs ++ [[.string vs[k].1, .int .i64 vs[k].2.1, .bool vs[k].2.2]] := by
    rw [List.take_succ_eq_append_getElem hk, List.map_append]
    rfl
  have h1 := Fill.snoc3 (u := .string vs[k].1) (v := .int .i64 vs[k].2.1) (x := .bool vs[k].2.2) (L := (vs.take k).map lkCs) (by rw [hl]; exact h) (by omega)
  rw [hl] at h1
  rw [e]
  have hl2 : ((vs.take k).map lkCs ++ [[Value.string vs[k].1, .int .i64 vs[k].2.1, .bool vs[k].2.2]]).length = k + 1 := by rw [List.length_append, hl]; rfl
  rw [hl2] at h1
  exact h1
end
end Go.Proofs.Ytlfdefjkfacngaa.Lk
