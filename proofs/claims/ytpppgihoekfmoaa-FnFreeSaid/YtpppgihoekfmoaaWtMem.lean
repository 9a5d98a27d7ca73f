/-
  Clocks, leases, acts and watches in memory: what reads as a list; what a call owns.
-/
import Derived.Test.YtpppgihoekfmoaaWtM
import Derived.Test.YtpppgihoekfmoaaMark
import Derived.Test.YtpppgihoekfmoaaApp
namespace Go.Proofs.Ytpppgihoekfmoaa.Wt
open Go.RowKit
set_option linter.unusedVariables false
set_option linter.unusedSimpArgs false

def ckCs (x : Int) : List Value := [.int .i64 x]
def leCs (x : (Int × Int × Int)) : List Value := [.int .i64 x.1, .int .i64 x.2.1, .int .i64 x.2.2]
theorem ckCs_len (is : List Int) : ∀ x ∈ is.map ckCs, x.length = 1 := by
  intro x hx; obtain ⟨v, _, rfl⟩ := List.mem_map.1 hx; rfl
theorem leCs_len (ls : List (Int × Int × Int)) : ∀ x ∈ ls.map leCs, x.length = 3 := by
  intro x hx; obtain ⟨v, _, rfl⟩ := List.mem_map.1 hx; rfl
theorem ckCs_one (is : List Int) : ∀ u ∈ (is.map ckCs).flatten, u.oneCell' = true := by
  intro u hu
  obtain ⟨l, hl, hu⟩ := List.mem_flatten.1 hu
  obtain ⟨v, _, rfl⟩ := List.mem_map.1 hl
  simp [ckCs] at hu
  subst hu; rfl
theorem leCs_one (ls : List (Int × Int × Int)) : ∀ u ∈ (ls.map leCs).flatten, u.oneCell' = true := by
  intro u hu
  obtain ⟨l, hl, hu⟩ := List.mem_flatten.1 hu
  obtain ⟨v, _, rfl⟩ := List.mem_map.1 hl
  simp [leCs] at hu
  rcases hu with rfl | rfl | rfl <;> rfl
theorem infoCk : (Try.prog.info? 27).map (fun i => (i.zero, i.size, i.bytes)) = some (some (.agg #[.int .i64 0]), 1, 8) := by kernel_rfl
theorem infoLe : (Try.prog.info? 55).map (fun i => (i.zero, i.size, i.bytes)) = some (some (.agg #[.int .i64 0, .int .i64 0, .int .i64 0]), 3, 24) := by kernel_rfl
theorem infoAct : (Try.prog.info? 36).map (fun i => (i.zero, i.size, i.bytes)) = some (some (.agg #[.int .i64 0, .int .i64 0, .int .i64 0]), 3, 24) := by kernel_rfl

def CksB (w : World) (B : Nat) (A : Option Addr) (is : List Int) : Prop := RowB w B A 1 (is.map ckCs)
def LesB (w : World) (B : Nat) (A : Option Addr) (ls : List (Int × Int × Int)) : Prop := RowB w B A 3 (ls.map leCs)
def OwnCk (w : World) (lo hi : Nat) (A : Option Addr) (cap : Nat) (is : List Int) : Prop := Own w lo hi 27 1 A cap (is.map ckCs)
def OwnLe (w : World) (lo hi : Nat) (A : Option Addr) (cap : Nat) (ls : List (Int × Int × Int)) : Prop := Own w lo hi 55 3 A cap (ls.map leCs)
def OwnAc (w : World) (lo hi : Nat) (A : Option Addr) (cap : Nat) (ls : List (Int × Int × Int)) : Prop := Own w lo hi 36 3 A cap (ls.map leCs)
section
variable {w w' : World} {B B' lo hi lo' hi' cap : Nat} {A A' : Option Addr} {is : List Int} {ls : List (Int × Int × Int)}
theorem CksB.below (h : CksB w B A is) (hb : Below B w w') : CksB w' B A is := RowB.below h hb
theorem CksB.mono (h : CksB w B A is) (hB : B ≤ B') : CksB w B' A is := RowB.mono h hB
theorem LesB.below (h : LesB w B A ls) (hb : Below B w w') : LesB w' B A ls := RowB.below h hb
theorem LesB.mono (h : LesB w B A ls) (hB : B ≤ B') : LesB w B' A ls := RowB.mono h hB
theorem OwnCk.below (h : OwnCk w lo hi A cap is) (hb : Below hi w w') : OwnCk w' lo hi A cap is := Own.below h hb
theorem OwnCk.wider (h : OwnCk w lo hi A cap is) (h1 : lo' ≤ lo) (h2 : hi ≤ hi') : OwnCk w lo' hi' A cap is := Own.wider h h1 h2
theorem OwnCk.mid (h : OwnCk w lo hi A cap is) (hm : Mid lo' hi' w w') (hd : hi' ≤ lo ∨ hi ≤ lo') : OwnCk w' lo hi A cap is := Own.mid h hm hd
theorem OwnCk.cks (h : OwnCk w lo hi A cap is) : CksB w hi A is := Own.row h
theorem OwnCk.low {p : Addr} (h : OwnCk w lo hi A cap is) (hp : p.block < lo) (u : Value) : OwnCk (w.setCell p u) lo hi A cap is := Own.other h (fun x hx e => by have := (Own.block h x hx).1; omega) u
theorem OwnCk.high {p : Addr} (h : OwnCk w lo hi A cap is) (hp : hi ≤ p.block) (u : Value) : OwnCk (w.setCell p u) lo hi A cap is := Own.other h (fun x hx e => by have := (Own.block h x hx).2.1; omega) u
theorem OwnCk.put3 {g : Nat} {a b c : Value} (h : OwnCk w lo hi A cap is) (hg : g < lo) : OwnCk (((w.setCell ⟨g, 0, none⟩ a).setCell ⟨g, 1, none⟩ b).setCell ⟨g, 2, none⟩ c) lo hi A cap is :=
  ((h.low (p := ⟨g, 0, none⟩) hg a).low (p := ⟨g, 1, none⟩) hg b).low (p := ⟨g, 2, none⟩) hg c
theorem OwnCk.since (h : OwnCk w lo hi A cap is) (hb : Below w.heap.size w w') (hh : hi ≤ w.heap.size) : OwnCk w' lo hi A cap is := h.below (hb.mono hh)
theorem OwnLe.below (h : OwnLe w lo hi A cap ls) (hb : Below hi w w') : OwnLe w' lo hi A cap ls := Own.below h hb
theorem OwnLe.wider (h : OwnLe w lo hi A cap ls) (h1 : lo' ≤ lo) (h2 : hi ≤ hi') : OwnLe w lo' hi' A cap ls := Own.wider h h1 h2
theorem OwnLe.mid (h : OwnLe w lo hi A cap ls) (hm : Mid lo' hi' w w') (hd : hi' ≤ lo ∨ hi ≤ lo') : OwnLe w' lo hi A cap ls := Own.mid h hm hd
theorem OwnLe.les (h : OwnLe w lo hi A cap ls) : LesB w hi A ls := Own.row h
theorem OwnLe.low {p : Addr} (h : OwnLe w lo hi A cap ls) (hp : p.block < lo) (u : Value) : OwnLe (w.setCell p u) lo hi A cap ls := Own.other h (fun x hx e => by have := (Own.block h x hx).1; omega) u
theorem OwnLe.high {p : Addr} (h : OwnLe w lo hi A cap ls) (hp : hi ≤ p.block) (u : Value) : OwnLe (w.setCell p u) lo hi A cap ls := Own.other h (fun x hx e => by have := (Own.block h x hx).2.1; omega) u
theorem OwnLe.put3 {g : Nat} {a b c : Value} (h : OwnLe w lo hi A cap ls) (hg : g < lo) : OwnLe (((w.setCell ⟨g, 0, none⟩ a).setCell ⟨g, 1, none⟩ b).setCell ⟨g, 2, none⟩ c) lo hi A cap ls :=
  ((h.low (p := ⟨g, 0, none⟩) hg a).low (p := ⟨g, 1, none⟩) hg b).low (p := ⟨g, 2, none⟩) hg c
theorem OwnLe.since (h : OwnLe w lo hi A cap ls) (hb : Below w.heap.size w w') (hh : hi ≤ w.heap.size) : OwnLe w' lo hi A cap ls := h.below (hb.mono hh)
theorem OwnAc.below (h : OwnAc w lo hi A cap ls) (hb : Below hi w w') : OwnAc w' lo hi A cap ls := Own.below h hb
theorem OwnAc.wider (h : OwnAc w lo hi A cap ls) (h1 : lo' ≤ lo) (h2 : hi ≤ hi') : OwnAc w lo' hi' A cap ls := Own.wider h h1 h2
theorem OwnAc.mid (h : OwnAc w lo hi A cap ls) (hm : Mid lo' hi' w w') (hd : hi' ≤ lo ∨ hi ≤ lo') : OwnAc w' lo hi A cap ls := Own.mid h hm hd
theorem OwnAc.les (h : OwnAc w lo hi A cap ls) : LesB w hi A ls := Own.row h
theorem OwnAc.low {p : Addr} (h : OwnAc w lo hi A cap ls) (hp : p.block < lo) (u : Value) : OwnAc (w.setCell p u) lo hi A cap ls := Own.other h (fun x hx e => by have := (Own.block h x hx).1; omega) u
theorem OwnAc.high {p : Addr} (h : OwnAc w lo hi A cap ls) (hp : hi ≤ p.block) (u : Value) : OwnAc (w.setCell p u) lo hi A cap ls := Own.other h (fun x hx e => by have := (Own.block h x hx).2.1; omega) u
theorem OwnAc.put3 {g : Nat} {a b c : Value} (h : OwnAc w lo hi A cap ls) (hg : g < lo) : OwnAc (((w.setCell ⟨g, 0, none⟩ a).setCell ⟨g, 1, none⟩ b).setCell ⟨g, 2, none⟩ c) lo hi A cap ls :=
  ((h.low (p := ⟨g, 0, none⟩) hg a).low (p := ⟨g, 1, none⟩) hg b).low (p := ⟨g, 2, none⟩) hg c
theorem OwnAc.since (h : OwnAc w lo hi A cap ls) (hb : Below w.heap.size w w') (hh : hi ≤ w.heap.size) : OwnAc w' lo hi A cap ls := h.below (hb.mono hh)
theorem bel_put3 {g : Nat} {a b c : Value} (h : Below B w w') (hg : B ≤ g) : Below B w (((w'.setCell ⟨g, 0, none⟩ a).setCell ⟨g, 1, none⟩ b).setCell ⟨g, 2, none⟩ c) :=
  ((h.setCell (p := ⟨g, 0, none⟩) hg a).setCell (p := ⟨g, 1, none⟩) hg b).setCell (p := ⟨g, 2, none⟩) hg c
theorem CksB.get (h : CksB w B A is) (hn : 0 < is.length) : ∃ b off, A = some ⟨b, off, none⟩ ∧ b < B ∧ ∀ k (h : k < is.length), w.cell? ⟨b, off + k, none⟩ = some (.int .i64 is[k]) := by
  rcases h with h | ⟨b, off, hA, hlt, hc⟩
  · rw [List.map_eq_nil_iff] at h; subst h; simp at hn
  · refine ⟨b, off, hA, hlt, fun k hk => ?_⟩
    have hk' : k < (is.map ckCs).length := by simpa using hk
    have h0 := hc k hk' 0 (by omega)
    simp only [List.getElem_map, Nat.mul_one, Nat.add_zero] at h0
    exact h0
theorem LesB.get (h : LesB w B A ls) (hn : 0 < ls.length) : ∃ b off, A = some ⟨b, off, none⟩ ∧ b < B ∧ ∀ k (h : k < ls.length), w.cell? ⟨b, off + k * 3, none⟩ = some (.int .i64 ls[k].1) ∧ w.cell? ⟨b, off + k * 3 + 1, none⟩ = some (.int .i64 ls[k].2.1) ∧ w.cell? ⟨b, off + k * 3 + 2, none⟩ = some (.int .i64 ls[k].2.2) := by
  rcases h with h | ⟨b, off, hA, hlt, hc⟩
  · rw [List.map_eq_nil_iff] at h; subst h; simp at hn
  · refine ⟨b, off, hA, hlt, fun k hk => ?_⟩
    have hk' : k < (ls.map leCs).length := by simpa using hk
    have h0 := hc k hk' 0 (by omega)
    have h1 := hc k hk' 1 (by omega)
    have h2 := hc k hk' 2 (by omega)
    simp only [List.getElem_map] at h0 h1 h2
    exact ⟨h0, h1, h2⟩
end

section
variable {w : World} {g n k : Nat} {t : TypeId}
theorem Fill.snocLe {ls : List (Int × Int × Int)} (h : Fill w g n 3 t ((ls.take k).map leCs) k) (hk : k < ls.length) (hn : k < n) :
    Fill (((w.setCell ⟨g, k * 3, none⟩ (.int .i64 ls[k].1)).setCell ⟨g, k * 3 + 1, none⟩ (.int .i64 ls[k].2.1)).setCell ⟨g, k * 3 + 2, none⟩ (.int .i64 ls[k].2.2)) g n 3 t ((ls.take (k + 1)).map leCs) (k + 1) := by
  have hl : ((ls.take k).map leCs).length = k := by simp; omega
  have e : (ls.take (k + 1)).map leCs = (ls.take k).map leCs ++ [[.int .i64 ls[k].1, .int .i64 ls[k].2.1, .int .i64 ls[k].2.2]] := by
    rw [List.take_succ_eq_append_getElem hk, List.map_append]
    rfl
  have h1 := Fill.snoc3 (u := .int .i64 ls[k].1) (v := .int .i64 ls[k].2.1) (x := .int .i64 ls[k].2.2) (L := (ls.take k).map leCs) (by rw [hl]; exact h) (by omega)
  rw [hl] at h1
  rw [e]
  have hl2 : ((ls.take k).map leCs ++ [[Value.int .i64 ls[k].1, .int .i64 ls[k].2.1, .int .i64 ls[k].2.2]]).length = k + 1 := by rw [List.length_append, hl]; rfl
  rw [hl2] at h1
  exact h1
theorem Fill.snocCk {is : List Int} (h : Fill w g n 1 t ((is.take k).map ckCs) k) (hk : k < is.length) (hn : k < n) :
    Fill (w.setCell ⟨g, k, none⟩ (.int .i64 is[k])) g n 1 t ((is.take (k + 1)).map ckCs) (k + 1) := by
  have hl : ((is.take k).map ckCs).length = k := by simp; omega
  have e : (is.take (k + 1)).map ckCs = (is.take k).map ckCs ++ [[.int .i64 is[k]]] := by
    rw [List.take_succ_eq_append_getElem hk, List.map_append]
    rfl
  rw [e]
  obtain ⟨cur, hh, hs, hc⟩ := h
  refine ⟨cur.setIfInBounds k (.int .i64 is[k]), ?_, by simp [hs], fun j hj hjk i hi => ?_⟩
  · simp [World.setCell, Array.getElem?_modify, hh]
  · have hi0 : i = 0 := by omega
    subst hi0
    rcases Nat.lt_or_ge j k with h1 | h1
    · rw [Array.getElem?_setIfInBounds_ne (by omega), List.getElem_append_left (by rw [hl]; exact h1)]
      exact hc j (by rw [hl]; exact h1) h1 0 (by omega)
    · have hjl : j = k := by omega
      subst hjl
      rw [Nat.mul_one, Nat.add_zero, Array.getElem?_setIfInBounds_self_of_lt (by omega), List.getElem_append_right (by rw [hl]; exact Nat.le_refl _)]
      simp
end
end Go.Proofs.Ytpppgihoekfmoaa.Wt
