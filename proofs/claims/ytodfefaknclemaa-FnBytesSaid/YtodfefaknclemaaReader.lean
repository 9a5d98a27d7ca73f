/-
  Contracts for the model's reader (l1R): one byte, and a number.
-/
import Derived.Test.YtodfefaknclemaaRead
import Derived.Deep.Draws
import Derived.Deep.QuietTactic
import Derived.BigQuiet
import Derived.Deep.RegionHeld3
import Derived.Laws.Pointers
namespace Go.Proofs.Ytodfefaknclemaa
open Go.RowKit

/-- Block g is a reader of s at offset q, bad or not. -/
def RAt (w : World) (g : Nat) (s : ByteArray) (q : Nat) (bad : Bool) : Prop := w.heap[g]? = some (.cells #[.string s, .int .i64 (q : Int), .bool bad] 66 (0, 0))

section
variable {w w' w1 w2 : World} {g : Nat} {s : ByteArray} {q : Nat} {bad : Bool}
theorem RAt.lt (h : RAt w g s q bad) : g < w.heap.size := (Array.getElem?_eq_some_iff.1 h).1
theorem RAt.c0 (h : RAt w g s q bad) : w.cell? ⟨g, 0, none⟩ = some (.string s) := cell_of_row w g 0 _ 66 (0, 0) h
theorem RAt.c1 (h : RAt w g s q bad) : w.cell? ⟨g, 1, none⟩ = some (.int .i64 (q : Int)) := cell_of_row w g 1 _ 66 (0, 0) h
theorem RAt.c2 (h : RAt w g s q bad) : w.cell? ⟨g, 2, none⟩ = some (.bool bad) := cell_of_row w g 2 _ 66 (0, 0) h
theorem RAt.fr (h : RAt w g s q bad) (i : Nat) : w.frozen? ⟨g, i, none⟩ = false := by
  unfold RAt at h
  simp [World.frozen?, h]
theorem RAt.drewN (h : RAt w g s q bad) (n : Nat) : RAt (w.drewN n) g s q bad := h
theorem RAt.set1 (h : RAt w g s q bad) (q' : Nat) : RAt (w.setCell ⟨g, 1, none⟩ (.int .i64 (q' : Int))) g s q' bad := by
  unfold RAt at h ⊢
  simp [World.setCell, Array.getElem?_modify, h]
theorem RAt.set2 (h : RAt w g s q bad) (b : Bool) : RAt (w.setCell ⟨g, 2, none⟩ (.bool b)) g s q b := by
  unfold RAt at h ⊢
  simp [World.setCell, Array.getElem?_modify, h]
theorem RAt.below {B : Nat} (h : RAt w g s q bad) (hb : Below B w w') (hg : g < B) : RAt w' g s q bad := (hb.block g hg).trans h
theorem grown_refl (w : World) (row : Option Nat) : w.grownBy w row := ⟨rfl, rfl, rfl, Nat.le_refl _, fun _ _ _ => rfl⟩
theorem grown_trans {row : Option Nat} (h : w.grownBy w1 row) (k : w1.grownBy w2 row) : w.grownBy w2 row :=
  ⟨k.os.trans h.os, k.tape.trans h.tape, k.output.trans h.output, Nat.le_trans h.size k.size, fun i hi hr => (k.block i (Nat.lt_of_lt_of_le hi h.size) hr).trans (h.block i hi hr)⟩
theorem grown_drewN {row : Option Nat} (h : w.grownBy w1 row) (n : Nat) : w.grownBy (w1.drewN n) row := ⟨h.os, h.tape, h.output, h.size, h.block⟩
theorem grown_set {row : Option Nat} (h : w.grownBy w1 row) {p : Addr} (hp : some p.block = row) (u : Value) : w.grownBy (w1.setCell p u) row :=
  grown_trans h ⟨rfl, rfl, rfl, by simp [World.setCell], fun k hk hr => Below.heap_setCell _ _ _ _ (fun e => hr (by rw [e]; exact hp))⟩
theorem grown_below {row : Option Nat} (h : w.grownBy w1 row) (hb : Below w1.heap.size w1 w2) : w.grownBy w2 row :=
  grown_trans h ⟨hb.os, hb.tape, hb.output, hb.size, fun k hk _ => hb.block k hk⟩
theorem below_of_grown {B : Nat} (h : w.grownBy w1 (some g)) (hB : B ≤ g) (hw : B ≤ w.heap.size) : Below B w w1 :=
  ⟨h.os, h.tape, h.output, h.size, fun k hk => h.block k (by omega) (by simp; omega)⟩
end

set_option maxRecDepth 100000 in
set_option maxHeartbeats 400000 in
theorem one_yes (g : Nat) (s : ByteArray) (q : Nat) (w : World) (h : RAt w g s q false) (hs : s.size ≤ 6000) (hq : q < s.size) :
    Calls Try.prog 78 #[.pointer (some ⟨g, 0, none⟩)] w fun e w' => e = .returned (.int .i64 (s[q].toNat : Int)) ∧ RAt w' g s (q + 1) false ∧ w.grownBy w' (some g) := by
  have hc0 := h.c0
  have hc1 := h.c1
  have hc2 := h.c2
  have hf1 := h.fr 1
  have h8 : (s[q].toNat : Int) < 256 := by have := s[q].toNat_lt; omega
  go_enter Try.func78, Try.ntmps78
  go_wp2_with fail
  go_quiet (fail)
  go_wp2_with fail
  go_quiet (fail)
  go_wp2
  go_ret
  exact ⟨rfl, ((h.drewN _).set1 (q + 1)).drewN _, grown_drewN (grown_set (grown_drewN (grown_refl _ _) _) rfl _) _⟩

set_option maxRecDepth 100000 in
set_option maxHeartbeats 400000 in
theorem one_bad (g : Nat) (s : ByteArray) (q : Nat) (bad : Bool) (w : World) (h : RAt w g s q bad) (hq : bad = true ∨ s.size ≤ q) :
    Calls Try.prog 78 #[.pointer (some ⟨g, 0, none⟩)] w fun e w' => e = .returned (.int .i64 0) ∧ RAt w' g s q true ∧ w.grownBy w' (some g) := by
  have hc0 := h.c0
  have hc1 := h.c1
  have hf2 := h.fr 2
  cases bad with
  | true =>
    have hc2 := h.c2
    clear hq
    go_enter Try.func78, Try.ntmps78
    go_wp2_with fail
    go_quiet (fail)
    go_wp2
    go_ret
    exact ⟨rfl, (h.drewN _).set2 true, grown_set (grown_drewN (grown_refl _ _) _) rfl _⟩
  | false =>
    have hc2 := h.c2
    have hq2 : s.size ≤ q := by simpa using hq
    clear hq
    go_enter Try.func78, Try.ntmps78
    go_wp2_with fail
    go_quiet (fail)
    go_wp2
    go_ret
    exact ⟨rfl, (h.drewN _).set2 true, grown_set (grown_drewN (grown_refl _ _) _) rfl _⟩
end Go.Proofs.Ytodfefaknclemaa
