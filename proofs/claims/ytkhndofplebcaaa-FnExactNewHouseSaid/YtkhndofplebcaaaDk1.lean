/-
  Contracts for the small functions of chapter 6, of the program and of the model: valid disks, frames' bytes, writing and syncing.
-/
import Derived.Test.YtkhndofplebcaaaDkM
import Derived.Deep.RegionLaw
namespace Go.Proofs.Ytkhndofplebcaaa.Dk
open Go.RowKit C1
set_option linter.unusedVariables false

theorem below1 (w : World) (o : Obj) : Below w.heap.size w (w.alloc o) := (Below.refl _ _).alloc (Nat.le_refl _) o
theorem below2 (w : World) (o p : Obj) : Below w.heap.size w ((w.alloc o).alloc p) := (below1 w o).alloc (by simp) p
theorem below3 (w : World) (o p q : Obj) : Below w.heap.size w (((w.alloc o).alloc p).alloc q) := (below2 w o p).alloc (by simp; omega) q
theorem bcell {W w1 : World} (hb : Below W.heap.size W w1) : (∀ b o, b < W.heap.size → w1.cell? ⟨b, o, none⟩ = W.cell? ⟨b, o, none⟩) ∧ (∀ b o, b < W.heap.size → w1.frozen? ⟨b, o, none⟩ = W.frozen? ⟨b, o, none⟩) :=
  ⟨fun b o h => hb.cell (p := ⟨b, o, none⟩) h, fun b o h => hb.frozen (p := ⟨b, o, none⟩) h⟩

/-- The disk may hold so many bytes. -/
def goodB (k l : ByteArray) : Bool := decide (k.size + l.size ≤ 50000)
theorem goodB_yes {k l : ByteArray} (h : k.size + l.size ≤ 50000) : goodB k l = true := by simp [goodB, h]
theorem goodB_no {k l : ByteArray} (h : ¬ k.size + l.size ≤ 50000) : goodB k l = false := by simp [goodB]; omega
theorem goodB_le {k l : ByteArray} (h : goodB k l = true) : k.size + l.size ≤ 50000 := by simpa [goodB] using h
/-- A size that no sum makes too large. -/
def Few (s : ByteArray) : Prop := s.size ≤ 4000000

theorem eqDisk_same (k l : ByteArray) (w : World) :
    Calls Try.prog 107 #[.agg #[.string k, .string l], .agg #[.string k, .string l]] w fun e w' => e = .returned (.bool true) ∧ Below w.heap.size w w' := by
  go_enter Try.func107, Try.ntmps107
  go_wp2
  go_ret
  exact ⟨rfl, below2 _ _ _⟩

theorem add_list (a b : List UInt8) : (⟨a.toArray⟩ ++ ⟨b.toArray⟩ : ByteArray) = ⟨(a ++ b).toArray⟩ := by
  apply ByteArray.ext
  apply Array.ext'
  simp
end Go.Proofs.Ytkhndofplebcaaa.Dk
