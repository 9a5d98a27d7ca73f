/-
  Contract for the model's choice among texts.
-/
import Derived.Test.YtlfdefjkfacngaaTools
namespace Go.Proofs.Ytlfdefjkfacngaa
open Go.RowKit
set_option linter.unusedVariables false

/-- A new block of strings reads as the list. -/
theorem new_strs (w : World) (xs : List ByteArray) (t : TypeId) : ∀ k (h : k < xs.length), (w.alloc (.cells (xs.map Value.string).toArray t)).cell? ⟨w.heap.size, k, none⟩ = some (.string xs[k]) := by
  intro k hk
  rw [cell_of_row _ w.heap.size k _ t (0, 0) (heap_alloc_new w _)]
  simp [List.getElem?_eq_getElem hk]
/-- Some text of at most m bytes, the cursor gone on by at most d. -/
def StrPost (w : World) (g : Nat) (l : List UInt8) (A : Option Addr) (c q d m : Nat) (e : Ending) (w' : World) : Prop :=
  ∃ (t : ByteArray) (q' : Nat), e = .returned (.string t) ∧ t.size ≤ m ∧ q' ≤ q + d ∧ Cur w' g l A c q' ∧ w.grownBy w' (some g)

set_option maxRecDepth 100000 in
set_option maxHeartbeats 1000000 in
theorem of_any (g : Nat) (l : List UInt8) (A : Option Addr) (c q : Nat) (b n cap m : Nat) (xs : List ByteArray) (w : World) (h : Cur w g l A c q) (hl : l.length ≤ 1048576) (hq : q ≤ 900000000)
    (hn : xs.length = n) (h1 : 1 ≤ n) (h2 : n ≤ 1000) (hbg : b ≠ g) (hc : ∀ k (h : k < xs.length), w.cell? ⟨b, k, none⟩ = some (.string xs[k])) (hm : ∀ k (h : k < xs.length), xs[k].size ≤ m) :
    Calls Try.prog 94 #[.pointer (some ⟨g, 0, none⟩), .slice (some ⟨b, 0, none⟩) n cap] w (StrPost w g l A c q 2 m) := by
  have H := Lib.hid h
  have HC := Lib.hid hc
  have HM := Lib.hid hm
  have HN := Lib.hid hn
  clear h hc hm hn
  go_enter Try.func94, Try.ntmps94
  go_wp2_with fail
  refine (pick_any g l A c q n _ H.out hl hq (by omega) (by omega)).mono ?_
  rintro e w1 ⟨x, q1, hx0, hx1, rfl, hq1, hC1, hG1⟩
  obtain ⟨k, rfl⟩ := Int.eq_ofNat_of_zero_le hx0
  have hk : k < xs.length := by rw [HN.out]; omega
  have hck := hG1.cell (HC.out k hk) (by simp; exact hbg)
  have hkn : (k : Int) < (n : Int) := by omega
  go_wp2
  go_ret
  exact ⟨_, q1, rfl, HM.out k hk, hq1, hC1, hG1⟩
end Go.Proofs.Ytlfdefjkfacngaa
