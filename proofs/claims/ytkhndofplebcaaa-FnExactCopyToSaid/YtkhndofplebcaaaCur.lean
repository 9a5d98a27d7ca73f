/-
  Contracts for the model's drawing cursor (l1Cur): a byte, a number below n, a yes or no, a choice among numbers; a new cursor. What calls over a cursor leave of the world.
-/
import Derived.Test.YtkhndofplebcaaaRows
import Derived.WalkKit
import Derived.ProofKit
import Derived.Below
import Derived.Lib.Hide
import Derived.OwnWalk
import Derived.Outline
import Derived.Deep.Draws
import Derived.Deep.QuietTactic
import Derived.BigQuiet
import Derived.Deep.RegionHeld3
import Derived.Laws.Pointers
import Derived.Laws.ResultCell
import Derived.WalkSpells
import Derived.WalkLawsBesides
import Derived.Laws.BitsAllLaws
import Derived.Laws.IdiomStrings
import Derived.Laws.BytesArg
namespace Go.Proofs.Ytkhndofplebcaaa
open Go.RowKit
set_option linter.unusedVariables false

/-- A slice of bytes that reads as the list l: nil and empty, or cells at an address. -/
def BytesAt (w : World) (A : Option Addr) (l : List UInt8) : Prop :=
  l = [] ∨ ∃ b off, A = some ⟨b, off, none⟩ ∧ b < w.heap.size ∧ ∀ k (h : k < l.length), w.cell? ⟨b, off + k, none⟩ = some (.int .u8 (l[k].toNat : Int))
theorem BytesAt.below {w w' : World} {A : Option Addr} {l : List UInt8} (h : BytesAt w A l) (hb : Below w.heap.size w w') : BytesAt w' A l := by
  rcases h with h | ⟨b, off, hA, hlt, hc⟩
  · exact .inl h
  · exact .inr ⟨b, off, hA, Nat.lt_of_lt_of_le hlt hb.size, fun k hk => (hb.cell (p := ⟨b, off + k, none⟩) hlt).trans (hc k hk)⟩
theorem ret_int {k : IntKind} {a b : Int} (h : a = b) : Ending.returned (.int k a) = .returned (.int k b) := by rw [h]
theorem val_int {k : IntKind} {a b : Int} (h : a = b) : Value.int k a = .int k b := by rw [h]
/-- A number that a walk has drawn, as a natural number. -/
theorem nat_of {x : Int} (h : 0 ≤ x) : ∃ k : Nat, x = (k : Int) := Int.eq_ofNat_of_zero_le h

section
variable {w w' w1 w2 : World} {g : Nat}
theorem grown_refl (w : World) (row : Option Nat) : w.grownBy w row := ⟨rfl, rfl, rfl, Nat.le_refl _, fun _ _ _ => rfl⟩
theorem grown_trans {row : Option Nat} (h : w.grownBy w1 row) (k : w1.grownBy w2 row) : w.grownBy w2 row :=
  ⟨k.os.trans h.os, k.tape.trans h.tape, k.output.trans h.output, Nat.le_trans h.size k.size, fun i hi hr => (k.block i (Nat.lt_of_lt_of_le hi h.size) hr).trans (h.block i hi hr)⟩
theorem grown_drewN {row : Option Nat} (h : w.grownBy w1 row) (n : Nat) : w.grownBy (w1.drewN n) row := ⟨h.os, h.tape, h.output, h.size, h.block⟩
theorem grown_set {row : Option Nat} (h : w.grownBy w1 row) {p : Addr} (hp : some p.block = row) (u : Value) : w.grownBy (w1.setCell p u) row :=
  grown_trans h ⟨rfl, rfl, rfl, by simp [World.setCell], fun k hk hr => Below.heap_setCell _ _ _ _ (fun e => hr (by rw [e]; exact hp))⟩
theorem grown_below {row : Option Nat} (h : w.grownBy w1 row) (hb : Below w1.heap.size w1 w2) : w.grownBy w2 row :=
  grown_trans h ⟨hb.os, hb.tape, hb.output, hb.size, fun k hk _ => hb.block k hk⟩
theorem below_of_grown {B : Nat} (h : w.grownBy w1 (some g)) (hB : B ≤ g) (hw : B ≤ w.heap.size) : Below B w w1 :=
  ⟨h.os, h.tape, h.output, h.size, fun k hk => h.block k (by omega) (by simp; omega)⟩
end

/-- x is a number of the kind uint64. -/
def U64 (x : Int) : Prop := 0 ≤ x ∧ x < 18446744073709551616
/-- The bytes l lie in a block below g. -/
def BytesBelow (w : World) (A : Option Addr) (l : List UInt8) (g : Nat) : Prop :=
  l = [] ∨ ∃ b off, A = some ⟨b, off, none⟩ ∧ b < g ∧ ∀ k (h : k < l.length), w.cell? ⟨b, off + k, none⟩ = some (.int .u8 (l[k].toNat : Int))
section
variable {w w' : World} {g c q : Nat} {l : List UInt8} {A : Option Addr}
theorem BytesBelow.keep (h : BytesBelow w A l g) (hk : ∀ p : Addr, p.block < g → w'.cell? p = w.cell? p) : BytesBelow w' A l g := by
  rcases h with h | ⟨b, off, hA, hb, hc⟩
  · exact .inl h
  · exact .inr ⟨b, off, hA, hb, fun k hk' => (hk ⟨b, off + k, none⟩ hb).trans (hc k hk')⟩
end

theorem u64_wrap (x : Int) : U64 (IntKind.u64.wrap x) := by
  have h : IntKind.u64.wrap x = x % 18446744073709551616 := by simp [IntKind.wrap, IntKind.signed, IntKind.bits]
  rw [h]
  unfold U64
  omega
theorem stepped_grown (w : World) (g m1 m2 : Nat) (u v : Value) : w.grownBy ((((w.drewN m1).setCell ⟨g, 1, none⟩ u).setCell ⟨g, 2, none⟩ v).drewN m2) (some g) :=
  grown_drewN (grown_set (p := ⟨g, 2, none⟩) (grown_set (p := ⟨g, 1, none⟩) (grown_drewN (grown_refl w (some g)) m1) rfl u) rfl v) m2
theorem and255 (x : Int) (h : U64 x) : 0 ≤ wrap64 (bits .and .u64 (x / 1099511627776) 255) ∧ wrap64 (bits .and .u64 (x / 1099511627776) 255) ≤ 255 := by
  unfold U64 at h
  rw [u64_and (x / 1099511627776) 255 (by omega) (by omega) (by omega) (by omega)]
  have h1 : (x / 1099511627776).toNat &&& (255 : Int).toNat ≤ 255 := Nat.and_le_right
  obtain ⟨n, hn⟩ : ∃ n, n = (x / 1099511627776).toNat &&& (255 : Int).toNat := ⟨_, rfl⟩
  rw [← hn] at h1 ⊢
  rw [IntWalk.wrap64_in (n : Int) ⟨by omega, by omega⟩]
  omega

theorem mod_pick (x n : Int) (h0 : 0 ≤ x) (hn : 1 < n) : 0 ≤ x % n ∧ x % n ≤ n - 1 := by
  have h1 := Int.emod_nonneg x (show n ≠ 0 by omega)
  have h2 := Int.emod_lt_of_pos x (show 0 < n by omega)
  omega

/-- A new block of numbers reads as the list. -/
theorem new_ints (w : World) (xs : List Int) (t : TypeId) : ∀ k (h : k < xs.length), (w.alloc (.cells (xs.map (Value.int .i64)).toArray t)).cell? ⟨w.heap.size, k, none⟩ = some (.int .i64 xs[k]) := by
  intro k hk
  rw [cell_of_row _ w.heap.size k _ t (0, 0) (heap_alloc_new w _)]
  simp [List.getElem?_eq_getElem hk]

theorem BytesAt.toBelow {w : World} {A : Option Addr} {l : List UInt8} (h : BytesAt w A l) : BytesBelow w A l w.heap.size := by
  rcases h with h | ⟨b, off, hA, hb, hc⟩
  · exact .inl h
  · exact .inr ⟨b, off, hA, hb, hc⟩
end Go.Proofs.Ytkhndofplebcaaa
