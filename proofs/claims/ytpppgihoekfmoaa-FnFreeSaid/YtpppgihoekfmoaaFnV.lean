/-
  Contracts for what the laws draw out of bytes: a number (vAt), and whether there are too many (vBig).
-/
import Derived.Test.YtpppgihoekfmoaaCur
namespace Go.Proofs.Ytpppgihoekfmoaa.Fv
open Go.RowKit
set_option linter.unusedVariables false
set_option linter.unusedSimpArgs false

/-- The number that the laws draw out of bytes at a place. -/
def vN (l : List UInt8) (i : Nat) : Nat := if h : i < l.length then l[i].toNat else (i * 7 + l.length) % 256
theorem vN_le (l : List UInt8) (i : Nat) : vN l i ≤ 255 := by
  unfold vN
  split
  · rename_i h; have := (l[i]).toNat_lt; omega
  · omega
set_option maxHeartbeats 400000 in
theorem vAt_any (A : Option Addr) (n c : Nat) (l : List UInt8) (i : Nat) (w : World) (hn : l.length = n) (h : BytesAt w A l) (hl : n ≤ 1048576) (hi : i ≤ 1000000) :
    Calls Try.prog 7 #[.slice A n c, .int .i64 (i : Int)] w fun e w' => e = .returned (.int .i64 (vN l i : Int)) ∧ w = w' := by
  by_cases hlt : i < n
  · rcases h with h | ⟨b, off, rfl, hb, hc⟩
    · subst h; simp at hn; omega
    · have hci := hc i (by omega)
      obtain ⟨x, hx⟩ : ∃ x, x = l[i]'(by omega) := ⟨_, rfl⟩
      rw [← hx] at hci
      have hx8 := x.toNat_lt
      have i1 : (i : Int) < (n : Int) := by omega
      have i0 : (0 : Int) ≤ (i : Int) := by omega
      have HX := Lib.hid (ret_int (k := .i64) (show (x.toNat : Int) = (vN l i : Int) by unfold vN; rw [dif_pos (by omega), hx]))
      clear hc hx hn
      go_enter Try.func7, Try.ntmps7
      go_wp2
      go_ret
      exact ⟨HX.out, rfl⟩
  · have i1 : decide (i < n) = false := by simp; omega
    have i2 : decide ((i : Int) < (n : Int)) = false := by simp; omega
    have i3 : (i : Int) ≤ 1000000 := by omega
    have i4 : (n : Int) ≤ 1048576 := by omega
    have HX := Lib.hid (show (vN l i : Int) = ((i * 7 + n) % 256 : Nat) by unfold vN; rw [dif_neg (by omega), hn])
    clear hn h hlt
    go_enter Try.func7, Try.ntmps7
    go_wp2
    go_ret
    exact ⟨ret_int (by have := HX.out; omega), rfl⟩

theorem vBig_no (A : Option Addr) (n c : Nat) (w : World) (h : n ≤ 65536) :
    Calls Try.prog 6 #[.slice A n c] w fun e w' => e = .returned (.bool false) ∧ w = w' := by
  have h1 : decide ((65536 : Int) < (n : Int)) = false := by simp; omega
  go_enter Try.func6, Try.ntmps6
  go_wp2
  go_ret
  exact ⟨rfl, rfl⟩
theorem vBig_yes (A : Option Addr) (n c : Nat) (w : World) (h : 65536 < n) :
    Calls Try.prog 6 #[.slice A n c] w fun e w' => e = .returned (.bool true) ∧ w = w' := by
  have h1 : decide ((65536 : Int) < (n : Int)) = true := by simp; omega
  go_enter Try.func6, Try.ntmps6
  go_wp2
  go_ret
  exact ⟨rfl, rfl⟩
end Go.Proofs.Ytpppgihoekfmoaa.Fv
