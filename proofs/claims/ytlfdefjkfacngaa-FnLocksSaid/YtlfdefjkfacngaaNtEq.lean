/-
  Contracts for the laws' helpers that compare, at the same data: eqIntS, eqLetterS, eqNet, vInts, vLetters, vNet.
-/
import Derived.Test.YtlfdefjkfacngaaNtMem
import Derived.Deep.RegionHeld3
import Derived.Deep.QuietTactic
import Derived.BigQuiet
namespace Go.Proofs.Ytlfdefjkfacngaa.Nt
open Go.RowKit
set_option linter.unusedVariables false
set_option linter.unusedSimpArgs false

set_option maxRecDepth 100000 in
set_option maxHeartbeats 1000000 in
theorem eqIntS_same (A A' : Option Addr) (n c c' : Nat) (is : List Int) (B : Nat) (w : World) (hn : is.length = n) (h : IntsB w B A is) (h' : IntsB w B A' is) (hB : B ≤ w.heap.size) (hl : n ≤ 1048576) :
    Calls Try.prog 39 #[.slice A n c, .slice A' n c'] w fun e w' => e = .returned (.bool true) ∧ Below w.heap.size w w' := by
  have hge := Nat.le_of_eq hn
  have hle := Nat.le_of_eq hn.symm
  have HS := Lib.hid h
  have HS' := Lib.hid h'
  clear hn h h'
  go_enter Try.func39, Try.ntmps39
  go_wp2
  go_loopw [5] (fun i wr => ∃ k : Nat, k ≤ n ∧ i = .int .i64 k ∧ Below w.heap.size w wr) (fun i _ => n - (intOf i).toNat)
  case atStart => exact ⟨0, by omega, rfl, Below.refl _ _⟩
  case round =>
    obtain ⟨k, hk, rfl, hb⟩ := hrel
    by_cases hlt : k < n
    · obtain ⟨b, off, rfl, hbB, hc⟩ := HS.out.get (by omega)
      obtain ⟨b', off', rfl, hbB', hc'⟩ := HS'.out.get (by omega)
      have hc0 := hc k (by omega)
      have hd0 := hc' k (by omega)
      have c0 := (hb.cell (p := ⟨b, off + k, none⟩) (Nat.lt_of_lt_of_le hbB hB)).trans hc0
      have d0 := (hb.cell (p := ⟨b', off' + k, none⟩) (Nat.lt_of_lt_of_le hbB' hB)).trans hd0
      obtain ⟨y, hy⟩ : ∃ y, y = is[k]'(by omega) := ⟨_, rfl⟩
      rw [← hy] at c0 d0
      have hk0 : (0 : Int) ≤ (k : Int) := by omega
      have hkn : (k : Int) < (n : Int) := by omega
      have HB := Lib.hid hb
      clear hc hc' hc0 hd0 hy hb
      go_wp2_with fail
      go_quiet (fail)
      go_wp2
      go_roundw
      case rel => exact ⟨k + 1, by omega, by go_num, below_drewN HB.out _⟩
      case measure => simp [intOf]; omega
    · go_wp2
      go_ret
      exact ⟨rfl, hb⟩
end Go.Proofs.Ytlfdefjkfacngaa.Nt
