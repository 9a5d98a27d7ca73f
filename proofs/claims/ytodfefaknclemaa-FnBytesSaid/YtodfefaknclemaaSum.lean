/-
  Contracts: the model's l1Sum over a string and the program's sumBytes over a slice of bytes both give the fold 'M.sumL'.
-/
import Derived.Test.YtodfefaknclemaaRows
import Derived.Test.YtodfefaknclemaaMath
import Derived.WalkKit
import Derived.ProofKit
import Derived.Below
import Derived.Lib.Hide
namespace Go.Proofs.Ytodfefaknclemaa
open Go.RowKit

theorem ret_int {k : IntKind} {a b : Int} (h : a = b) : Ending.returned (.int k a) = .returned (.int k b) := by rw [h]
theorem val_int {k : IntKind} {a b : Int} (h : a = b) : Value.int k a = .int k b := by rw [h]

set_option maxHeartbeats 400000 in
theorem l1Sum_any (s : ByteArray) (w : World) (hs : s.size ≤ maxLen) :
    Calls Try.prog 75 #[.string s] w fun e w' => e = .returned (.int .i64 (M.sumL s.data.toList : Nat)) ∧ w = w' := by
  unfold maxLen at hs
  go_enter Try.func75, Try.ntmps75
  go_wp2
  go_loop [3, 4] (fun n i => ∃ k : Nat, k ≤ s.size ∧ i = .int .i64 k ∧ n = .int .i64 (M.sumL (s.data.toList.take k) : Nat)) (fun _ i => s.size - (intOf i).toNat)
  case atStart => exact ⟨0, Nat.zero_le _, rfl, rfl⟩
  case round =>
    obtain ⟨k, hk, rfl, rfl⟩ := hrel
    have hb := M.sumL_lt (s.data.toList.take k)
    by_cases hlt : k < s.size
    · have hst : M.sumL (s.data.toList.take (k + 1)) = M.sumStep (M.sumL (s.data.toList.take k)) s[k] := M.sumL_take s.data.toList k (by simpa using hlt)
      have HS := Lib.hid hst
      clear hst
      have h8 : (s[k].toNat : Int) < 256 := by have := s[k].toNat_lt; omega
      go_wp2
      go_round
      case rel => exact ⟨k + 1, by omega, by go_num, val_int (by rw [HS.out]; exact M.sumStep_int _ _)⟩
      case measure => simp [intOf]; omega
    · go_wp2
      go_ret
      exact ⟨ret_int (by rw [List.take_of_length_le (by simp; omega)]), rfl⟩

/-- A slice of bytes that reads as the list l: nil and empty, or cells at an address. -/
def BytesAt (w : World) (A : Option Addr) (l : List UInt8) : Prop :=
  l = [] ∨ ∃ b off, A = some ⟨b, off, none⟩ ∧ b < w.heap.size ∧ ∀ k (h : k < l.length), w.cell? ⟨b, off + k, none⟩ = some (.int .u8 (l[k].toNat : Int))

set_option maxHeartbeats 400000 in
theorem sumBytes_any (A : Option Addr) (n c : Nat) (l : List UInt8) (w : World) (hn : l.length = n) (h : BytesAt w A l) (hl : n ≤ maxLen) :
    Calls Try.prog 74 #[.slice A n c] w fun e w' => e = .returned (.int .i64 (M.sumL l : Nat)) ∧ w = w' := by
  subst hn
  unfold maxLen at hl
  rcases h with rfl | ⟨b, off, rfl, hbs, hc⟩
  · go_enter Try.func74, Try.ntmps74
    go_wp2
    refine wp_loop_rounds 1 ?_
    rw [rounds_succ]
    go_wp2
    go_ret
    exact ⟨rfl, rfl⟩
  · have HC := Lib.hid hc
    clear hc
    go_enter Try.func74, Try.ntmps74
    go_wp2
    go_loop [3, 8] (fun n i => ∃ k : Nat, k ≤ l.length ∧ i = .int .i64 k ∧ n = .int .i64 (M.sumL (l.take k) : Nat)) (fun _ i => l.length - (intOf i).toNat)
    case atStart => exact ⟨0, Nat.zero_le _, rfl, rfl⟩
    case round =>
      obtain ⟨k, hk, rfl, rfl⟩ := hrel
      have hb := M.sumL_lt (l.take k)
      by_cases hlt : k < l.length
      · have hst : M.sumL (l.take (k + 1)) = M.sumStep (M.sumL (l.take k)) l[k] := M.sumL_take l k hlt
        have HS := Lib.hid hst
        clear hst
        have h8 : (l[k].toNat : Int) < 256 := by have := l[k].toNat_lt; omega
        have hck := HC.out k hlt
        go_wp2
        go_round
        case rel => exact ⟨k + 1, by omega, by go_num, val_int (by rw [HS.out]; exact M.sumStep_int' _ _)⟩
        case measure => simp [intOf]; omega
      · go_wp2
        go_ret
        exact ⟨ret_int (by rw [List.take_of_length_le (by omega)]), rfl⟩
end Go.Proofs.Ytodfefaknclemaa
