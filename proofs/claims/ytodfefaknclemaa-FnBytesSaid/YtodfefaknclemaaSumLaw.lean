/-
  FnExactSumOf: SumOf of the program and of the model give the same answer at every string of at most 2^20 bytes (longer ones: the law itself answers true).
-/
import Derived.Test.YtodfefaknclemaaSum
import Derived.Laws.IdiomStrings
import Derived.OpenShut
import Derived.ShutString
import Derived.ChangeOld
namespace Go.Proofs.Ytodfefaknclemaa
open Go.ChangeShapes Go.WideShapes Go.ChangeAt Go.RowKit
open Go.ChangeMaps (open_string shut_string)

/-- '[]byte(s)': a new block, the string's bytes at its head. -/
theorem conv_bytes (s : ByteArray) (w : World) : ∃ cap w1, (convert 9 22 (.string s)).run Try.prog w = .ok (.slice (some ⟨w.heap.size, 0, none⟩) s.size cap) w1 ∧
    w1.heap[w.heap.size]? = some (.cells (bytesRow s cap) 5 ((bytesRow s cap).size, (bytesRow s cap).size + 1)) ∧ s.size ≤ cap ∧ Below w.heap.size w w1 ∧ w1.heap.size = w.heap.size + 1 := by
  refine ⟨_, _, run_bytes_of_string w 9 22 5 s Try.underlying9 Try.underlying22 Try.underlying5, ?_, grownCap_ge _ _ _ _, ?_, ?_⟩
  · show (w.heap.push _)[w.heap.size]? = _
    simp
  · exact ((Below.refl _ _).drew).alloc (by exact Nat.le_refl _) _
  · show (w.heap.push _).size = _
    simp

theorem bytesAt_row {w : World} {s : ByteArray} {g cap : Nat} {m : Nat × Nat} (h : w.heap[g]? = some (.cells (bytesRow s cap) 5 m)) : BytesAt w (some ⟨g, 0, none⟩) s.data.toList := by
  refine .inr ⟨g, 0, rfl, (Array.getElem?_eq_some_iff.1 h).1, fun k hk => ?_⟩
  rw [cell_of_row w g (0 + k) _ _ _ h, Nat.zero_add, bytesRow_at s cap k (by simpa using hk)]
  simp

set_option maxHeartbeats 400000 in
theorem implSumOf_any (s : ByteArray) (w : World) (hs : s.size ≤ 6000) :
    Calls Try.prog 42 #[.string s] w fun e w' => e = .returned (.tuple #[.int .i64 (M.sumL s.data.toList : Nat), .bool true]) ∧ Below w.heap.size w w' := by
  obtain ⟨cap, w1, hconv, hrow, hcap, hbel, hsz⟩ := conv_bytes s w
  have HR := Lib.hid hrow
  have HZ := Lib.hid hsz
  clear hrow hsz
  go_enter Try.func42, Try.ntmps42
  go_wp2_with fail
  refine (sumBytes_any _ _ _ s.data.toList _ (by simp) (bytesAt_row HR.out) (by unfold maxLen; omega)).mono ?_
  rintro e w' ⟨rfl, rfl⟩
  go_wp2
  go_ret2
  exact ⟨rfl, hbel⟩

set_option maxHeartbeats 400000 in
theorem implSumOf_long (s : ByteArray) (w : World) (hm : s.size ≤ maxLen) (hs : 6000 < s.size) :
    Calls Try.prog 42 #[.string s] w fun e w' => e = .returned (.tuple #[.int .i64 0, .bool false]) ∧ w = w' := by
  unfold maxLen at hm
  go_enter Try.func42, Try.ntmps42
  go_wp2
  go_ret2
  exact ⟨rfl, rfl⟩

set_option maxHeartbeats 400000 in
theorem specSumOf_any (s : ByteArray) (w : World) (hs : s.size ≤ 6000) :
    Calls Try.prog 43 #[.string s] w fun e w' => e = .returned (.tuple #[.int .i64 (M.sumL s.data.toList : Nat), .bool true]) ∧ w = w' := by
  go_enter Try.func43, Try.ntmps43
  go_wp2_with fail
  refine (l1Sum_any s _ (by unfold maxLen; omega)).mono ?_
  rintro e w' ⟨rfl, rfl⟩
  go_wp2
  go_ret2
  exact ⟨rfl, rfl⟩

set_option maxHeartbeats 400000 in
theorem specSumOf_long (s : ByteArray) (w : World) (hm : s.size ≤ maxLen) (hs : 6000 < s.size) :
    Calls Try.prog 43 #[.string s] w fun e w' => e = .returned (.tuple #[.int .i64 0, .bool false]) ∧ w = w' := by
  unfold maxLen at hm
  go_enter Try.func43, Try.ntmps43
  go_wp2
  go_ret2
  exact ⟨rfl, rfl⟩

set_option maxHeartbeats 400000 in
theorem sumWalk (s : ByteArray) (w0 : s.size ≤ maxLen) (w : World) :
    Calls Try.prog 11 #[.string s] w fun e w' => e = .returned (.bool true) ∧ Below w.heap.size w w' := by
  have w0' := w0
  unfold maxLen at w0'
  by_cases h1 : 1048576 < s.size
  · go_enter Try.func11, Try.ntmps11
    go_wp2
    go_ret
    exact ⟨rfl, Below.refl _ _⟩
  · by_cases h2 : s.size ≤ 6000
    · go_enter Try.func11, Try.ntmps11
      go_wp2_with fail
      refine (specSumOf_any s _ h2).mono ?_
      rintro e w' ⟨rfl, rfl⟩
      go_wp2_with fail
      refine (implSumOf_any s _ h2).mono ?_
      rintro e w' ⟨rfl, hbel⟩
      go_wp2
      go_ret
      exact ⟨rfl, hbel⟩
    · have h3 : 6000 < s.size := by omega
      go_enter Try.func11, Try.ntmps11
      go_wp2_with fail
      refine (specSumOf_long s _ w0 h3).mono ?_
      rintro e w' ⟨rfl, rfl⟩
      go_wp2_with fail
      refine (implSumOf_long s _ w0 h3).mono ?_
      rintro e w' ⟨rfl, rfl⟩
      go_wp2
      go_ret
      exact ⟨rfl, Below.refl _ _⟩
end Go.Proofs.Ytodfefaknclemaa
