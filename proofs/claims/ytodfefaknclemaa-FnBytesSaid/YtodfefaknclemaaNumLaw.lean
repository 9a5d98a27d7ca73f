/-
  Contracts for l1In, NumBytes, appendText, l1TextB and TextBytes of program and model, and the walks of the laws FnExactNumBytes and FnExactTextBytes.
-/
import Derived.Test.YtodfefaknclemaaNum
import Derived.ShutString
namespace Go.Proofs.Ytodfefaknclemaa
open Go.RowKit

set_option maxHeartbeats 400000 in
theorem l1In_yes (a b c : Int) (w : World) (h1 : b ≤ a) (h2 : a ≤ c) :
    Calls Try.prog 51 #[.int .i64 a, .int .i64 b, .int .i64 c] w fun e w' => e = .returned (.bool true) ∧ w = w' := by
  go_enter Try.func51, Try.ntmps51
  go_wp2
  go_ret
  exact ⟨rfl, rfl⟩

set_option maxHeartbeats 400000 in
theorem l1In_no (a b c : Int) (w : World) (h : a < b ∨ c < a) :
    Calls Try.prog 51 #[.int .i64 a, .int .i64 b, .int .i64 c] w fun e w' => e = .returned (.bool false) ∧ w = w' := by
  by_cases h1 : b ≤ a
  · have hd : decide (a ≤ c) = false := by simp; omega
    clear h
    go_enter Try.func51, Try.ntmps51
    go_wp2
    go_ret
    exact ⟨rfl, rfl⟩
  · have h2 : a < b := by omega
    clear h
    go_enter Try.func51, Try.ntmps51
    go_wp2
    go_ret
    exact ⟨rfl, rfl⟩

set_option maxHeartbeats 400000 in
theorem implNumBytes_yes (m : Nat) (w : World) (hm : m ≤ 1000000000) :
    Calls Try.prog 16 #[.int .i64 (m : Int)] w fun e w' => e = .returned (.tuple #[.string ⟨(M.numB m).toArray⟩, .bool true]) ∧ Below w.heap.size w w' := by
  have h0 : (0 : Int) ≤ (m : Int) := by omega
  go_enter Try.func16, Try.ntmps16
  go_wp2_with fail
  refine (appendNum_any _ [] m w.heap.size _ (World.ownsRow_nil _ _ _ _) (Nat.le_refl _) hm (by simp)).mono ?_
  rintro e w' ⟨v', rfl, hown, hbel⟩
  have hcv := conv_back hown
  simp only [List.nil_append] at hcv
  clear hown
  go_wp2
  go_ret2
  exact ⟨rfl, hbel⟩

set_option maxHeartbeats 400000 in
theorem implNumBytes_no (n : Int) (w : World) (h : n < 0 ∨ 1000000000 < n) :
    Calls Try.prog 16 #[.int .i64 n] w fun e w' => e = .returned (.tuple #[.string ⟨#[]⟩, .bool false]) ∧ w = w' := by
  rcases h with h | h
  all_goals
    go_enter Try.func16, Try.ntmps16
    go_wp2
    go_ret2
    exact ⟨rfl, rfl⟩

set_option maxHeartbeats 400000 in
theorem specNumBytes_yes (m : Nat) (w : World) (hm : m ≤ 1000000000) :
    Calls Try.prog 17 #[.int .i64 (m : Int)] w fun e w' => e = .returned (.tuple #[.string ⟨(M.numB m).toArray⟩, .bool true]) ∧ Below w.heap.size w w' := by
  go_enter Try.func17, Try.ntmps17
  go_wp2_with fail
  refine (l1In_yes _ _ _ _ (by omega) (by omega)).mono ?_
  rintro e w' ⟨rfl, rfl⟩
  go_wp2_with fail
  refine (l1NumB_any m _ hm).mono ?_
  rintro e w' ⟨rfl, hbel⟩
  go_wp2
  go_ret2
  exact ⟨rfl, hbel⟩

set_option maxHeartbeats 400000 in
theorem specNumBytes_no (n : Int) (w : World) (h : n < 0 ∨ 1000000000 < n) :
    Calls Try.prog 17 #[.int .i64 n] w fun e w' => e = .returned (.tuple #[.string ⟨#[]⟩, .bool false]) ∧ w = w' := by
  go_enter Try.func17, Try.ntmps17
  go_wp2_with fail
  refine (l1In_no _ _ _ _ h).mono ?_
  rintro e w' ⟨rfl, rfl⟩
  go_wp2
  go_ret2
  exact ⟨rfl, rfl⟩

set_option maxHeartbeats 400000 in
theorem numWalk (n : Int) (w0 : (Lit.int .i64 n).wf = true) (w : World) :
    Calls Try.prog 5 #[.int .i64 n] w fun e w' => e = .returned (.bool true) ∧ Below w.heap.size w w' := by
  by_cases h : n < 0 ∨ 1000000000 < n
  · have H := Lib.hid h
    clear h w0
    go_enter Try.func5, Try.ntmps5
    go_wp2_with fail
    refine (specNumBytes_no n _ H.out).mono ?_
    rintro e w' ⟨rfl, rfl⟩
    go_wp2_with fail
    refine (implNumBytes_no n _ H.out).mono ?_
    rintro e w' ⟨rfl, rfl⟩
    go_wp2
    go_ret
    exact ⟨rfl, Below.refl _ _⟩
  · obtain ⟨m, rfl⟩ := Int.eq_ofNat_of_zero_le (show (0 : Int) ≤ n by omega)
    have hm : m ≤ 1000000000 := by omega
    clear h w0
    go_enter Try.func5, Try.ntmps5
    go_wp2_with fail
    refine (specNumBytes_yes m _ hm).mono ?_
    rintro e w' ⟨rfl, hb1⟩
    go_wp2_with fail
    refine (implNumBytes_yes m _ hm).mono ?_
    rintro e w2 ⟨rfl, hb2⟩
    go_wp2
    go_ret
    exact ⟨rfl, hb1.trans (hb2.mono hb1.size)⟩

/-- The bytes of a text: its length, and itself. -/
def textB (l : List UInt8) : List UInt8 := M.numB l.length ++ l

theorem strCells_B8 (s : ByteArray) : Lib.strCells s = B8 s.data.toList := rfl

set_option maxRecDepth 100000 in
set_option maxHeartbeats 400000 in
theorem appendText_any (v : Value) (xs : List UInt8) (s : ByteArray) (base : Nat) (w : World) (hown : w.ownsRow base 5 1 v xs.length (B8 xs)) (hbase : base ≤ w.heap.size) (hs : s.size ≤ 1048576) (hlen : xs.length ≤ 1000000000) :
    Calls Try.prog 55 #[v, .string s] w fun e w' => ∃ v', e = .returned v' ∧ w'.ownsRow base 5 1 v' (xs ++ textB s.data.toList).length (B8 (xs ++ textB s.data.toList)) ∧ Below base w w' := by
  obtain ⟨i0, hi, hz0, hz1, hz2⟩ := info_parts info5
  have hn := M.numB_len s.size
  go_enter Try.func55, Try.ntmps55
  go_wp2_with fail
  refine (appendNum_any _ xs s.size base _ hown hbase (by omega) hlen).mono ?_
  rintro e w1 ⟨v1, rfl, hown1, hb1⟩
  have hbs := hb1.size
  go_wp2_with (at_builtin; refine Lib.wpList_append_own_string _ rfl (.tmp 8) (.tmp 9) 22 9 rfl base 5 i0 Try.underlying22 Try.underlying9 hi hz0 hz1 hz2 _ _ _ rfl hown1 s rfl (by unfold maxLen; simp; omega) (by simp; omega) (by omega) ?_; intro v2 w2 hown2 hg2 _)
  go_ret
  refine ⟨_, rfl, ?_, below_grown hb1 hbase hown1 hg2⟩
  rw [strCells_B8, ← B8_app] at hown2
  have e1 : s.data.toList.length = s.size := by simp
  simpa [textB, e1, List.append_assoc, Nat.add_assoc] using hown2

set_option maxHeartbeats 400000 in
theorem l1TextB_any (s : ByteArray) (w : World) (hs : s.size ≤ 1048576) :
    Calls Try.prog 56 #[.string s] w fun e w' => e = .returned (.string ⟨(textB s.data.toList).toArray⟩) ∧ Below w.heap.size w w' := by
  have hn := M.numB_len s.size
  have hadd := fun (W : World) => run_string_add_sum (P := Try.prog) (w := W) ⟨(M.numB s.size).toArray⟩ s (by rw [size_of_list]; omega)
  have e0 : (⟨(M.numB s.size).toArray⟩ : ByteArray) ++ s = ⟨(textB s.data.toList).toArray⟩ := by
    apply ByteArray.ext
    apply Array.ext'
    simp [textB]
  simp only [e0] at hadd
  clear e0
  go_enter Try.func56, Try.ntmps56
  go_wp2_with fail
  refine (l1NumB_any s.size _ (by omega)).mono ?_
  rintro e w1 ⟨rfl, hb1⟩
  go_wp2
  go_ret
  exact ⟨rfl, hb1⟩

set_option maxHeartbeats 400000 in
theorem implTextBytes_yes (s : ByteArray) (w : World) (hs : s.size ≤ 60) :
    Calls Try.prog 19 #[.string s] w fun e w' => e = .returned (.tuple #[.string ⟨(textB s.data.toList).toArray⟩, .bool true]) ∧ Below w.heap.size w w' := by
  go_enter Try.func19, Try.ntmps19
  go_wp2_with fail
  refine (appendText_any _ [] s w.heap.size _ (World.ownsRow_nil _ _ _ _) (Nat.le_refl _) (by omega) (by simp)).mono ?_
  rintro e w' ⟨v', rfl, hown, hbel⟩
  have hcv := conv_back hown
  simp only [List.nil_append] at hcv
  clear hown
  go_wp2
  go_ret2
  exact ⟨rfl, hbel⟩

set_option maxHeartbeats 400000 in
theorem implTextBytes_no (s : ByteArray) (w : World) (hm : s.size ≤ maxLen) (hs : 60 < s.size) :
    Calls Try.prog 19 #[.string s] w fun e w' => e = .returned (.tuple #[.string ⟨#[]⟩, .bool false]) ∧ w = w' := by
  unfold maxLen at hm
  go_enter Try.func19, Try.ntmps19
  go_wp2
  go_ret2
  exact ⟨rfl, rfl⟩

set_option maxHeartbeats 400000 in
theorem specTextBytes_yes (s : ByteArray) (w : World) (hs : s.size ≤ 60) :
    Calls Try.prog 20 #[.string s] w fun e w' => e = .returned (.tuple #[.string ⟨(textB s.data.toList).toArray⟩, .bool true]) ∧ Below w.heap.size w w' := by
  go_enter Try.func20, Try.ntmps20
  go_wp2_with fail
  refine (l1TextB_any s _ (by omega)).mono ?_
  rintro e w' ⟨rfl, hbel⟩
  go_wp2
  go_ret2
  exact ⟨rfl, hbel⟩

set_option maxHeartbeats 400000 in
theorem specTextBytes_no (s : ByteArray) (w : World) (hm : s.size ≤ maxLen) (hs : 60 < s.size) :
    Calls Try.prog 20 #[.string s] w fun e w' => e = .returned (.tuple #[.string ⟨#[]⟩, .bool false]) ∧ w = w' := by
  unfold maxLen at hm
  go_enter Try.func20, Try.ntmps20
  go_wp2
  go_ret2
  exact ⟨rfl, rfl⟩

set_option maxHeartbeats 400000 in
theorem textWalk (s : ByteArray) (w0 : s.size ≤ maxLen) (w : World) :
    Calls Try.prog 7 #[.string s] w fun e w' => e = .returned (.bool true) ∧ Below w.heap.size w w' := by
  have w0' := w0
  unfold maxLen at w0'
  by_cases h1 : 1048576 < s.size
  · go_enter Try.func7, Try.ntmps7
    go_wp2
    go_ret
    exact ⟨rfl, Below.refl _ _⟩
  · by_cases h2 : s.size ≤ 60
    · go_enter Try.func7, Try.ntmps7
      go_wp2_with fail
      refine (specTextBytes_yes s _ h2).mono ?_
      rintro e w1 ⟨rfl, hb1⟩
      go_wp2_with fail
      refine (implTextBytes_yes s _ h2).mono ?_
      rintro e w2 ⟨rfl, hb2⟩
      go_wp2
      go_ret
      exact ⟨rfl, hb1.trans (hb2.mono hb1.size)⟩
    · have h3 : 60 < s.size := by omega
      go_enter Try.func7, Try.ntmps7
      go_wp2_with fail
      refine (specTextBytes_no s _ w0 h3).mono ?_
      rintro e w' ⟨rfl, rfl⟩
      go_wp2_with fail
      refine (implTextBytes_no s _ w0 h3).mono ?_
      rintro e w' ⟨rfl, rfl⟩
      go_wp2
      go_ret
      exact ⟨rfl, Below.refl _ _⟩
end Go.Proofs.Ytodfefaknclemaa
