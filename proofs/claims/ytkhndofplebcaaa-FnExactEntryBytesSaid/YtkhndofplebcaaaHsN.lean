/-
  Contracts for NumBytes of the program and ReadNum of the model.
-/
import Derived.Test.YtkhndofplebcaaaC1
namespace Go.Proofs.Ytkhndofplebcaaa.C1
open Go.RowKit
set_option linter.unusedVariables false

set_option maxHeartbeats 400000 in
theorem implNumBytes_yes (m : Nat) (w : World) (hm : m ≤ 1000000000) :
    Calls Try.prog 42 #[.int .i64 (m : Int)] w fun e w' => e = .returned (.tuple #[.string ⟨(M.numB m).toArray⟩, .bool true]) ∧ Below w.heap.size w w' := by
  have h0 : (0 : Int) ≤ (m : Int) := by omega
  go_enter Try.func42, Try.ntmps42
  go_wp2_with fail
  refine (appendNum_any _ [] m w.heap.size _ (World.ownsRow_nil _ _ _ _) (Nat.le_refl _) hm (by simp)).mono ?_
  rintro e w' ⟨v', rfl, hown, hbel⟩
  have hcv := conv_back hown
  simp only [List.nil_append] at hcv
  clear hown
  go_wp2
  go_ret2
  exact ⟨rfl, hbel⟩
set_option maxHeartbeats 400000 in
theorem l1Place_yes (s : ByteArray) (q : Int) (w : World) (h : Place s q) :
    Calls Try.prog 93 #[.string s, .int .i64 q] w fun e w' => e = .returned (.bool true) ∧ w = w' := by
  obtain ⟨h1, h2, h3⟩ := h
  go_enter Try.func93, Try.ntmps93
  go_wp2_with fail
  refine (l1In_yes _ _ _ _ h2 h3).mono ?_
  rintro e w' ⟨rfl, rfl⟩
  go_wp2
  go_ret
  exact ⟨rfl, rfl⟩

set_option maxHeartbeats 400000 in
theorem l1Place_no (s : ByteArray) (q : Int) (w : World) (hm : s.size ≤ maxLen) (h : ¬ Place s q) :
    Calls Try.prog 93 #[.string s, .int .i64 q] w fun e w' => e = .returned (.bool false) ∧ w = w' := by
  unfold maxLen at hm
  unfold Place at h
  by_cases h1 : s.size ≤ 6000
  · have h2 : q < 0 ∨ (s.size : Int) < q := by omega
    have H := Lib.hid h2
    clear h2 h
    go_enter Try.func93, Try.ntmps93
    go_wp2_with fail
    refine (l1In_no _ _ _ _ H.out).mono ?_
    rintro e w' ⟨rfl, rfl⟩
    go_wp2
    go_ret
    exact ⟨rfl, rfl⟩
  · have h3 : decide ((s.size : Int) ≤ 6000) = false := by simp; omega
    clear h
    go_enter Try.func93, Try.ntmps93
    go_wp2
    go_ret
    exact ⟨rfl, rfl⟩

set_option maxHeartbeats 400000 in
theorem specReadNum_no (s : ByteArray) (q : Int) (w : World) (hm : s.size ≤ maxLen) (h : ¬ Place s q) :
    Calls Try.prog 44 #[.string s, .int .i64 q] w fun e w' => e = .returned (.tuple #[.int .i64 0, .int .i64 0, .bool false]) ∧ w = w' := by
  have H := Lib.hid h
  clear h
  go_enter Try.func44, Try.ntmps44
  go_wp2_with fail
  refine (l1Place_no s q _ hm H.out).mono ?_
  rintro e w' ⟨rfl, rfl⟩
  go_wp2
  go_ret3
  exact ⟨rfl, rfl⟩
set_option maxRecDepth 100000 in
set_option maxHeartbeats 1000000 in
theorem specReadNum_yes (s : ByteArray) (q : Nat) (w : World) (h : Place s q) :
    Calls Try.prog 44 #[.string s, .int .i64 (q : Int)] w fun e w' => e = NumTuple (M.readNum s.data.toList q) ∧ Below w.heap.size w w' := by
  have HP := Lib.hid h
  obtain ⟨h1, h2, h3⟩ := h
  go_enter Try.func44, Try.ntmps44
  go_wp2_with fail
  refine (l1Place_yes s q _ HP.out).mono ?_
  rintro e w' ⟨rfl, rfl⟩
  go_wp2_with fail
  refine (rnum_any w.heap.size s q _ (rat_new w s q) (by omega) (by omega)).mono ?_
  rintro e w1 ⟨hG, hres⟩
  have hB : Below w.heap.size w w1 := (((Below.refl _ _).alloc (Nat.le_refl _) _).trans (below_of_grown hG (Nat.le_refl _) (by simp)))
  rcases hres with ⟨hok, rfl, hR⟩ | ⟨hok, rfl, q', hR⟩
  · have d1 := hR.c1
    have d2 := hR.c2
    obtain ⟨r, hr⟩ : ∃ r, r = M.readNum s.data.toList q := ⟨_, rfl⟩
    rw [← hr] at d1 hok ⊢
    have HK := Lib.hid hok
    have HR0 := Lib.hid hr
    clear hok hr hG hR
    go_wp2_with fail
    go_quiet (fail)
    go_wp2
    go_ret3
    refine ⟨?_, ⟨hB.os, hB.tape, hB.output, hB.size, hB.block⟩⟩
    unfold NumTuple
    rw [← HR0.out, HK.out]
    rfl
  · have d2 := hR.c2
    have hz := Lib.hid (read_zero _ _ hok)
    clear hok hG
    go_wp2
    go_ret3
    refine ⟨?_, hB⟩
    rw [hz.out]; rfl
end Go.Proofs.Ytkhndofplebcaaa.C1
