/-
  Contracts for ReadNum of program and model, and the walk of the law FnExactReadNum.
-/
import Derived.Test.YtodfefaknclemaaReadNum
namespace Go.Proofs.Ytodfefaknclemaa
open Go.RowKit

theorem rat_new (w : World) (s : ByteArray) (q : Nat) : RAt (w.alloc (.cells #[.string s, .int .i64 (q : Int), .bool false] 66)) w.heap.size s q false := heap_alloc_new w _
theorem read_zero (l : List UInt8) (q : Nat) (h : (M.readNum l q).2.2 = false) : M.readNum l q = (0, 0, false) := by
  rcases hr : M.readNum l q with ⟨a, b, c⟩
  rw [hr] at h; simp only at h
  subst h
  obtain ⟨rfl, rfl⟩ := M.read_false _ _ _ _ hr
  rfl

/-- What ReadNum hands back. -/
def NumTuple (r : Nat × Nat × Bool) : Ending := .returned (.tuple #[.int .i64 (r.1 : Int), .int .i64 (r.2.1 : Int), .bool r.2.2])

set_option maxHeartbeats 400000 in
theorem implReadNum_yes (s : ByteArray) (q : Nat) (w : World) (h : Place s q) :
    Calls Try.prog 24 #[.string s, .int .i64 (q : Int)] w fun e w' => e = NumTuple (M.readNum s.data.toList q) ∧ w = w' := by
  obtain ⟨r, hr⟩ : ∃ r, r = M.readNum s.data.toList q := ⟨_, rfl⟩
  have hn := numAt_any s q w h.1 (by have := h.2.2; omega)
  rw [← hr] at hn ⊢
  have HN := Lib.hid hn
  have HP := Lib.hid h
  clear hn h hr
  go_enter Try.func24, Try.ntmps24
  go_wp2_with fail
  refine (canRead_yes s q _ HP.out).mono ?_
  rintro e w' ⟨rfl, rfl⟩
  go_wp2_with fail
  refine HN.out.mono ?_
  rintro e w' ⟨rfl, rfl⟩
  go_wp2
  go_ret3
  exact ⟨rfl, rfl⟩

set_option maxHeartbeats 400000 in
theorem implReadNum_no (s : ByteArray) (q : Int) (w : World) (hm : s.size ≤ maxLen) (h : ¬ Place s q) :
    Calls Try.prog 24 #[.string s, .int .i64 q] w fun e w' => e = .returned (.tuple #[.int .i64 0, .int .i64 0, .bool false]) ∧ w = w' := by
  have H := Lib.hid h
  clear h
  go_enter Try.func24, Try.ntmps24
  go_wp2_with fail
  refine (canRead_no s q _ hm H.out).mono ?_
  rintro e w' ⟨rfl, rfl⟩
  go_wp2
  go_ret3
  exact ⟨rfl, rfl⟩

set_option maxHeartbeats 400000 in
theorem specReadNum_no (s : ByteArray) (q : Int) (w : World) (hm : s.size ≤ maxLen) (h : ¬ Place s q) :
    Calls Try.prog 29 #[.string s, .int .i64 q] w fun e w' => e = .returned (.tuple #[.int .i64 0, .int .i64 0, .bool false]) ∧ w = w' := by
  have H := Lib.hid h
  clear h
  go_enter Try.func29, Try.ntmps29
  go_wp2_with fail
  refine (l1Place_no s q _ hm H.out).mono ?_
  rintro e w' ⟨rfl, rfl⟩
  go_wp2
  go_ret3
  exact ⟨rfl, rfl⟩

set_option maxRecDepth 100000 in
set_option maxHeartbeats 1000000 in
theorem specReadNum_yes (s : ByteArray) (q : Nat) (w : World) (h : Place s q) :
    Calls Try.prog 29 #[.string s, .int .i64 (q : Int)] w fun e w' => e = NumTuple (M.readNum s.data.toList q) ∧ Below w.heap.size w w' := by
  have HP := Lib.hid h
  obtain ⟨h1, h2, h3⟩ := h
  go_enter Try.func29, Try.ntmps29
  go_wp2_with fail
  refine (l1Place_yes s q _ HP.out).mono ?_
  rintro e w' ⟨rfl, rfl⟩
  go_wp2_with fail
  refine (rnum_any w.heap.size s q _ (rat_new w s q) h1 (by omega)).mono ?_
  rintro e w1 ⟨hG, hres⟩
  have hB : Below w.heap.size w w1 := (((Below.refl _ _).alloc (Nat.le_refl _) _).trans (below_of_grown hG (Nat.le_refl _) (by simp)))
  rcases hres with ⟨hok, rfl, hR⟩ | ⟨hok, rfl, q', hR⟩
  · have d1 := hR.c1
    have d2 := hR.c2
    obtain ⟨r, hr⟩ : ∃ r, r = M.readNum s.data.toList q := ⟨_, rfl⟩
    rw [← hr] at d1 hok ⊢
    have HK := Lib.hid hok
    have HR0 := Lib.hid hr
    clear hok hr hG hR
    go_wp2_with fail
    go_quiet (fail)
    go_wp2
    go_ret3
    refine ⟨?_, ⟨hB.os, hB.tape, hB.output, hB.size, hB.block⟩⟩
    unfold NumTuple
    rw [← HR0.out, HK.out]
    rfl
  · have d2 := hR.c2
    have hz := Lib.hid (read_zero _ _ hok)
    clear hok hG
    go_wp2
    go_ret3
    refine ⟨?_, hB⟩
    rw [hz.out]; rfl

set_option maxHeartbeats 400000 in
theorem readNumWalk (s : ByteArray) (q : Int) (w0 : s.size ≤ maxLen) (_ : (Lit.int .i64 q).wf = true) (w : World) :
    Calls Try.prog 6 #[.string s, .int .i64 q] w fun e w' => e = .returned (.bool true) ∧ Below w.heap.size w w' := by
  have w0' := w0
  unfold maxLen at w0'

  by_cases h1 : 1048576 < s.size
  · go_enter Try.func6, Try.ntmps6
    go_wp2
    go_ret
    exact ⟨rfl, Below.refl _ _⟩
  · by_cases hp : Place s q
    · obtain ⟨m, rfl⟩ := Int.eq_ofNat_of_zero_le hp.2.1
      have HP := Lib.hid hp
      obtain ⟨r, hr⟩ : ∃ r, r = M.readNum s.data.toList m := ⟨_, rfl⟩
      have hS := specReadNum_yes s m w hp
      have hI := fun W => implReadNum_yes s m W hp
      rw [← hr] at hS hI
      unfold NumTuple at hS hI
      have HS := Lib.hid hS
      have HI := Lib.hid hI
      clear hS hI hr hp
      go_enter Try.func6, Try.ntmps6
      go_wp2_with fail
      refine HS.out.mono ?_
      rintro e w2 ⟨rfl, hb⟩
      go_wp2_with fail
      refine (HI.out _).mono ?_
      rintro e w3 ⟨rfl, rfl⟩
      go_wp2
      go_ret
      exact ⟨rfl, hb⟩
    · have HP := Lib.hid hp
      clear hp
      go_enter Try.func6, Try.ntmps6
      go_wp2_with fail
      refine (specReadNum_no s q _ w0 HP.out).mono ?_
      rintro e w' ⟨rfl, rfl⟩
      go_wp2_with fail
      refine (implReadNum_no s q _ w0 HP.out).mono ?_
      rintro e w' ⟨rfl, rfl⟩
      go_wp2
      go_ret
      exact ⟨rfl, Below.refl _ _⟩
end Go.Proofs.Ytodfefaknclemaa
