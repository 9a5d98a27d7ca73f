/-
  Contracts for the small functions of chapter 6, of the program and of the model: valid disks, frames' bytes, writing and syncing.
-/
import Derived.Test.YtcjejbnogghkcaaDkM
import Derived.Deep.RegionLaw
namespace Go.Proofs.Ytcjejbnogghkcaa.Dk
open Go.RowKit C1
set_option linter.unusedVariables false

theorem below1 (w : World) (o : Obj) : Below w.heap.size w (w.alloc o) := (Below.refl _ _).alloc (Nat.le_refl _) o
theorem below2 (w : World) (o p : Obj) : Below w.heap.size w ((w.alloc o).alloc p) := (below1 w o).alloc (by simp) p
theorem below3 (w : World) (o p q : Obj) : Below w.heap.size w (((w.alloc o).alloc p).alloc q) := (below2 w o p).alloc (by simp; omega) q
theorem bcell {W w1 : World} (hb : Below W.heap.size W w1) : (∀ b o, b < W.heap.size → w1.cell? ⟨b, o, none⟩ = W.cell? ⟨b, o, none⟩) ∧ (∀ b o, b < W.heap.size → w1.frozen? ⟨b, o, none⟩ = W.frozen? ⟨b, o, none⟩) :=
  ⟨fun b o h => hb.cell (p := ⟨b, o, none⟩) h, fun b o h => hb.frozen (p := ⟨b, o, none⟩) h⟩

/-- The disk may hold so many bytes. -/
def goodB (k l : ByteArray) : Bool := decide (k.size + l.size ≤ 50000)
theorem goodB_yes {k l : ByteArray} (h : k.size + l.size ≤ 50000) : goodB k l = true := by simp [goodB, h]
theorem goodB_no {k l : ByteArray} (h : ¬ k.size + l.size ≤ 50000) : goodB k l = false := by simp [goodB]; omega
theorem goodB_le {k l : ByteArray} (h : goodB k l = true) : k.size + l.size ≤ 50000 := by simpa [goodB] using h
/-- A size that no sum makes too large. -/
def Few (s : ByteArray) : Prop := s.size ≤ 4000000

set_option maxHeartbeats 400000 in
theorem implGood_any (k l : ByteArray) (w : World) (hk : Few k) (hl : Few l) :
    Calls Try.prog 39 #[.agg #[.string k, .string l]] w fun e w' => e = .returned (.bool (goodB k l)) ∧ Below w.heap.size w w' := by
  unfold Few at hk hl
  by_cases h : k.size + l.size ≤ 50000
  · rw [goodB_yes h]
    have h1 : (k.size : Int) + (l.size : Int) ≤ 50000 := by omega
    clear h
    go_enter Try.func39, Try.ntmps39
    go_wp2
    go_ret
    exact ⟨rfl, below1 _ _⟩
  · rw [goodB_no h]
    have h1 : decide ((k.size : Int) + (l.size : Int) ≤ 50000) = false := by simp; omega
    clear h
    go_enter Try.func39, Try.ntmps39
    go_wp2
    go_ret
    exact ⟨rfl, below1 _ _⟩
set_option maxHeartbeats 400000 in
theorem specGood_any (k l : ByteArray) (w : World) (hk : Few k) (hl : Few l) :
    Calls Try.prog 37 #[.agg #[.string k, .string l]] w fun e w' => e = .returned (.bool (goodB k l)) ∧ Below w.heap.size w w' := by
  unfold Few at hk hl
  by_cases h : k.size + l.size ≤ 50000
  · rw [goodB_yes h]
    have h1 : (k.size : Int) + (l.size : Int) ≤ 50000 := by omega
    clear h
    go_enter Try.func37, Try.ntmps37
    go_wp2
    go_ret
    exact ⟨rfl, below1 _ _⟩
  · rw [goodB_no h]
    have h1 : decide ((k.size : Int) + (l.size : Int) ≤ 50000) = false := by simp; omega
    clear h
    go_enter Try.func37, Try.ntmps37
    go_wp2
    go_ret
    exact ⟨rfl, below1 _ _⟩

theorem toDisk_any (k l : ByteArray) (w : World) :
    Calls Try.prog 38 #[.agg #[.string k, .string l]] w fun e w' => e = .returned (.agg #[.string k, .string l]) ∧ Below w.heap.size w w' := by
  go_enter Try.func38, Try.ntmps38
  go_wp2
  exact bodyPost_ret (v := .agg #[.string k, .string l]) (by simp [results, Try.results38, go_sem]) rfl ⟨rfl, below3 _ _ _ _⟩

set_option maxHeartbeats 400000 in
theorem szDisk_yes (k l : ByteArray) (w : World) (h : k.size + l.size ≤ 1048576) :
    Calls Try.prog 36 #[.agg #[.string k, .string l], .int .i64 1048576] w fun e w' => e = .returned (.int .i64 (1048576 - (k.size : Int) - (l.size : Int))) ∧ Below w.heap.size w w' := by
  have h1 : (k.size : Int) ≤ 1048576 := by omega
  have h2 : (k.size : Int) + (l.size : Int) ≤ 1048576 := by omega
  have h3 : (0 : Int) ≤ 1048576 - (k.size : Int) - (l.size : Int) := by omega
  go_enter Try.func36, Try.ntmps36
  go_wp2
  go_ret
  exact ⟨rfl, below1 _ _⟩
set_option maxHeartbeats 400000 in
theorem szDisk_no (k l : ByteArray) (w : World) (hk : k.size ≤ maxLen) (hl : l.size ≤ maxLen) (h : ¬ k.size + l.size ≤ 1048576) :
    Calls Try.prog 36 #[.agg #[.string k, .string l], .int .i64 1048576] w fun e w' => e = .returned (.int .i64 (-1)) ∧ Below w.heap.size w w' := by
  unfold maxLen at hk hl
  by_cases h1 : (k.size : Int) ≤ 1048576
  · have h2 : (1048576 : Int) < (k.size : Int) + (l.size : Int) := by omega
    clear h
    go_enter Try.func36, Try.ntmps36
    go_wp2
    go_ret
    exact ⟨rfl, below1 _ _⟩
  · have h2 : (1048576 : Int) < (k.size : Int) := by omega
    clear h h1
    go_enter Try.func36, Try.ntmps36
    go_wp2
    go_ret
    exact ⟨rfl, below1 _ _⟩
theorem eqDisk_same (k l : ByteArray) (w : World) :
    Calls Try.prog 41 #[.agg #[.string k, .string l], .agg #[.string k, .string l]] w fun e w' => e = .returned (.bool true) ∧ Below w.heap.size w w' := by
  go_enter Try.func41, Try.ntmps41
  go_wp2
  go_ret
  exact ⟨rfl, below2 _ _ _⟩

theorem add_list (a b : List UInt8) : (⟨a.toArray⟩ ++ ⟨b.toArray⟩ : ByteArray) = ⟨(a ++ b).toArray⟩ := by
  apply ByteArray.ext
  apply Array.ext'
  simp
set_option maxHeartbeats 400000 in
theorem l6Frame_any (s : ByteArray) (w : World) (hs : s.size ≤ 1048576) :
    Calls Try.prog 50 #[.string s] w fun e w' => e = .returned (.string (frm s)) ∧ Below w.heap.size w w' := by
  have hadd := fun (W : World) => run_string_add_sum (P := Try.prog) (w := W) ⟨(M.numB s.size).toArray⟩ ⟨(sealed s.data.toList).toArray⟩ (by
    have := M.numB_len s.size
    rw [size_of_list (M.numB s.size), size_of_list (sealed s.data.toList), sealed_len, data_len]; omega)
  simp only [add_list] at hadd
  have HSL := Lib.hid (fun W => l1Seal_any s W hs)
  have HNB := Lib.hid (fun W => l1NumB_any s.size W (by omega))
  rw [show frm s = ⟨(M.numB s.size ++ sealed s.data.toList).toArray⟩ from rfl]
  obtain ⟨t, ht⟩ : ∃ t, t = sealed s.data.toList := ⟨_, rfl⟩
  rw [show s.data.toList ++ three (M.sumL s.data.toList) = t by rw [ht]; rfl] at HSL
  rw [← ht] at hadd ⊢
  clear ht
  go_enter Try.func50, Try.ntmps50
  go_wp2_with fail
  refine (HNB.out _).mono ?_
  rintro e w1 ⟨rfl, hb1⟩
  go_wp2_with fail
  refine (HSL.out _).mono ?_
  rintro e w2 ⟨rfl, hb2⟩
  go_wp2
  go_ret
  exact ⟨rfl, hb1.trans (hb2.mono hb1.size)⟩

set_option maxHeartbeats 400000 in
theorem implFrame_yes (s : ByteArray) (w : World) (hs : s.size ≤ 700) :
    Calls Try.prog 18 #[.string s] w fun e w' => e = .returned (.tuple #[.string (frm s), .bool true]) ∧ Below w.heap.size w w' := by
  have hadd := fun (W : World) => run_string_add_sum (P := Try.prog) (w := W) ⟨(M.numB s.size).toArray⟩ ⟨(sealed s.data.toList).toArray⟩ (by
    have := M.numB_len s.size
    rw [size_of_list (M.numB s.size), size_of_list (sealed s.data.toList), sealed_len, data_len]; omega)
  simp only [add_list] at hadd
  have HSL := Lib.hid (fun W => implSeal_yes s W (by omega))
  rw [show frm s = ⟨(M.numB s.size ++ sealed s.data.toList).toArray⟩ from rfl]
  obtain ⟨t, ht⟩ : ∃ t, t = sealed s.data.toList := ⟨_, rfl⟩
  rw [← ht] at hadd HSL ⊢
  clear ht
  go_enter Try.func18, Try.ntmps18
  go_wp2_with fail
  refine (HSL.out _).mono ?_
  rintro e w1 ⟨rfl, hb1⟩
  go_wp2_with fail
  refine (appendNum_any _ [] s.size w1.heap.size _ (World.ownsRow_nil _ _ _ _) (Nat.le_refl _) (by omega) (by simp)).mono ?_
  rintro e w2 ⟨v', rfl, hown, hb2⟩
  have hcv := conv_back hown
  simp only [List.nil_append] at hcv
  clear hown
  go_wp2
  go_ret2
  exact ⟨rfl, hb1.trans (hb2.mono hb1.size)⟩
set_option maxHeartbeats 400000 in
theorem implFrame_no (s : ByteArray) (w : World) (hm : s.size ≤ maxLen) (hs : 700 < s.size) :
    Calls Try.prog 18 #[.string s] w fun e w' => e = .returned (.tuple #[.string ⟨#[]⟩, .bool false]) ∧ w = w' := by
  unfold maxLen at hm
  go_enter Try.func18, Try.ntmps18
  go_wp2
  go_ret2
  exact ⟨rfl, rfl⟩
set_option maxHeartbeats 400000 in
theorem specFrame_yes (s : ByteArray) (w : World) (hs : s.size ≤ 700) :
    Calls Try.prog 19 #[.string s] w fun e w' => e = .returned (.tuple #[.string (frm s), .bool true]) ∧ Below w.heap.size w w' := by
  have H := Lib.hid (fun W => l6Frame_any s W (by omega))
  go_enter Try.func19, Try.ntmps19
  go_wp2_with fail
  refine (H.out _).mono ?_
  rintro e w1 ⟨rfl, hb1⟩
  go_wp2
  go_ret2
  exact ⟨rfl, hb1⟩
set_option maxHeartbeats 400000 in
theorem specFrame_no (s : ByteArray) (w : World) (hm : s.size ≤ maxLen) (hs : 700 < s.size) :
    Calls Try.prog 19 #[.string s] w fun e w' => e = .returned (.tuple #[.string ⟨#[]⟩, .bool false]) ∧ w = w' := by
  unfold maxLen at hm
  go_enter Try.func19, Try.ntmps19
  go_wp2
  go_ret2
  exact ⟨rfl, rfl⟩

set_option maxHeartbeats 400000 in
theorem newDisk_any (k l : ByteArray) (w : World) (hk : k.size ≤ 1048576) (hl : l.size ≤ 1048576) :
    Calls Try.prog 54 #[.string k, .string l] w fun e w' => e = .returned (.agg #[.string k, .string l]) ∧ Below w.heap.size w w' := by
  have HK := Lib.hid (fun W => clone_any k W hk)
  have HL := Lib.hid (fun W => clone_any l W hl)
  go_enter Try.func54, Try.ntmps54
  go_wp2_with fail
  refine (HK.out _).mono ?_
  rintro e w1 ⟨rfl, hb1⟩
  have B1 := (below1 _ _).trans (hb1.mono (below1 _ _).size)
  go_wp2_with fail
  refine (HL.out _).mono ?_
  rintro e w2 ⟨rfl, hb2⟩
  have B2 := B1.trans (hb2.mono B1.size)
  obtain ⟨hc, hf⟩ := bcell (hb1.trans (hb2.mono hb1.size))
  have hz : w.heap.size < w2.heap.size := by have := (hb1.trans (hb2.mono hb1.size)).size; simp at this; omega
  clear hb1 hb2 B1
  have HB := Lib.hid B2
  clear B2
  go_wp2
  exact bodyPost_ret (v := .agg #[.string k, .string l]) (by simp [results, Try.results54, go_sem, hc]) rfl ⟨rfl, (HB.out.setCell (p := ⟨w.heap.size, 0, none⟩) (Nat.le_refl _) _).setCell (p := ⟨w.heap.size, 1, none⟩) (Nat.le_refl _) _⟩
end Go.Proofs.Ytcjejbnogghkcaa.Dk
