/-
  The walk of the law FnFrames.
-/
import Derived.Test.YtcjejbnogghkcaaDkDraw
import Derived.Test.YtcjejbnogghkcaaDk4
namespace Go.Proofs.Ytcjejbnogghkcaa.Dk
open Go.RowKit C1
set_option linter.unusedVariables false
set_option linter.unusedSimpArgs false

theorem vBig_no (A : Option Addr) (n c : Nat) (w : World) (h : n ≤ 65536) :
    Calls Try.prog 16 #[.slice A n c] w fun e w' => e = .returned (.bool false) ∧ w = w' := by
  have h1 : decide ((65536 : Int) < (n : Int)) = false := by simp; omega
  go_enter Try.func16, Try.ntmps16
  go_wp2
  go_ret
  exact ⟨rfl, rfl⟩
theorem vBig_yes (A : Option Addr) (n c : Nat) (w : World) (h : 65536 < n) :
    Calls Try.prog 16 #[.slice A n c] w fun e w' => e = .returned (.bool true) ∧ w = w' := by
  have h1 : decide ((65536 : Int) < (n : Int)) = true := by simp; omega
  go_enter Try.func16, Try.ntmps16
  go_wp2
  go_ret
  exact ⟨rfl, rfl⟩

/-- Two frames in a row, read at the first. -/
theorem read_first (s : ByteArray) (hs : s.size ≤ 700) : fread (frm s ++ frm s) 0 = some (s, (frm s).size) := by
  have h := fread_frm (b := frm s ++ frm s) (q := 0) (R := (frm s).data.toList) hs (by simp) (Nat.zero_le _)
  rw [Nat.zero_add] at h
  exact h
theorem read_second (s : ByteArray) (hs : s.size ≤ 700) : fread (frm s ++ frm s) (frm s).size = some (s, 2 * (frm s).size) := by
  have h := fread_frm (b := frm s ++ frm s) (q := (frm s).size) (R := []) hs (by
    have e : (frm s).data.toList.length = (frm s).size := data_len _
    simp only [ByteArray.data_append, Array.toList_append, List.append_nil]
    rw [List.drop_append_of_le_length (by omega), List.drop_of_length_le (by omega), List.nil_append]) (by rw [ByteArray.size_append]; omega)
  rw [h]
  congr 2
  omega
/-- A frame without its last byte is none. -/
theorem read_cut (s : ByteArray) (hs : s.size ≤ 700) (n : Nat) (hn : n + 1 = (frm s).size) : fread ((frm s).extract 0 n) 0 = none := by
  have hfs := frm_size s
  have hl : ((frm s).extract 0 n).data.toList = M.numB s.size ++ (sealed s.data.toList).take (s.size + 2) := by
    rw [ext_list, frm_list, List.drop_zero, Nat.sub_zero, List.take_append, List.take_of_length_le (by omega)]
    congr 2
    omega
  have hr : M.readNum ((frm s).extract 0 n).data.toList 0 = (s.size, 0 + (M.numB s.size).length, true) := by
    unfold M.readNum
    rw [List.drop_zero, hl]
    exact M.read_num s.size 0 _ (by omega)
  refine fread_no hr (fun ⟨_, h2, _⟩ => ?_)
  rw [ByteArray.size_extract] at h2
  omega

set_option maxRecDepth 100000 in
set_option maxHeartbeats 4000000 in
theorem frames_walk (w : World) (A : Option Addr) (n c : Nat) (l : List UInt8) (hn : l.length = n) (h : BytesAt w A l) (hm : n ≤ maxLen) :
    Calls Try.prog 3 #[.slice A n c] w fun e w' => e = .returned (.bool true) ∧ Below w.heap.size w w' := by
  by_cases hb : n ≤ 65536
  · have HV := Lib.hid (fun W => vBig_no A n c W hb)
    have HDW := Lib.hid (drawFrame_any A n c l w hn h (by omega))
    clear hn h hm
    go_enter Try.func3, Try.ntmps3
    go_wp2_with fail
    refine (HV.out _).mono ?_
    rintro e w1 ⟨rfl, rfl⟩
    go_wp2_with fail
    refine HDW.out.mono ?_
    rintro e w1 ⟨s, rfl, hs, hb1⟩
    by_cases h7 : s.size ≤ 700
    · have HI := Lib.hid (fun W => implFrame_yes s W h7)
      have HS := Lib.hid (fun W => specFrame_yes s W h7)
      have hfb := frm_two s h7
      have hfl := (frm_bound s).1
      have hadd := fun (W : World) => run_string_add_sum (P := Try.prog) (w := W) (frm s) (frm s) (by omega)
      have h2 : (frm s ++ frm s).size = 2 * (frm s).size := by rw [ByteArray.size_append]; omega
      have R1 := Lib.hid (fun W => implReadF_yes (frm s ++ frm s) 0 W ⟨by omega, by omega, by omega⟩)
      have R2 := Lib.hid (fun W => implReadF_yes (frm s ++ frm s) (frm s).size W ⟨by omega, by omega, by omega⟩)
      obtain ⟨m, hmm⟩ : ∃ m, m + 1 = (frm s).size := ⟨(frm s).size - 1, by omega⟩
      have R3 := Lib.hid (fun W => implReadF_yes ((frm s).extract 0 m) 0 W ⟨by rw [ByteArray.size_extract]; omega, by omega, by omega⟩)
      unfold readF at R1 R2 R3
      rw [read_first s h7] at R1
      rw [read_second s h7] at R2
      rw [read_cut s h7 m hmm] at R3
      simp only [RAns] at R1 R2 R3
      obtain ⟨f, hf⟩ : ∃ f, f = frm s := ⟨_, rfl⟩
      obtain ⟨d, hd⟩ : ∃ d, d = f ++ f := ⟨_, rfl⟩
      rw [← hf] at HI HS hfb hfl h2 R1 R2 R3 hmm
      simp only [← hf] at hadd
      rw [← hd] at R1 R2 h2
      simp only [← hd] at hadd
      have hm1 : (f.size : Int) - 1 = (m : Int) := by omega
      have hm2 : (m : Int) ≤ (f.size : Int) := by omega
      have hb700 : (f.size : Int) ≤ 705 := by omega
      have HB1 := Lib.hid hb1
      clear hf hd hfb hfl h2 hmm hb1 h7 hs
      go_wp2_with fail
      refine (HI.out _).mono ?_
      rintro e w2 ⟨rfl, hb2⟩
      have HB2 := Lib.hid (HB1.out.trans (hb2.mono HB1.out.size))
      clear hb2
      go_wp2_with fail
      refine (HS.out _).mono ?_
      rintro e w3 ⟨rfl, hb3⟩
      have HB3 := Lib.hid (HB2.out.trans (hb3.mono HB2.out.size))
      clear hb3
      go_wp2_with fail
      refine (R1.out _).mono ?_
      rintro e w4 ⟨rfl, hb4⟩
      have HB4 := Lib.hid (HB3.out.trans (hb4.mono HB3.out.size))
      clear hb4
      go_wp2_with fail
      refine (R2.out _).mono ?_
      rintro e w5 ⟨rfl, hb5⟩
      have HB5 := Lib.hid (HB4.out.trans (hb5.mono HB4.out.size))
      clear hb5
      go_wp2_with fail
      refine (R3.out _).mono ?_
      rintro e w6 ⟨rfl, hb6⟩
      have HB6 := Lib.hid (HB5.out.trans (hb6.mono HB5.out.size))
      clear hb6
      go_wp2
      go_ret
      exact ⟨by simp, HB6.out⟩
    · have HI := Lib.hid (fun W => implFrame_no s W (by unfold maxLen; omega) (by omega))
      have HS := Lib.hid (fun W => specFrame_no s W (by unfold maxLen; omega) (by omega))
      have HB1 := Lib.hid hb1
      clear hb1 h7 hs
      go_wp2_with fail
      refine (HI.out _).mono ?_
      rintro e w2 ⟨rfl, rfl⟩
      go_wp2_with fail
      refine (HS.out _).mono ?_
      rintro e w3 ⟨rfl, rfl⟩
      go_wp2
      go_ret
      exact ⟨rfl, HB1.out⟩
  · have HV := Lib.hid (fun W => vBig_yes A n c W (by omega))
    clear hn h hm
    go_enter Try.func3, Try.ntmps3
    go_wp2_with fail
    refine (HV.out _).mono ?_
    rintro e w1 ⟨rfl, rfl⟩
    go_wp2
    go_ret
    exact ⟨rfl, Below.refl _ _⟩
end Go.Proofs.Ytcjejbnogghkcaa.Dk
