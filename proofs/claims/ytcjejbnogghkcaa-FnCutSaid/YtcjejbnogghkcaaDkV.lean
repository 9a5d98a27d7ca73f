/-
  Contracts for what the laws of chapter 6 draw: a number out of the bytes (vAt), a short text (vText).
-/
import Derived.Test.YtcjejbnogghkcaaC1
import Derived.Test.YtcjejbnogghkcaaCur
import Derived.Laws.OwnMore
namespace Go.Proofs.Ytcjejbnogghkcaa.Dk
open Go.RowKit
set_option linter.unusedVariables false
set_option linter.unusedSimpArgs false

set_option maxHeartbeats 400000 in
theorem vAt_any (A : Option Addr) (n c : Nat) (l : List UInt8) (i : Nat) (w : World) (hn : l.length = n) (h : BytesAt w A l) (hl : n ≤ 1048576) (hi : i ≤ 1000000) :
    Calls Try.prog 24 #[.slice A n c, .int .i64 (i : Int)] w fun e w' => ∃ v : Nat, v ≤ 255 ∧ e = .returned (.int .i64 (v : Int)) ∧ w = w' := by
  by_cases hlt : i < n
  · rcases h with h | ⟨b, off, rfl, hb, hc⟩
    · subst h; simp at hn; omega
    · have hci := hc i (by omega)
      obtain ⟨x, hx⟩ : ∃ x, x = l[i]'(by omega) := ⟨_, rfl⟩
      rw [← hx] at hci
      have hx8 := x.toNat_lt
      have i1 : (i : Int) < (n : Int) := by omega
      have i0 : (0 : Int) ≤ (i : Int) := by omega
      clear hc hx hn
      go_enter Try.func24, Try.ntmps24
      go_wp2
      go_ret
      exact ⟨x.toNat, by omega, rfl, rfl⟩
  · have i1 : decide (i < n) = false := by simp; omega
    have i2 : decide ((i : Int) < (n : Int)) = false := by simp; omega
    have i3 : (i : Int) ≤ 1000000 := by omega
    have i4 : (n : Int) ≤ 1048576 := by omega
    clear hn h hlt
    go_enter Try.func24, Try.ntmps24
    go_wp2
    go_ret
    exact ⟨(i * 7 + n) % 256, by omega, ret_int (by omega), rfl⟩

set_option maxRecDepth 100000 in
set_option maxHeartbeats 1000000 in
theorem vText_any (A : Option Addr) (n c : Nat) (l : List UInt8) (i : Nat) (w : World) (hn : l.length = n) (h : BytesAt w A l) (hl : n ≤ 1048576) (hi : i ≤ 900000) :
    Calls Try.prog 21 #[.slice A n c, .int .i64 (i : Int)] w fun e w' => ∃ t : ByteArray, e = .returned (.string t) ∧ t.size ≤ 8 ∧ Below w.heap.size w w' := by
  obtain ⟨i0, hi0, hz0, hz1, hz2⟩ := info_parts C1.info5
  have h0 := World.ownsRow_lit (base := w.heap.size) (e := 5) (size := 1) w #[] 0 (Nat.le_refl _) (by unfold maxLen; omega) rfl
  have HST := Lib.hid (show (w.alloc (.cells #[] 5)).ownsRow w.heap.size 5 1 (.slice (some ⟨w.heap.size, 0, none⟩) 0 0) 0 (C1.B8 []) from h0)
  have HV := Lib.hid (fun j W hW hj => vAt_any A n c l j W hn hW hl hj)
  have HB := Lib.hid h
  have hb0 := (Below.refl w.heap.size w).alloc (Nat.le_refl _) (.cells #[] 5)
  have HB0 := Lib.hid hb0
  clear h h0 hn hb0
  go_enter Try.func21, Try.ntmps21
  go_wp2_with fail
  go_loopw [5, 6] (fun v k wr => ∃ (L : List UInt8), L.length ≤ 8 ∧ k = .int .i64 (L.length : Int) ∧ wr.ownsRow w.heap.size 5 1 v L.length (C1.B8 L) ∧ Below w.heap.size w wr) (fun _ k _ => 8 - (intOf k).toNat)
  case atStart => exact ⟨[], by simp, rfl, HST.out, HB0.out⟩
  case round =>
    clear HST
    obtain ⟨L, hL, rfl, ho, hb⟩ := hrel
    have HO := Lib.hid ho
    have HBW := Lib.hid hb
    have hws := hb.size
    obtain ⟨m, hm⟩ : ∃ m, m = L.length := ⟨_, rfl⟩
    rw [← hm] at HO hL ⊢
    have HM := Lib.hid hm
    clear ho hb hm
    go_wp2_with fail
    refine (HV.out i _ (HB.out.below HBW.out) (by omega)).mono ?_
    rintro e w1 ⟨x, hx, rfl, rfl⟩
    by_cases hlt : m < x % 9
    · have hlt1 : (m : Int) < (x : Int) % 9 := by omega
      have hlt2 : decide (m < x % 9) = true := by simp; exact hlt
      obtain ⟨p, hp⟩ : ∃ p, p = i + m + 1 := ⟨_, rfl⟩
      have hix : (i : Int) + (m : Int) + 1 = (p : Int) := by omega
      have him : (i : Int) + (m : Int) ≤ 1000000 := by omega
      have him0 : (0 : Int) ≤ (i : Int) + (m : Int) := by omega
      have hm8 : m + 1 ≤ 8 := by omega
      have HV2 := Lib.hid (HV.out p _ (HB.out.below HBW.out) (by omega))
      clear hlt hp
      go_wp2_with fail
      refine HV2.out.mono ?_
      rintro e w2 ⟨y, hy, rfl, rfl⟩
      clear hix
      go_wp2_with (at_builtin; refine wpList_append_own _ rfl (.tmp 16) (.tmp 24) 22 rfl w.heap.size 5 i0 (.int .u8 0) 1 1 Try.underlying22 hi0 hz0 hz1 hz2 rfl (by decide) _ _ _ rfl (HO.out.alloc _) ⟨wr.heap.size, 0, none⟩ 1 1 [.int .u8 (y : Int)] rfl rfl (C1.one_at _ _ _) (C1.one_int _ _) (by unfold maxLen; omega) (by omega) (by simp; omega) ?_; intro v3 w3 hown3 hg3 _; have HB3 := Lib.hid (C1.below_app HBW.out (Nat.le_refl _) HO.out hg3); have HO3 := Lib.hid hown3; clear hown3 hg3)
      go_roundw
      case rel =>
        have hyb : ((UInt8.ofNat y).toNat : Int) = (y : Int) := by simp [UInt8.toNat_ofNat']; omega
        refine ⟨L ++ [UInt8.ofNat y], by rw [List.length_append, ← HM.out]; exact hm8, by rw [List.length_append, ← HM.out]; go_num, ?_, HB3.out⟩
        have h1 := HO3.out
        rw [HM.out] at h1
        exact C1.own_snoc hyb h1
      case measure => simp [intOf]; omega
    · have hlt1 : decide ((m : Int) < (x : Int) % 9) = false := by simp; omega
      have hlt2 : decide (m < x % 9) = false := by simpa using hlt
      have hcv : (convert 22 9 _).run Try.prog wr = _ := C1.conv_back (by have h1 := HO.out; rw [HM.out] at h1; exact h1)
      have HSZ := Lib.hid (show (⟨L.toArray⟩ : ByteArray).size ≤ 8 by show L.toArray.size ≤ 8; simp; have := HM.out; omega)
      clear hlt
      go_wp2
      go_ret
      exact ⟨_, rfl, HSZ.out, HBW.out⟩
end Go.Proofs.Ytcjejbnogghkcaa.Dk
