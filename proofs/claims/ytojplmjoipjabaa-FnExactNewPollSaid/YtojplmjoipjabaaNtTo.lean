/-
  Contracts for the laws' helpers that copy what they are handed: toIntS, toLetterS, toNet.
-/
import Derived.Test.YtojplmjoipjabaaNtMem
namespace Go.Proofs.Ytojplmjoipjabaa.Nt
open Go.RowKit
set_option linter.unusedVariables false
set_option linter.unusedSimpArgs false

theorem toLetter_any (f t d : Int) (b : ByteArray) (w : World) :
    Calls Try.prog 120 #[.agg #[.int .i64 f, .int .i64 t, .int .i64 d, .string b]] w fun e w' => e = .returned (.agg #[.int .i64 f, .int .i64 t, .int .i64 d, .string b]) ∧ Below w.heap.size w w' := by
  go_enter Try.func120, Try.ntmps120
  go_wp2
  exact bodyPost_ret (v := .agg #[.int .i64 f, .int .i64 t, .int .i64 d, .string b]) (by simp [results, Try.results120, go_sem]) rfl ⟨rfl, below3 _ _ _ _⟩

def ToIPost (is : List Int) (n : Nat) (w : World) (e : Ending) (w' : World) : Prop :=
  ∃ g, e = .returned (.slice (some ⟨g, 0, none⟩) n n) ∧ OwnI w' w.heap.size w'.heap.size (some ⟨g, 0, none⟩) n is ∧ Below w.heap.size w w'
def ToLPost (ls : List (Int × Int × Int × ByteArray)) (n : Nat) (w : World) (e : Ending) (w' : World) : Prop :=
  ∃ g, e = .returned (.slice (some ⟨g, 0, none⟩) n n) ∧ OwnL w' w.heap.size w'.heap.size (some ⟨g, 0, none⟩) n ls ∧ Below w.heap.size w w'

set_option maxRecDepth 100000 in
set_option maxHeartbeats 1000000 in
theorem toIntS_any (A : Option Addr) (n c : Nat) (is : List Int) (B : Nat) (w : World) (hn : is.length = n) (h : IntsB w B A is) (hB : B ≤ w.heap.size) (hl : n ≤ 1048576) :
    Calls Try.prog 16 #[.slice A n c] w (ToIPost is n w) := by
  obtain ⟨i0, hi, hz0, hz1, hz2⟩ := info_parts infoInt
  have HN := Lib.hid hn
  have hge := Nat.le_of_eq hn
  have hle := Nat.le_of_eq hn.symm
  have HS := Lib.hid h
  clear hn h
  go_enter Try.func16, Try.ntmps16
  go_wp2_with (at_make; refine wpList_make_full _ rfl (.tmp 6) (.tmp 6) 23 rfl w.heap.size 3 i0 _ 1 Try.underlying23 hi hz0 hz1 .i64 .i64 _ _ n rfl rfl rfl rfl (by rw [hz2]; omega) (by unfold maxLen; omega) (Nat.le_refl _) ?_; intro w1 hown hgr)
  have hb1 : Below w.heap.size w w1 := (Below.refl _ _).grown hgr (Nat.le_refl _) (by simp)
  have hf0 := fill_made (by omega) hown
  clear hown hgr
  go_loopw [4] (fun i wr => ∃ k : Nat, k ≤ n ∧ i = .int .i64 k ∧ Fill wr w.heap.size n 1 3 ((is.take k).map intCs) k ∧ Below w.heap.size w wr) (fun i _ => n - (intOf i).toNat)
  case atStart => exact ⟨0, by omega, rfl, by simpa using hf0, hb1⟩
  case round =>
    clear hf0 hb1
    obtain ⟨k, hk, rfl, hf, hb⟩ := hrel
    by_cases hlt : k < n
    · obtain ⟨b, off, rfl, hbB, hc⟩ := HS.out.get (by omega)
      have hc0 := hc k (by omega)
      have c0 := (hb.cell (p := ⟨b, off + k, none⟩) (Nat.lt_of_lt_of_le hbB hB)).trans hc0
      have HST := Lib.hid (Fill.snocI hf (by omega) hlt)
      obtain ⟨y, hy⟩ : ∃ y, y = is[k]'(by omega) := ⟨_, rfl⟩
      rw [← hy] at c0 HST
      obtain ⟨v0, hv0⟩ := hf.cell k (by omega)
      have hfr0 := hf.free k
      have HB := Lib.hid hb
      clear hc hc0 hy hf hb
      go_wp2
      go_roundw
      case rel => exact ⟨k + 1, by omega, by go_num, HST.out, HB.out.setCell (p := ⟨w.heap.size, k, none⟩) (Nat.le_refl _) _⟩
      case measure => simp [intOf]; omega
    · have hkn : k = n := by omega
      subst hkn
      rw [List.take_of_length_le (by omega)] at hf
      go_wp2
      go_ret
      exact ⟨w.heap.size, rfl, Fill.own (by rw [show (is.map intCs).length = k by simp; exact HN.out]; exact hf) (by simp; exact HN.out) (by unfold maxLen; omega) (Nat.le_refl _) hf.lt, hb⟩

set_option maxRecDepth 100000 in
set_option maxHeartbeats 1000000 in
theorem toLetterS_any (A : Option Addr) (n c : Nat) (ls : List (Int × Int × Int × ByteArray)) (B : Nat) (w : World) (hn : ls.length = n) (h : LetsB w B A ls) (hB : B ≤ w.heap.size) (hl : n ≤ 1048576) :
    Calls Try.prog 95 #[.slice A n c] w (ToLPost ls n w) := by
  obtain ⟨i0, hi, hz0, hz1, hz2⟩ := info_parts infoLet
  have HN := Lib.hid hn
  have hge := Nat.le_of_eq hn
  have hle := Nat.le_of_eq hn.symm
  have HS := Lib.hid h
  clear hn h
  go_enter Try.func95, Try.ntmps95
  go_wp2_with (at_make; refine wpList_make_full _ rfl (.tmp 6) (.tmp 6) 33 rfl w.heap.size 66 i0 _ 4 Try.underlying33 hi hz0 hz1 .i64 .i64 _ _ n rfl rfl rfl rfl (by rw [hz2]; omega) (by unfold maxLen; omega) (Nat.le_refl _) ?_; intro w1 hown hgr)
  have hb1 : Below w.heap.size w w1 := (Below.refl _ _).grown hgr (Nat.le_refl _) (by simp)
  have hf0 := fill_made (by omega) hown
  clear hown hgr
  go_loopw [4] (fun i wr => ∃ k : Nat, k ≤ n ∧ i = .int .i64 k ∧ Fill wr w.heap.size n 4 66 ((ls.take k).map ltCs) k ∧ Below w.heap.size w wr) (fun i _ => n - (intOf i).toNat)
  case atStart => exact ⟨0, by omega, rfl, by simpa using hf0, hb1⟩
  case round =>
    clear hf0 hb1
    obtain ⟨k, hk, rfl, hf, hb⟩ := hrel
    by_cases hlt : k < n
    · obtain ⟨b, off, rfl, hbB, hc⟩ := HS.out.get (by omega)
      obtain ⟨hc0, hc1, hc2, hc3⟩ := hc k (by omega)
      have c0 := (hb.cell (p := ⟨b, off + k * 4, none⟩) (Nat.lt_of_lt_of_le hbB hB)).trans hc0
      have c1 := (hb.cell (p := ⟨b, off + k * 4 + 1, none⟩) (Nat.lt_of_lt_of_le hbB hB)).trans hc1
      have c2 := (hb.cell (p := ⟨b, off + k * 4 + 2, none⟩) (Nat.lt_of_lt_of_le hbB hB)).trans hc2
      have c3 := (hb.cell (p := ⟨b, off + k * 4 + 3, none⟩) (Nat.lt_of_lt_of_le hbB hB)).trans hc3
      have HST := Lib.hid fun W (hW : Below wr.heap.size wr W) => Fill.snocL (hf.below hW) (by omega) hlt
      obtain ⟨y, hy⟩ : ∃ y, y = ls[k]'(by omega) := ⟨_, rfl⟩
      rw [← hy] at c0 c1 c2 c3 HST
      obtain ⟨s0, s1, s2, s3⟩ := y
      simp only at c0 c1 c2 c3 HST
      have HF := Lib.hid hf
      have HB := Lib.hid hb
      clear hc hc0 hc1 hc2 hc3 hy hf hb
      go_wp2_with fail
      refine (toLetter_any _ _ _ _ _).mono ?_
      rintro e w4 ⟨rfl, hb4⟩
      have hf := HF.out.below hb4
      obtain ⟨v0, hv0⟩ := hf.cell (k * 4) (by omega)
      obtain ⟨v1, hv1⟩ := hf.cell (k * 4 + 1) (by omega)
      obtain ⟨v2, hv2⟩ := hf.cell (k * 4 + 2) (by omega)
      obtain ⟨v3, hv3⟩ := hf.cell (k * 4 + 3) (by omega)
      have hfr0 := hf.free (k * 4)
      have hfr1 := hf.free (k * 4 + 1)
      have hfr2 := hf.free (k * 4 + 2)
      have hfr3 := hf.free (k * 4 + 3)
      have HST4 := Lib.hid (HST.out w4 hb4)
      have HB4 := Lib.hid (HB.out.trans (hb4.mono HB.out.size))
      clear hf hb4 c0 c1 c2 c3
      go_wp2
      go_roundw
      case rel => exact ⟨k + 1, by omega, by go_num, HST4.out, (((HB4.out.setCell (p := ⟨w.heap.size, k * 4, none⟩) (Nat.le_refl _) _).setCell (p := ⟨w.heap.size, k * 4 + 1, none⟩) (Nat.le_refl _) _).setCell (p := ⟨w.heap.size, k * 4 + 2, none⟩) (Nat.le_refl _) _).setCell (p := ⟨w.heap.size, k * 4 + 3, none⟩) (Nat.le_refl _) _⟩
      case measure => simp [intOf]; omega
    · have hkn : k = n := by omega
      subst hkn
      rw [List.take_of_length_le (by omega)] at hf
      go_wp2
      go_ret
      exact ⟨w.heap.size, rfl, Fill.own (by rw [show (ls.map ltCs).length = k by simp; exact HN.out]; exact hf) (by simp; exact HN.out) (by unfold maxLen; omega) (Nat.le_refl _) hf.lt, hb⟩

/-- A net that a call hands back: its slices in blocks of its own. -/
def NetV (now : Int) (is : List Int) (far : Int) (ls : List (Int × Int × Int × ByteArray)) (w : World) (e : Ending) (w' : World) : Prop :=
  ∃ A c A' c', e = .returned (.agg #[.int .i64 now, .slice A is.length c, .int .i64 far, .slice A' ls.length c']) ∧ OwnI w' w.heap.size w'.heap.size A c is ∧ OwnL w' w.heap.size w'.heap.size A' c' ls ∧ Below w.heap.size w w'

set_option maxRecDepth 100000 in
set_option maxHeartbeats 2000000 in
theorem toNet_any (now far : Int) (A A' : Option Addr) (n c n' c' : Nat) (is : List Int) (ls : List (Int × Int × Int × ByteArray)) (B : Nat) (w : World) (hn : is.length = n) (hn' : ls.length = n') (h : IntsB w B A is) (h' : LetsB w B A' ls) (hB : B ≤ w.heap.size) (hl : n ≤ 1048576) (hl' : n' ≤ 1048576) :
    Calls Try.prog 50 #[.agg #[.int .i64 now, .slice A n c, .int .i64 far, .slice A' n' c']] w (NetV now is far ls w) := by
  have HI := Lib.hid (fun W (hW : Below w.heap.size w W) => toIntS_any A n c is B W hn (h.below (hW.mono hB)) (Nat.le_trans hB hW.size) hl)
  have HL := Lib.hid (fun W (hW : Below w.heap.size w W) => toLetterS_any A' n' c' ls B W hn' (h'.below (hW.mono hB)) (Nat.le_trans hB hW.size) hl')
  have HN := Lib.hid hn
  have HN' := Lib.hid hn'
  unfold NetV
  rw [hn, hn']
  clear h h' hl hl' hn hn' hB
  go_enter Try.func50, Try.ntmps50
  go_wp2_with fail
  have hb0 := below3 w (.cells #[.int .i64 now, .slice A n c, .int .i64 far, .slice A' n' c'] 26) (.cells #[.int .i64 0, .slice none 0 0, .int .i64 0, .slice none 0 0] 35) (.cells #[.int .i64 now, .slice none 0 0, .int .i64 0, .slice none 0 0] 35)
  refine (HI.out _ hb0).mono ?_
  rintro e w1 ⟨g1, rfl, ho1, hb1⟩
  have HB1 := Lib.hid (hb0.trans (hb1.mono hb0.size))
  obtain ⟨hc, hf⟩ := bcell hb1
  have hz := hb1.size
  simp only [World.size_alloc] at hz hc hf
  have hz0 : w.heap.size < w1.heap.size := by omega
  have hz1 : w.heap.size + 1 < w1.heap.size := by omega
  have hz2 : w.heap.size + 1 + 1 < w1.heap.size := by omega
  have HO1 := Lib.hid ho1
  clear hb0 hb1 ho1
  go_wp2_with fail
  have hb2 := (HB1.out.setCell (p := ⟨w.heap.size + 1 + 1, 1, none⟩) (show w.heap.size ≤ w.heap.size + 1 + 1 by omega) (.slice (some ⟨g1, 0, none⟩) n n)).setCell (p := ⟨w.heap.size + 1 + 1, 2, none⟩) (show w.heap.size ≤ w.heap.size + 1 + 1 by omega) (.int .i64 far)
  refine (HL.out _ hb2).mono ?_
  rintro e w2 ⟨g2, rfl, ho2, hb3⟩
  have HB2 := Lib.hid (hb2.trans (hb3.mono hb2.size))
  have ho1 := (((HO1.out.low (p := ⟨w.heap.size + 1 + 1, 1, none⟩) (by simp) (.slice (some ⟨g1, 0, none⟩) n n)).low (p := ⟨w.heap.size + 1 + 1, 2, none⟩) (by simp) (.int .i64 far)).below (hb3.mono (by simp [World.setCell])))
  obtain ⟨hc2, hf2⟩ := bcell hb3
  have hy := hb3.size
  simp only [World.size_setCell] at hy hc2 hf2
  have hy0 : w.heap.size < w2.heap.size := by omega
  have hy1 : w.heap.size + 1 < w2.heap.size := by omega
  have hy2 : w.heap.size + 1 + 1 < w2.heap.size := by omega
  have HO2 := Lib.hid ho1
  have HO3 := Lib.hid ho2
  clear HO1 ho1 ho2 hb2 hb3
  go_wp2
  exact bodyPost_ret (v := .agg #[.int .i64 now, .slice (some ⟨g1, 0, none⟩) n n, .int .i64 far, .slice (some ⟨g2, 0, none⟩) n' n']) (by simp [results, Try.results50, go_sem, hc2, hf2, hc, hf, hy1, hz1]) rfl ⟨_, _, _, _, rfl,
    (OwnI.put4 (HO2.out.low (p := ⟨w.heap.size + 1 + 1, 3, none⟩) (by simp) _) (by simp)).wider (by simp; omega) (by simp [World.setCell]; omega),
    (OwnL.put4 (HO3.out.low (p := ⟨w.heap.size + 1 + 1, 3, none⟩) (by simp [World.setCell]; omega) _) (by simp [World.setCell]; omega)).wider (by simp [World.setCell]; omega) (by simp [World.setCell]),
    bel_put4 (HB2.out.setCell (p := ⟨w.heap.size + 1 + 1, 3, none⟩) (show w.heap.size ≤ w.heap.size + 1 + 1 by omega) _) (by omega)⟩
end Go.Proofs.Ytojplmjoipjabaa.Nt
